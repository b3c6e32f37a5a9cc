/-
  paren: the Check of the attributes' names takes an event; nameAttr, nameElem.
  paren: nameElem.
  paren: what a string that has ended says; a byte within a string; where a string begins.
-/
import Derived.Test.YtmimadkepflmlaaGreatDoorPaZ25
namespace Go.Proofs.YtmimadkepflmlaaGreatDoor
open Go.RowKit Go.Maps
set_option maxRecDepth 100000
set_option linter.unusedSimpArgs false
set_option linter.unusedVariables false
set_option linter.unusedSectionVars false
variable [Tab] [fo : Fo]
section
variable {w w' : World} {base b2 U m o ck : Nat} {s : Ps} {qp av : Value} {A A' : Nat → Prop}
/-- The events' Check lies as it lay; the other blocks are new. -/
theorem OutA.fresh {b : Nat} {st : List Pt} {l : List Ev} (h : OutA fo w b o ck st l A) (hs : w.heap.size ≤ w'.heap.size) (hk : ∀ (k : Nat) o', w.heap[k]? = some o' → ¬ pmOnly o' → w'.heap[k]? = some o') (hA : ∀ k, A' k → w.heap.size ≤ k ∧ k < w'.heap.size) : OutA fo w' b o ck st l A' := by
  obtain ⟨n, hn, ⟨lv, hB, hR, hf⟩, ⟨rb, cap, qs, hq, hC⟩, hb, ho⟩ := h
  have hl := crep_lim (Fo.plus fo A n hn) hC
  have hnf := crep_nf (Fo.plus fo A n hn) hC
  have hlt := crep_lt (Fo.plus fo A n hn) hC
  have hki := fun k o' => @CRep.kinds _ (Fo.plus fo A n hn) w b ck rb cap qs hC k o'
  have hC' := @CRep.same _ (Fo.plus fo A n hn) w w' b ck rb cap qs hC hs (fun k o' hi ho => hk k o' ho (by
    rcases hki k o' hi ho with ⟨cs, t, fr, rfl, hh⟩ | ⟨es, c', rfl⟩
    · intro hc; simp only [pmOnly] at hc; rcases hh with rfl | rfl <;> exact absurd hc (by decide)
    · exact fun hc => hc))
  have hB' : Blk w' o 52 #[.pointer (some ⟨ck, 0, none⟩), lv] := hk _ _ hB (by simp only [pmOnly]; decide)
  have hfl : Fo.lim ≤ w'.heap.size := Nat.le_trans (Nat.le_trans (Nat.le_max_left _ _) hl) hs
  refine ⟨w'.heap.size, fun k hk' => (hA k hk').2, @OAt.mk (Fo.plus fo A' w'.heap.size (fun k hk' => (hA k hk').2)) w' b o ck st l ⟨lv, hB', ?_, fun g hg hF => ?_⟩ ⟨rb, cap, qs, hq, crep_plus _ _ hC' (fun k hk' hF => ?_) (Nat.max_le.2 ⟨hfl, Nat.le_refl _⟩)⟩ hb (fun hF => ?_)⟩
  · refine ⟨hR.1, ?_⟩
    rcases hR.2 with hn | ⟨g', cap'', cur, hv, hg', hh, q⟩
    · exact .inl hn
    · exact .inr ⟨g', cap'', cur, hv, hg', hk _ _ hh (by simp only [pmOnly]; decide), q⟩
  · rcases hF with hF | hF
    · exact hf g hg (.inl hF)
    · have := (World.ownsRow.lt hR g hg).2
      have := (hA g hF).1
      omega
  · rcases hF with hF | hF
    · exact hnf k hk' (.inl hF)
    · have := hlt k hk'
      have := (hA k hF).1
      omega
  · rcases hF with hF | hF
    · exact ho (.inl hF)
    · have := hB.lt
      have := (hA o hF).1
      omega
theorem CRep.mono {b b' g rb cap : Nat} {qs : List PQ} (h : CRep w b' g rb cap qs) (hb : b ≤ b') : CRep w b g rb cap qs := by
  refine ⟨Nat.le_trans hb h.hg, h.blk, ⟨h.row.1, ?_⟩, ?_, h.nf⟩
  · rcases h.row.2 with hn | ⟨g', cap', cur, hv, hg', hh, q⟩
    · exact .inl hn
    · exact .inr ⟨g', cap', cur, hv, Nat.le_trans hb hg', hh, q⟩
  · have : ∀ l : List PQ, MapsOk w b' l → MapsOk w b l := by
      intro l
      induction l with
      | nil => intro h; exact h
      | cons q r ih => intro h; exact ⟨fun c hc => ⟨⟨Nat.le_trans hb (h.1 c hc).1.1, (h.1 c hc).1.2⟩, (h.1 c hc).2⟩, h.2.1, ih h.2.2⟩
    exact this qs h.maps
/-- The attributes' Check takes an event. -/
theorem PX.astep (h : PX w base b2 U m o ck s qp av A) (hsa : s.m.sa ≠ []) (hg : Good s.m.sa) (x : Ev) (hw : SW base w) (hs : x.t.size ≤ 140737488355328) :
    ∃ ga, av = .pointer (some ⟨ga, 0, none⟩) ∧ ∀ M', (M' : Pm) = { s.m with sa := stepS s.m.sa x } → Calls Tryz.prog 14 #[.pointer (some ⟨ga, 0, none⟩), evV x] w fun e w' => e = .returned (.int .i64 (stepE s.m.sa x)) ∧ (∃ A', PX w' base b2 U m o ck { s with m := M' } qp av A') ∧ Tch base tObj w w' := by
  rcases h.att with ⟨_, h0, _⟩ | ⟨g, rb, cap, qs, rfl, hr, hp, hA⟩
  · exact absurd h0 hsa
  refine ⟨g, rfl, fun M' hM' => ?_⟩
  subst hM'
  have hn : ∀ k, (k < w.heap.size ∧ ¬ A k) → k < w.heap.size := fun k hk => hk.1
  have hr' : @CRep (Fo.plus fo (fun k => k < w.heap.size ∧ ¬ A k) w.heap.size hn) w b2 g rb cap qs :=
    crep_plus fo _ hr (fun k hk hF => by
      rcases hF with hF | hF
      · exact crep_nf fo hr k hk hF
      · exact hF.2 ((hA k).2 hk)) (Nat.max_le.2 ⟨crep_lim fo hr, Nat.le_refl _⟩)
  refine (@estep_any _ (Fo.plus fo (fun k => k < w.heap.size ∧ ¬ A k) w.heap.size hn) w b2 g s.m.sa x ⟨rb, cap, qs, hp, hr'⟩ hg hw.std hs).mono ?_
  rintro e w' ⟨rfl, ⟨rb', cap', qs', hp', hr2⟩, ht⟩
  have hnf2 := crep_nf _ hr2
  have hlt2 := crep_lt _ hr2
  have hr3 : CRep w' b2 g rb' cap' qs' := crep_plus _ fo hr2 (fun k hk hF => hnf2 k hk (.inl hF)) (Nat.le_trans (Nat.le_max_left _ _) (crep_lim _ hr2))
  have ht0 : Tch b2 cObj w w' := tch_weak (Fo.plus fo (fun k => k < w.heap.size ∧ ¬ A k) w.heap.size hn) fo (fun k hk => Or.inl hk) ht
  have htb : Tch base tObj w w' := (Tch.of_up ht0 h.b2.1).wide fun _ => c_of_t
  have hblk : ∀ k o', ¬ A k → w.heap[k]? = some o' → w'.heap[k]? = some o' := by
    obtain ⟨_, _, _, _, hb⟩ := ht
    exact fun k o' hA ho => hb k o' ho (.inr (.inr (.inr ⟨(Array.getElem?_eq_some_iff.1 ho).1, hA⟩)))
  refine ⟨rfl, ⟨fun k => inC g rb' qs' k, ⟨?_, h.us.low (ht0.below h.b2.2), .inr ⟨g, rb', cap', qs', rfl, hr3, hp', fun _ => Iff.rfl⟩, ?_, ⟨h.b2.1, Nat.le_trans h.b2.2 ht0.size⟩, fun h4 => ?_⟩⟩, htb⟩
  · have hM := h.mc.tch htb (fun cs t fr hh hc => by simp only [tObj] at hc; rcases hh with rfl | rfl <;> exact absurd hc (by decide))
    exact ⟨hM.ex, hM.bm, hM.nf, hM.lim⟩
  · obtain ⟨n, hn', ⟨lv, hB, hR, hf⟩, ⟨rbo, capo, qso, hqo, hC⟩, hb, ho⟩ := h.out
    have hnf := crep_nf (Fo.plus fo A n hn') hC
    have hlt := crep_lt (Fo.plus fo A n hn') hC
    have hC' := @CRep.same _ (Fo.plus fo A n hn') w w' b2 ck rbo capo qso hC ht0.size (fun k o' hi hoo => hblk k o' (fun ha => hnf k hi (.inr ha)) hoo)
    have hfl : Fo.lim ≤ w'.heap.size := Nat.le_trans (crep_lim fo hr) ht0.size
    have hnA : ∀ k, k < w.heap.size → ¬ A k → ¬ inC g rb' qs' k := fun k h1 h2 h3 => hnf2 k h3 (.inr ⟨h1, h2⟩)
    refine ⟨w'.heap.size, hlt2, @OAt.mk (Fo.plus fo (fun k => inC g rb' qs' k) w'.heap.size hlt2) w' b2 o ck _ _ ⟨lv, hblk _ _ (fun ha => ho (.inr ha)) hB, ?_, fun gl hgl hF => ?_⟩ ⟨rbo, capo, qso, hqo, crep_plus _ _ hC' (fun k hk' hF => ?_) (Nat.max_le.2 ⟨hfl, Nat.le_refl _⟩)⟩ hb (fun hF => ?_)⟩
    · refine ⟨hR.1, ?_⟩
      rcases hR.2 with hn | ⟨g', cap'', cur, hv, hg', hh, q⟩
      · exact .inl hn
      · exact .inr ⟨g', cap'', cur, hv, hg', hblk _ _ (fun ha => hf g' (by rw [hv]; rfl) (.inr ha)) hh, q⟩
    · rcases hF with hF | hF
      · exact hf gl hgl (.inl hF)
      · exact hnA gl (World.ownsRow.lt hR gl hgl).2 (fun ha => hf gl hgl (.inr ha)) hF
    · rcases hF with hF | hF
      · exact hnf k hk' (.inl hF)
      · exact hnA k (hlt k hk') (fun ha => hnf k hk' (.inr ha)) hF
    · rcases hF with hF | hF
      · exact ho (.inl hF)
      · exact hnA o hB.lt (fun ha => ho (.inr ha)) hF
  · obtain ⟨gq, e, hQ, hgq⟩ := h.qa h4
    exact ⟨gq, e, qat_tch hQ htb (fun cs t fr hh hc => by simp only [tObj] at hc; rcases hh with rfl | rfl <;> exact absurd hc (by decide)), hgq⟩
end

set_option maxHeartbeats 4000000 in
theorem nameAttr_any (w : World) (base b2 U m o ck : Nat) (s : Ps) (qp av : Value) (A : Nat → Prop) (t : ByteArray) (h : PX w base b2 U m o ck s qp av A) (ht : t.size ≤ 48) (hsa : s.m.sa ≠ []) (hga : Good s.m.sa) (hw : SW base w) :
    Calls Tryz.prog 178 #[.pointer (some ⟨m, 0, none⟩), .string t] w (PPo w base b2 U m o ck (nameAttrP s t)) := by
  have hb : base ≤ w.heap.size := Nat.le_trans h.b2.1 h.b2.2
  have hN := isName_any t w (by omega)
  unfold nameAttrP
  cases hn : isNm t with
  | false =>
    rw [if_pos rfl]
    rw [hn] at hN
    have HN := Lib.hid hN
    have H := Lib.hid h
    clear hn hN h hw
    go_enter Tryz.func178, Tryz.ntmps178
    go_wp2_with fail
    refine HN.out.mono ?_
    rintro e w1 ⟨rfl, hb1⟩
    have HF : Hid (PPo w base b2 U m o ck ⟨s, 18⟩ (.returned (.int .i64 18)) w1) := Lib.hid ⟨rfl, ⟨_, _, _, H.out.below hb1⟩, Tch.of_below hb1⟩
    clear hb1 HN H
    go_wp2
    go_ret
    exact HF.out
  | true =>
    rw [if_neg (by decide)]
    rw [hn] at hN
    have HN := Lib.hid hN
    have H := Lib.hid h
    have HSW := Lib.hid hw
    clear hn hN h hw
    go_enter Tryz.func178, Tryz.ntmps178
    go_wp2_with fail
    refine HN.out.mono ?_
    rintro e w1 ⟨rfl, hb1⟩
    have hP1 := H.out.below hb1
    obtain ⟨_, _, _, _, _, _, _, _, d8, d9⟩ := hP1.mc.cells
    have f8 := hP1.mc.frz 8
    have hl1 := hP1.mc.lt
    have hM2 := hP1.mc.set 8 (.string t) (M' := { s.m with at' := t }) (fun ov => rfl) rfl
    have ht2 := hP1.mc.touch 8 (.string t)
    have hP2 := hP1.pm (ht2.wide fun _ => pm_of) hM2 rfl (fun h => ⟨h, rfl⟩)
    have hw2 := (HSW.out.below (hb1.mono hb)).tch ht2 (Nat.le_trans hb hb1.size)
    have HTT := Lib.hid ((Tch.of_below (base := base) (p := pObj) hb1).trans (ht2.wide (q := pObj) fun _ => p_mo))
    obtain ⟨ga, rfl, hC⟩ := hP2.astep hsa hga ⟨11, t, ⟨#[]⟩⟩ hw2 (by simp only; omega)
    have HC := Lib.hid (hC _ rfl)
    obtain ⟨_, _, _, _, _, _, _, _, k8, k9⟩ := hP2.mc.cells
    have hl2 := hP2.mc.lt
    unfold evV at HC
    clear hb1 hP1 hM2 ht2 hP2 hw2 hC HN H
    simp only at HC
    generalize stepE s.m.sa ⟨11, t, ⟨#[]⟩⟩ = E at *
    generalize stepS s.m.sa ⟨11, t, ⟨#[]⟩⟩ = S2 at *
    go_wp2_with fail
    refine HC.out.mono ?_
    rintro e w3 ⟨rfl, ⟨A', hP3⟩, ht3⟩
    have HF : Hid (PPo w base b2 U m o ck ⟨{ s with m := { s.m with at' := t, sa := S2 } }, E⟩ (.returned (.int .i64 E)) w3) := Lib.hid ⟨rfl, ⟨_, _, _, hP3⟩, HTT.out.trans (ht3.wide fun _ => p_t)⟩
    clear hP3 ht3 HC HTT
    go_wp2
    go_ret
    exact HF.out
end Go.Proofs.YtmimadkepflmlaaGreatDoor
namespace Go.Proofs.YtmimadkepflmlaaGreatDoor
open Go.RowKit Go.Maps
set_option maxRecDepth 100000
set_option linter.unusedSimpArgs false
set_option linter.unusedVariables false
set_option linter.unusedSectionVars false
variable [Tab] [fo : Fo]

set_option maxHeartbeats 8000000 in
theorem nameElem_any (w : World) (base b2 U m o ck : Nat) (s : Ps) (qp av : Value) (A : Nat → Prop) (t : ByteArray) (h : PX w base b2 U m o ck s qp av A) (ht : t.size ≤ 48) (hw4 : s.m.wi ≠ 4) (hg : Good s.st) (hl : s.l.length ≤ 1000000) (hw : SW base w) :
    Calls Tryz.prog 179 #[.pointer (some ⟨m, 0, none⟩), .string t, .pointer (some ⟨o, 0, none⟩)] w (PPo w base b2 U m o ck (nameElemP s t)) := by
  have hb : base ≤ w.heap.size := Nat.le_trans h.b2.1 h.b2.2
  have hN := isName_any t w (by omega)
  unfold nameElemP
  cases hn : isNm t with
  | false =>
    rw [if_pos rfl]
    rw [hn] at hN
    have HN := Lib.hid hN
    have H := Lib.hid h
    clear hn hN h hw
    go_enter Tryz.func179, Tryz.ntmps179
    go_wp2_with fail
    refine HN.out.mono ?_
    rintro e w1 ⟨rfl, hb1⟩
    have HF : Hid (PPo w base b2 U m o ck ⟨s, 18⟩ (.returned (.int .i64 18)) w1) := Lib.hid ⟨rfl, ⟨_, _, _, H.out.below hb1⟩, Tch.of_below hb1⟩
    clear hb1 HN H
    go_wp2
    go_ret
    exact HF.out
  | true =>
    rw [if_neg (by decide)]
    rw [hn] at hN
    have HN := Lib.hid hN
    have H := Lib.hid h
    have HSW := Lib.hid hw
    clear hn hN h hw
    go_enter Tryz.func179, Tryz.ntmps179
    go_wp2_with fail
    refine HN.out.mono ?_
    rintro e w1 ⟨rfl, hb1⟩
    have al : Below w1.heap.size w1 (w1.alloc (.cells #[.int .i64 10, .string t, .string ⟨#[]⟩] 36)) := (Below.refl _ _).alloc (Nat.le_refl _) _
    have hX := Blk.new w1 36 #[.int .i64 10, .string t, .string ⟨#[]⟩]
    have hP2 := (H.out.below hb1).below al
    have hb2 : Below w.heap.size w (w1.alloc (.cells #[.int .i64 10, .string t, .string ⟨#[]⟩] 36)) := hb1.trans (al.mono hb1.size)
    have hw2 := HSW.out.below (hb2.mono hb)
    obtain ⟨W2, hW2⟩ : ∃ W2, w1.alloc (.cells #[.int .i64 10, .string t, .string ⟨#[]⟩] 36) = W2 := ⟨_, rfl⟩
    rw [hW2] at hX hP2 hb2 hw2
    have hN2 := Lib.hid (cnew_any W2 W2.heap.size (Nat.le_refl _) hP2.mc.lim)
    have HP2 := Lib.hid hP2
    have HX := Lib.hid hX
    have HB2 := Lib.hid hb2
    have HSW2 := Lib.hid hw2
    have HW2 := Lib.hid hW2
    clear hb1 al hX hP2 hb2 hw2 HN H hW2
    go_wp2_with fail
    rw [HW2.out]
    refine hN2.out.mono ?_
    rintro e w3 ⟨g, rfl, hgg, hC3, hb3⟩
    have hX3 := HX.out.below hb3 HX.out.lt
    have hM3 := HP2.out.mc.below hb3
    obtain ⟨_, _, _, _, _, _, _, _, _, k9⟩ := hM3.cells
    have f9 := hM3.frz 9
    have hl3 := hM3.lt
    have hM4 := hM3.set 9 (.pointer (some ⟨g, 0, none⟩)) (M' := s.m) (fun ov => rfl) rfl
    have t4 := hM3.touch 9 (.pointer (some ⟨g, 0, none⟩))
    have hX4 := hX3.tch t4 (.inr (by simp only [pmOnly]; decide))
    have hC4 : CAt (w3.setCell ⟨m, 9, none⟩ (.pointer (some ⟨g, 0, none⟩))) W2.heap.size g [topP] := by
      obtain ⟨rb, cap, qs, hq, hr⟩ := hC3
      exact ⟨rb, cap, qs, hq, hr.tchX t4 (fun cs t fr hh hc => by simp only [pmOnly] at hc; rcases hh with rfl | rfl <;> exact absurd hc (by decide)) (fun _ _ hc => hc)⟩
    obtain ⟨W4, hW4⟩ : ∃ W4, w3.setCell ⟨m, 9, none⟩ (.pointer (some ⟨g, 0, none⟩)) = W4 := ⟨_, rfl⟩
    rw [hW4] at hM4 t4 hX4 hC4
    have hs34 : W2.heap.size ≤ W4.heap.size := Nat.le_trans hb3.size t4.size
    have hlow4 : Below base W2 W4 := (hb3.mono (Nat.le_trans HP2.out.b2.1 HP2.out.b2.2)).trans (t4.below (Nat.le_trans (Nat.le_trans HP2.out.b2.1 HP2.out.b2.2) hb3.size))
    have hw4s := HSW2.out.below hlow4
    obtain ⟨_, _, _, _, _, _, _, _, _, d9⟩ := hM4.cells
    have hl4 := hM4.lt
    have x0 : W4.cell? ⟨w1.heap.size, 0, none⟩ = some (.int .i64 10) := hX4.cell 0
    have x1 : W4.cell? ⟨w1.heap.size, 1, none⟩ = some (.string t) := hX4.cell 1
    have x2 : W4.cell? ⟨w1.heap.size, 2, none⟩ = some (.string ⟨#[]⟩) := hX4.cell 2
    have hdr : Below W4.heap.size W4 W4.drew := below_drew (Below.refl _ _)
    have hS := Lib.hid (estep_any W4.drew W2.heap.size g [topP] ⟨10, t, ⟨#[]⟩⟩ (hC4.below hdr) good_start (hw4s.below (hdr.mono (Nat.le_trans hb (Nat.le_trans HB2.out.size hs34)))).std (by simp only; omega))
    unfold SPost evV at hS
    have hkeep : ∀ k o', W2.heap[k]? = some o' → ¬ pmOnly o' → W4.heap[k]? = some o' := fun k o' ho hn => t4.block k o' ((hb3.block k (Array.getElem?_eq_some_iff.1 ho).1).trans ho) (.inr (.inl hn))
    have HK := Lib.hid (And.intro hkeep (And.intro hs34 hM4))
    have HX4 := Lib.hid hX4
    have HT4 := Lib.hid ((Tch.of_below HB2.out (base := base) (p := pObj)).trans ((Tch.of_below hb3).trans (t4.wide (q := pObj) fun _ => p_mo)))
    have HSW4 := Lib.hid hw4s
    have HUS4 := Lib.hid ((HP2.out.us.low (hb3.mono HP2.out.b2.2)).tch t4 (fun _ _ hc => hc))
    clear hX3 hM3 hM4 t4 hX4 hC3 hC4 hb3 hlow4 hw4s hdr hkeep hN2 HX
    go_wp2
    go_still_tail 5, (by kernel_rfl)
    change wpList _ _ _ _ _ W4.drew
    generalize hwd : W4.drew = wd at *
    have hdd : Below W4.heap.size W4 wd := by rw [← hwd]; exact below_drew (Below.refl _ _)
    have HD := Lib.hid hdd
    clear hwd hdd d9 x0 x1 x2 hW4 k9 f9
    go_wp2_with fail
    refine hS.out.mono ?_
    rintro e w5 ⟨rfl, hC5, hT5⟩
    obtain ⟨rb, cap, qs, hq, hr⟩ := hC5
    obtain ⟨hkeep, hs34, hM4⟩ := HK.out
    have hs45 : W2.heap.size ≤ wd.heap.size := Nat.le_trans hs34 HD.out.size
    have hlow5 : Below W2.heap.size wd w5 := hT5.below hs45
    have hM5 : PmAt w5 base m s.m (.map (some U)) qp (.pointer (some ⟨g, 0, none⟩)) := (hM4.below HD.out).tch (Tch.of_up hT5 (Nat.le_trans HP2.out.b2.1 HP2.out.b2.2)) (fun cs t fr hh hc => by simp only [cObj] at hc; rcases hh with rfl | rfl <;> exact absurd hc (by decide))
    have hP5 : PX w5 base b2 U m o ck { s with m := { s.m with sa := stepS [topP] ⟨10, t, ⟨#[]⟩⟩ } } qp (.pointer (some ⟨g, 0, none⟩)) (fun k => inC g rb qs k) := by
      refine ⟨⟨hM5.ex, hM5.bm, hM5.nf, hM5.lim⟩, (HUS4.out.low (HD.out.mono (Nat.le_trans HP2.out.b2.2 hs34))).low (hlow5.mono HP2.out.b2.2), .inr ⟨g, rb, cap, qs, rfl, hr.mono HP2.out.b2.2, hq, fun _ => Iff.rfl⟩, ?_, ⟨HP2.out.b2.1, Nat.le_trans HP2.out.b2.2 (Nat.le_trans hs45 hT5.size)⟩, fun h4 => absurd h4 hw4⟩
      refine HP2.out.out.fresh (Nat.le_trans hs45 hT5.size) (fun k o' ho hn => ?_) (fun k hk => ⟨?_, crep_lt fo hr k hk⟩)
      · have h1 := hkeep k o' ho hn
        have h2 := (HD.out.block k (Array.getElem?_eq_some_iff.1 h1).1).trans h1
        exact (hlow5.block k (Array.getElem?_eq_some_iff.1 ho).1).trans h2
      · rcases hk with rfl | rfl | ⟨q, hq', hqk⟩
        · exact hr.hg
        · exact hr.rb_ge
        · have : ∀ l : List PQ, MapsOk w5 W2.heap.size l → ∀ q ∈ l, q.m = some k → W2.heap.size ≤ k := by
            intro l
            induction l with
            | nil => intro _ q hq; cases hq
            | cons p r ih =>
              intro hM q hq hk
              rcases List.mem_cons.1 hq with rfl | hq
              · exact (hM.1 k hk).1.1
              · exact ih hM.2.2 q hq hk
          exact this qs hr.maps q hq' hqk
    have hw5 := (HSW4.out.below (HD.out.mono (Nat.le_trans hb (Nat.le_trans HB2.out.size hs34)))).below (hlow5.mono (Nat.le_trans hb HB2.out.size))
    have HTe := Lib.hid (hP5.tell ⟨10, t, ⟨#[]⟩⟩ hg hw5 (by simp only; omega) hl)
    have HTT := Lib.hid (HT4.out.trans ((Tch.of_below HD.out).trans ((Tch.of_up hT5 (Nat.le_trans HP2.out.b2.1 HP2.out.b2.2)).wide (q := pObj) fun _ h => p_t (c_of_t h))))
    have hX5 := ((HX4.out.below HD.out HX4.out.lt).tch hT5 (.inr (by simp only [cObj]; decide)))
    have y0 : w5.cell? ⟨w1.heap.size, 0, none⟩ = some (.int .i64 10) := hX5.cell 0
    have y1 : w5.cell? ⟨w1.heap.size, 1, none⟩ = some (.string t) := hX5.cell 1
    have y2 : w5.cell? ⟨w1.heap.size, 2, none⟩ = some (.string ⟨#[]⟩) := hX5.cell 2
    clear hr hkeep hM4 hlow5 hM5 hP5 hw5 hX5 hT5 HD HK HX4 HT4 HSW4 HUS4 HP2 HB2 HSW2 hS
    go_wp2_with fail
    refine HTe.out.mono ?_
    intro e w6 hp
    have HF := Lib.hid (hp.p HTT.out)
    have he := hp.1
    clear hp
    subst he
    go_wp2
    go_ret
    exact HF.out
end Go.Proofs.YtmimadkepflmlaaGreatDoor
namespace Go.Proofs.YtmimadkepflmlaaGreatDoor
open Go.RowKit Go.Maps
set_option maxRecDepth 100000
set_option linter.unusedSimpArgs false
set_option linter.unusedVariables false
set_option linter.unusedSectionVars false
variable [Tab] [fo : Fo]

theorem emp_of {t : ByteArray} (h : t.size = 0) : t = ⟨#[]⟩ := by
  cases t with
  | mk d => congr 1; exact Array.eq_empty_of_size_eq_zero h
set_option maxHeartbeats 8000000 in
theorem endString_any (w : World) (base b2 U m o ck : Nat) (s : Ps) (qp av : Value) (A : Nat → Prop) (t : ByteArray) (h : PX w base b2 U m o ck s qp av A) (ht : t.size ≤ 48) (hw4 : s.m.wi ≠ 4) (huk : s.m.uk = 0 ∨ s.m.uk = 4 ∨ s.m.uk = 8 ∨ s.m.uk = 10 ∨ s.m.uk = 11) (hsa : s.m.uk = 0 → s.m.sa ≠ [] ∧ Good s.m.sa) (hne : s.m.op ≠ []) (hat : s.m.at'.size ≤ 48) (hg : Good s.st) (hl : s.l.length ≤ 1000000) (hw : SW base w) :
    Calls Tryz.prog 173 #[.pointer (some ⟨m, 0, none⟩), .string t, .pointer (some ⟨o, 0, none⟩)] w (PPo w base b2 U m o ck (endStringP s t)) := by
  obtain ⟨_, _, _, _, c4, c5, _, _, c8, _⟩ := h.mc.cells
  have hml := h.mc.lt
  have hT := fun x hx => h.tell x hg hw hx hl
  have hId : Tch base pObj w w := Tch.refl _ _ _
  unfold endStringP
  rcases huk with hk | hk | hk | hk | hk
  · rw [if_pos hk]
    rw [hk] at c4
    obtain ⟨h1, h2⟩ := hsa hk
    have HC := Lib.hid (nameAttr_any w base b2 U m o ck s qp av A t h ht h1 h2 hw)
    clear hT h hw hk h1 h2 hsa
    go_enter Tryz.func173, Tryz.ntmps173
    go_wp2_with fail
    refine HC.out.mono ?_
    intro e w5 hp
    have HF := Lib.hid hp
    obtain ⟨rfl, _⟩ := hp
    go_wp2
    go_ret
    exact HF.out
  · rw [if_neg (by omega), if_neg (by omega), if_neg (by omega)]
    rw [hk] at c4
    have hI := Lib.hid (inner_any w base m s.m _ qp av h.mc hne)
    by_cases h10 : topI s.m.op = 10
    · by_cases hz : t.size = 0
      · rw [if_pos ⟨hk, h10, hz⟩]
        have hte := emp_of hz
        subst hte
        have HF : Hid (∀ n, PPo w base b2 U m o ck ⟨s, 2⟩ (.returned (.int .i64 2)) (w.drewN n)) := Lib.hid fun n => ⟨rfl, ⟨_, _, _, h.below (below_drewN (Below.refl _ _) n)⟩, Tch.of_below (below_drewN (Below.refl _ _) n)⟩
        rw [h10] at hI
        clear hT h hw hk hsa hz h10
        go_enter Tryz.func173, Tryz.ntmps173
        go_wp2_with fail
        refine hI.out.mono ?_
        rintro e w' ⟨rfl, n, rfl⟩
        go_wp2
        go_ret
        exact HF.out n
      · rw [if_neg (fun hc => hz hc.2.2), hk]
        have hte : t.toList.isEmpty = false := by
          rw [Lib.toList_data, List.isEmpty_eq_false_iff]
          intro e
          apply hz
          show t.data.size = 0
          rw [← Array.length_toList, e]
          rfl
        rw [h10] at hI
        have HC : Hid (∀ n, Calls Tryz.prog 143 #[.pointer (some ⟨o, 0, none⟩), .agg #[.int .i64 4, .string t, .string ⟨#[]⟩]] (w.drewN n) (TPost (w.drewN n) base b2 U m o ck s qp av A ⟨4, t, ⟨#[]⟩⟩)) := Lib.hid fun n => (h.below (below_drewN (Below.refl _ _) n)).tell ⟨4, t, ⟨#[]⟩⟩ hg (hw.below (below_drewN (Below.refl _ _) n)) (by simp only; omega) hl
        have HD : Hid (∀ n, Tch base pObj w (w.drewN n) ∧ (w.drewN n).cell? ⟨m, 4, none⟩ = some (.int .i64 4) ∧ m < (w.drewN n).heap.size) := Lib.hid fun n => ⟨Tch.of_below (below_drewN (Below.refl _ _) n), c4, hml⟩
        clear hT h hw hk hsa hz h10 hId
        go_enter Tryz.func173, Tryz.ntmps173
        go_wp2_with fail
        refine hI.out.mono ?_
        rintro e w' ⟨rfl, n, hn⟩
        obtain ⟨hd1, hd2, hd3⟩ := HD.out n
        have HCn := Lib.hid (HC.out n)
        have HDn := Lib.hid hd1
        rw [← hn] at hd2 hd3 HCn HDn
        clear hn hd1 HC HD
        go_wp2_with fail
        refine HCn.out.mono ?_
        intro e w5 hp
        have HF := Lib.hid (hp.p HDn.out)
        have he := hp.1
        clear hp
        subst he
        go_wp2
        go_ret
        exact HF.out
    · rw [if_neg (fun hc => h10 hc.2.1), hk]
      have z := ib_f h10
      generalize topI s.m.op = tb at *
      have HC : Hid (∀ n, Calls Tryz.prog 143 #[.pointer (some ⟨o, 0, none⟩), .agg #[.int .i64 4, .string t, .string ⟨#[]⟩]] (w.drewN n) (TPost (w.drewN n) base b2 U m o ck s qp av A ⟨4, t, ⟨#[]⟩⟩)) := Lib.hid fun n => (h.below (below_drewN (Below.refl _ _) n)).tell ⟨4, t, ⟨#[]⟩⟩ hg (hw.below (below_drewN (Below.refl _ _) n)) (by simp only; omega) hl
      have HD : Hid (∀ n, Tch base pObj w (w.drewN n) ∧ (w.drewN n).cell? ⟨m, 4, none⟩ = some (.int .i64 4) ∧ m < (w.drewN n).heap.size) := Lib.hid fun n => ⟨Tch.of_below (below_drewN (Below.refl _ _) n), c4, hml⟩
      clear hT h hw hk hsa h10 hId
      go_enter Tryz.func173, Tryz.ntmps173
      go_wp2_with fail
      refine hI.out.mono ?_
      rintro e w' ⟨rfl, n, hn⟩
      obtain ⟨hd1, hd2, hd3⟩ := HD.out n
      have HCn := Lib.hid (HC.out n)
      have HDn := Lib.hid hd1
      rw [← hn] at hd2 hd3 HCn HDn
      clear hn hd1 HC HD
      go_wp2_with fail
      refine HCn.out.mono ?_
      intro e w5 hp
      have HF := Lib.hid (hp.p HDn.out)
      have he := hp.1
      clear hp
      subst he
      go_wp2
      go_ret
      exact HF.out
  · rw [if_neg (by omega), if_neg (by omega), if_neg (by omega), if_neg (by omega), hk]
    rw [hk] at c4
    have HC := Lib.hid (hT ⟨8, t, ⟨#[]⟩⟩ (by simp only; omega))
    have HI := Lib.hid hId
    clear hT h hw hk hsa hId
    go_enter Tryz.func173, Tryz.ntmps173
    go_wp2_with fail
    refine HC.out.mono ?_
    intro e w5 hp
    have HF := Lib.hid (hp.p HI.out)
    have he := hp.1
    clear hp
    subst he
    go_wp2
    go_ret
    exact HF.out
  · rw [if_neg (by omega), if_neg (by omega), if_pos hk]
    rw [hk] at c4
    have HC := Lib.hid (nameElem_any w base b2 U m o ck s qp av A t h ht hw4 hg hl hw)
    clear hT h hw hk hsa
    go_enter Tryz.func173, Tryz.ntmps173
    go_wp2_with fail
    refine HC.out.mono ?_
    intro e w5 hp
    have HF := Lib.hid hp
    obtain ⟨rfl, _⟩ := hp
    go_wp2
    go_ret
    exact HF.out
  · rw [if_neg (by omega), if_pos hk]
    rw [hk] at c4
    have HC := Lib.hid (hT ⟨11, s.m.at', t⟩ (by simp only; omega))
    have HI := Lib.hid hId
    clear hT h hw hk hsa hId
    go_enter Tryz.func173, Tryz.ntmps173
    go_wp2_with fail
    refine HC.out.mono ?_
    intro e w5 hp
    have HF := Lib.hid (hp.p HI.out)
    have he := hp.1
    clear hp
    subst he
    go_wp2
    go_ret
    exact HF.out
end Go.Proofs.YtmimadkepflmlaaGreatDoor

/-
  stream: New and Decode, for any machine.
  delim: its machine as one that a Stream drives; Decode.
-/
import Derived.Test.YtalkjgijmceifaaGreatDoorDwA35
import Derived.Test.YtalkjgijmceifaaGreatDoorDwA32
import Derived.Test.YtalkjgijmceifaaGreatDoorDwA34
namespace Go.Proofs.YtalkjgijmceifaaGreatDoor
open Go.RowKit Go.Maps
set_option maxRecDepth 100000
set_option linter.unusedSimpArgs false
set_option linter.unusedVariables false
set_option linter.unusedSectionVars false
variable [Tab] [Fo]
theorem RowT.erow [Fo] {w : World} {base : Nat} {v : Value} {l : List Ev} (htk : Fo.tk = none) (h : RowT w base v l) : ERow w base v l := by
  rcases h with ⟨_, h⟩ | ⟨n, h, _⟩
  · exact h
  · rw [htk] at h; cases h
/-- Where the text ends, or the error is met. -/
theorem at_any (w : World) (s o rd : Nat) (s4 : w.cell? ⟨s, 4, none⟩ = some (.int .i64 (rd : Int))) (s2 : w.cell? ⟨s, 2, none⟩ = some (.pointer (some ⟨o, 0, none⟩))) (o2 : w.cell? ⟨o, 2, none⟩ = some (.int .i64 0)) (hr : rd ≤ 1000000) :
    Calls Tryz.prog 26 #[.pointer (some ⟨s, 0, none⟩)] w fun e w' => e = .returned (.int .i64 (rd : Int)) ∧ w' = w.drew := by
  go_enter Tryz.func26, Tryz.ntmps26
  go_wp2
  go_region
  go_wp2
  go_ret
  exact ⟨rfl, rfl⟩
variable (M : Mach)

set_option maxHeartbeats 4000000 in
theorem snew_any (w : World) (base m : Nat) (hM : M.raw w base m) (htk : Fo.tk = none) (hb : base ≤ w.heap.size) :
    Calls Tryz.prog 23 #[.iface M.T (.pointer (some ⟨m, 0, none⟩))] w fun e w' => ∃ B s sc o ck, e = .returned (.pointer (some ⟨s, 0, none⟩)) ∧ StA w' base B s m sc o ck (ss0 M.toMachP) false false ∧ LowF base w w' := by
  go_enter Tryz.func23, Tryz.ntmps23
  go_wp2_with (first
    | (go_at_call 35; refine (new_any _).mono ?_; rintro e w1 ⟨rfl, rfl⟩))
  have hS1 : ScanAt (w.alloc (.cells #[.int .i64 0, .int .u8 128, .int .u8 191] 101)) w.heap.size 0 128 191 := Blk.new w _ _
  have al1 : Below w.heap.size w (w.alloc (.cells #[.int .i64 0, .int .u8 128, .int .u8 191] 101)) := (Below.refl _ _).alloc (Nat.le_refl _) _
  have hfl := M.raw_lim hM
  obtain ⟨W0, hW0⟩ : ∃ W0, w.alloc (.cells #[.int .i64 0, .int .u8 128, .int .u8 191] 101) = W0 := ⟨_, rfl⟩
  have hz1 : w.heap.size ≤ W0.heap.size := by rw [← hW0]; simp
  have hz0 : base ≤ W0.heap.size := Nat.le_trans hb (by rw [← hW0]; simp)
  rw [hW0] at hS1 al1 ⊢
  go_wp2_with (first
    | (go_at_call 18; refine (cnew_any W0 W0.heap.size (Nat.le_refl _) (Nat.le_trans hfl hz1)).mono ?_; rintro e w2 ⟨ck, rfl, hck, hC2, hb2⟩))
  go_ret
  have hz2 : W0.heap.size ≤ w2.heap.size := hb2.size
  have hS2 := hS1.below hb2 hS1.lt
  have hT : Below w2.heap.size w2 ((w2.alloc (.cells #[.pointer (some ⟨ck, 0, none⟩), .slice none 0 0, .int .i64 0] 47)).alloc (.cells (sCells M.T m w.heap.size w2.heap.size 0 0 false false) 51)) := ((Below.refl _ _).alloc (Nat.le_refl _) _).alloc (by simp) _
  have hO := Blk.new w2 47 #[.pointer (some ⟨ck, 0, none⟩), .slice none 0 0, .int .i64 0]
  have hO3 := hO.alloc (.cells (sCells M.T m w.heap.size w2.heap.size 0 0 false false) 51)
  have hSB := Blk.new (w2.alloc (.cells #[.pointer (some ⟨ck, 0, none⟩), .slice none 0 0, .int .i64 0] 47)) 51 (sCells M.T m w.heap.size w2.heap.size 0 0 false false)
  have hsz : (w2.alloc (.cells #[.pointer (some ⟨ck, 0, none⟩), .slice none 0 0, .int .i64 0] 47)).heap.size = w2.heap.size + 1 := by simp
  rw [hsz] at hSB
  refine ⟨((w2.alloc (.cells #[.pointer (some ⟨ck, 0, none⟩), .slice none 0 0, .int .i64 0] 47)).alloc (.cells (sCells M.T m w.heap.size w2.heap.size 0 0 false false) 51)).heap.size, w2.heap.size + 1, w.heap.size, w2.heap.size, ck, rfl, ?_, ?_⟩
  · refine ⟨hSB, hS2.below hT hS2.lt, M.start hM hb ((al1.trans (hb2.mono hz1)).trans (hT.mono (Nat.le_trans hz1 hz2))) hz1 (Nat.le_trans hz2 hT.size) ⟨⟨_, hO3, RowT.nil htk _ _, NF.nil⟩, hC2.below hT, hz2, nf_new (by omega)⟩, ⟨nf_new (by omega), nf_new hfl⟩, ?_⟩
    have := hS1.lt
    exact ⟨hSB.lt, Nat.lt_of_lt_of_le hS2.lt hT.size, by omega, hb, Nat.le_refl _, Nat.le_trans (Nat.le_trans hz0 hz2) hT.size⟩
  · exact ((LowF.of_below al1 hb).trans (LowF.of_below hb2 hz0)).trans (LowF.of_below hT (Nat.le_trans hz0 hz2))

variable {M}
/-- What a decoder returns. -/
def DEnd (lv : Value) (x : Ss M.toMachP) : Ending := .returned (.tuple #[lv, .int .i64 (closeE x), .int .i64 (x.rd : Int)])

set_option maxHeartbeats 4000000 in
theorem sdecode_any (w : World) (base m : Nat) (v : Value) (bs : List UInt8) (hM : M.raw w base m) (htk : Fo.tk = none) (hb : base ≤ w.heap.size) (hn : bs.length ≤ 50000) (hv : ∀ w', Below base w w' → BRead w' v bs) (hw : SN M.num base w) :
    Calls Tryz.prog 16 #[.iface M.T (.pointer (some ⟨m, 0, none⟩)), v] w fun e w' => ∃ lv, e = DEnd lv (feedG (ss0 M.toMachP) bs) ∧ ERow w' base lv (M.l (closeBs (feedG (ss0 M.toMachP) bs))) ∧ Below base w w' := by
  have hx := sinv_feedG bs (ss0 M.toMachP) 0 sinv0
  rw [Nat.zero_add] at hx
  have HX := Lib.hid hx
  have HV := Lib.hid hv
  have HN := Lib.hid hn
  have HWs := Lib.hid hw
  clear hx hv hw hn
  unfold DEnd
  generalize hy : feedG (ss0 M.toMachP) bs = y at *
  have HY := Lib.hid hy
  clear hy
  obtain ⟨E, hE⟩ : ∃ E, closeE y = E := ⟨_, rfl⟩
  rw [hE]
  have HE := Lib.hid hE
  clear hE
  go_enter Tryz.func16, Tryz.ntmps16
  go_wp2_with (first
    | (go_at_call 23; refine (snew_any M _ base m hM htk hb).mono ?_; rintro e w1 ⟨B, s, sc, o, ck, rfl, hA1, hb1⟩))
  have HB1 := Lib.hid hb1.low
  have HC := Lib.hid (feed_any w1 base B s m sc o ck (ss0 M.toMachP) false 0 v bs hA1 sinv0 (by have := HN.out; omega) (fun w' h => HV.out w' (HB1.out.trans h.low)) (HWs.out.below hb1.low))
  clear hb1 hA1 hM
  go_wp2_with fail
  refine HC.out.mono ?_
  rintro e w2 ⟨rfl, hA2, hb2⟩
  rw [HY.out] at hA2
  have HB2 := Lib.hid (HB1.out.trans hb2.low)
  have hD := sclose_any w2 base B s m sc o ck y false (2 * bs.length) hA2 HX.out.b (by have := HN.out; omega) (HWs.out.below HB2.out)
  rw [HE.out] at hD
  have HD := Lib.hid hD
  clear hD
  clear hb2 hA2 HC
  go_wp2_with fail
  refine HD.out.mono ?_
  rintro e w3 ⟨rfl, hE3, hb3⟩
  have HB3 := Lib.hid (HB2.out.trans hb3.low)
  have b2 := hE3.blk.cell 2
  have b3 := hE3.blk.cell 3
  have b4 := hE3.blk.cell 4
  unfold sCells at b2 b3 b4
  obtain ⟨⟨lv, hO, hR0, _⟩, _, _, _⟩ := hE3.out
  have hR := hR0.erow htk
  have o1 := hO.cell 1
  have o2 : w3.cell? ⟨o, 2, none⟩ = some (.int .i64 0) := hO.cell 2
  have HR := Lib.hid hR
  have hrd : y.rd ≤ 1000000 := by have := HX.out.rd; have := HN.out; omega
  clear hE3 hb3 hO hR HD hR0
  have b4' : w3.cell? ⟨s, 4, none⟩ = some (.int .i64 (y.rd : Int)) := b4
  obtain ⟨rd, hrd0⟩ : ∃ rd, y.rd = rd := ⟨_, rfl⟩
  rw [hrd0] at b4' hrd
  have HRD := Lib.hid hrd0
  clear hrd0 b4
  go_wp2
  refine region_g [] (S := (fun W => W.cell? ⟨s, 2, none⟩ = some (.pointer (some ⟨o, 0, none⟩)) ∧ W.cell? ⟨s, 3, none⟩ = some (.int .i64 E) ∧ W.cell? ⟨s, 4, none⟩ = some (.int .i64 (rd : Int)) ∧ W.cell? ⟨o, 1, none⟩ = some lv ∧ W.cell? ⟨o, 2, none⟩ = some (.int .i64 0))) (by kernel_rfl) ⟨b2, b3, b4', o1, o2⟩ (fun hH => ?_)
  refine g_take (i := 0) (v := .pointer (some ⟨s, 0, none⟩)) (by rfl) (by kernel_rfl) (by kernel_rfl) (by kernel_rfl) (by kernel_rfl) (fun _ _ _ h => (by cases h.1)) (Or.inl ⟨by rfl, fun W hS => (by obtain ⟨s2, s3, s4, o1, o2⟩ := hS; go_simp)⟩) hH ?_
  simp only [Act.put, List.setIfInBounds_toArray, List.set_cons_zero, List.set_cons_succ]
  refine g_take (i := 1) (v := .pointer (some ⟨s, 0, none⟩)) (by rfl) (by kernel_rfl) (by kernel_rfl) (by kernel_rfl) (by kernel_rfl) (fun _ _ _ h => (by cases h.1)) (Or.inl ⟨by rfl, fun W hS => (by obtain ⟨s2, s3, s4, o1, o2⟩ := hS; go_simp)⟩) hH ?_
  simp only [Act.put, List.setIfInBounds_toArray, List.set_cons_zero, List.set_cons_succ]
  refine g_take (i := 2) (v := .pointer (some ⟨s, 2, none⟩)) (by rfl) (by kernel_rfl) (by kernel_rfl) (by kernel_rfl) (by kernel_rfl) (fun _ _ _ h => (by cases h.1)) (Or.inl ⟨by rfl, fun W hS => (by obtain ⟨s2, s3, s4, o1, o2⟩ := hS; go_simp)⟩) hH ?_
  simp only [Act.put, List.setIfInBounds_toArray, List.set_cons_zero, List.set_cons_succ]
  refine g_take (i := 3) (v := .pointer (some ⟨o, 0, none⟩)) (by rfl) (by kernel_rfl) (by kernel_rfl) (by kernel_rfl) (by kernel_rfl) (fun _ _ _ h => (by cases h.1)) (Or.inl ⟨by rfl, fun W hS => (by obtain ⟨s2, s3, s4, o1, o2⟩ := hS; go_simp)⟩) hH ?_
  simp only [Act.put, List.setIfInBounds_toArray, List.set_cons_zero, List.set_cons_succ]
  refine g_take (i := 4) (v := .pointer (some ⟨o, 0, none⟩)) (by rfl) (by kernel_rfl) (by kernel_rfl) (by kernel_rfl) (by kernel_rfl) (fun _ _ _ h => (by cases h.1)) (Or.inl ⟨by rfl, fun W hS => (by obtain ⟨s2, s3, s4, o1, o2⟩ := hS; go_simp)⟩) hH ?_
  simp only [Act.put, List.setIfInBounds_toArray, List.set_cons_zero, List.set_cons_succ]
  refine g_take (i := 5) (v := .pointer (some ⟨o, 1, none⟩)) (by rfl) (by kernel_rfl) (by kernel_rfl) (by kernel_rfl) (by kernel_rfl) (fun _ _ _ h => (by cases h.1)) (Or.inl ⟨by rfl, fun W hS => (by obtain ⟨s2, s3, s4, o1, o2⟩ := hS; go_simp)⟩) hH ?_
  simp only [Act.put, List.setIfInBounds_toArray, List.set_cons_zero, List.set_cons_succ]
  refine g_take (i := 6) (v := lv) (by rfl) (by kernel_rfl) (by kernel_rfl) (by kernel_rfl) (by kernel_rfl) (fun _ _ _ h => (by cases h.1)) (Or.inl ⟨by rfl, fun W hS => (by obtain ⟨s2, s3, s4, o1, o2⟩ := hS; go_simp)⟩) hH ?_
  simp only [Act.put, List.setIfInBounds_toArray, List.set_cons_zero, List.set_cons_succ]
  refine g_take (i := 7) (v := .pointer (some ⟨s, 0, none⟩)) (by rfl) (by kernel_rfl) (by kernel_rfl) (by kernel_rfl) (by kernel_rfl) (fun _ _ _ h => (by cases h.1)) (Or.inl ⟨by rfl, fun W hS => (by obtain ⟨s2, s3, s4, o1, o2⟩ := hS; go_simp)⟩) hH ?_
  simp only [Act.put, List.setIfInBounds_toArray, List.set_cons_zero, List.set_cons_succ]
  refine g_take (i := 8) (v := .pointer (some ⟨s, 0, none⟩)) (by rfl) (by kernel_rfl) (by kernel_rfl) (by kernel_rfl) (by kernel_rfl) (fun _ _ _ h => (by cases h.1)) (Or.inl ⟨by rfl, fun W hS => (by obtain ⟨s2, s3, s4, o1, o2⟩ := hS; go_simp)⟩) hH ?_
  simp only [Act.put, List.setIfInBounds_toArray, List.set_cons_zero, List.set_cons_succ]
  refine g_take (i := 9) (v := .pointer (some ⟨s, 3, none⟩)) (by rfl) (by kernel_rfl) (by kernel_rfl) (by kernel_rfl) (by kernel_rfl) (fun _ _ _ h => (by cases h.1)) (Or.inl ⟨by rfl, fun W hS => (by obtain ⟨s2, s3, s4, o1, o2⟩ := hS; go_simp)⟩) hH ?_
  simp only [Act.put, List.setIfInBounds_toArray, List.set_cons_zero, List.set_cons_succ]
  refine g_take (i := 10) (v := .int .i64 E) (by rfl) (by kernel_rfl) (by kernel_rfl) (by kernel_rfl) (by kernel_rfl) (fun _ _ _ h => (by cases h.1)) (Or.inl ⟨by rfl, fun W hS => (by obtain ⟨s2, s3, s4, o1, o2⟩ := hS; go_simp)⟩) hH ?_
  simp only [Act.put, List.setIfInBounds_toArray, List.set_cons_zero, List.set_cons_succ]
  refine g_take (i := 11) (v := .pointer (some ⟨s, 0, none⟩)) (by rfl) (by kernel_rfl) (by kernel_rfl) (by kernel_rfl) (by kernel_rfl) (fun _ _ _ h => (by cases h.1)) (Or.inl ⟨by rfl, fun W hS => (by obtain ⟨s2, s3, s4, o1, o2⟩ := hS; go_simp)⟩) hH ?_
  simp only [Act.put, List.setIfInBounds_toArray, List.set_cons_zero, List.set_cons_succ]
  refine g_one (i := 12) (by kernel_rfl) (by rfl) (fun K hK => ?_)
  go_simp
  refine (at_any w3.drew s o rd b4' b2 o2 hrd).mono ?_
  rintro e w4 ⟨rfl, rfl⟩
  refine hK.out _ _ (fun _ => ⟨b2, b3, b4', o1, o2⟩) (fun _ => ?_)
  clear hK K hH
  refine g_one (i := 13) (by kernel_rfl) (by rfl) (fun K hK => ?_)
  go_simp
  refine hK.out _ _ (fun _ => ⟨b2, b3, b4', o1, o2⟩) (fun _ => ?_)
  clear hK K
  refine g_one (i := 14) (by kernel_rfl) (by rfl) (fun K hK => ?_)
  go_simp
  refine hK.out _ _ (fun _ => ⟨b2, b3, b4', o1, o2⟩) (fun _ => ?_)
  clear hK K
  refine g_one (i := 15) (by kernel_rfl) (by rfl) (fun K hK => ?_)
  go_simp
  refine hK.out _ _ (fun _ => ⟨b2, b3, b4', o1, o2⟩) (fun _ => ?_)
  clear hK K
  refine g_done (by kernel_rfl) ⟨by first | rfl | trivial, ?_⟩ _
  go_wp2
  go_ret3
  exact ⟨lv, by rw [HRD.out]; rfl, (HR.out.below (below_drew (Below.refl _ _))).below (below_drew (Below.refl _ _)), (HB3.out.trans (below_drew (Below.refl _ _))).trans (below_drew (Below.refl _ _))⟩

end Go.Proofs.YtalkjgijmceifaaGreatDoor
namespace Go.Proofs.YtalkjgijmceifaaGreatDoor
open Go.RowKit Go.Maps
set_option maxRecDepth 100000
set_option linter.unusedSimpArgs false
set_option linter.unusedVariables false
set_option linter.unusedSectionVars false
set_option linter.unusedSectionVars false
variable [Tab] [Fo]

theorem row_dn {w : World} {b b' : Nat} {e : TypeId} {size n : Nat} {v : Value} {xs : List Value} (hR : w.ownsRow b' e size v n xs) (hb : b ≤ b') : w.ownsRow b e size v n xs := by
  refine ⟨hR.1, ?_⟩
  rcases hR.2 with hn | ⟨g', cap', cur, hv, hg', hh, q⟩
  · exact .inl hn
  · exact .inr ⟨g', cap', cur, hv, Nat.le_trans hb hg', hh, q⟩
theorem CRep.mono' {w : World} {b b' g rb cap : Nat} {qs : List PQ} (h : CRep w b' g rb cap qs) (hb : b ≤ b') : CRep w b g rb cap qs := by
  refine ⟨Nat.le_trans hb h.hg, h.blk, ⟨h.row.1, ?_⟩, ?_, h.nf⟩
  · rcases h.row.2 with hn | ⟨g', cap', cur, hv, hg', hh, q⟩
    · exact .inl hn
    · exact .inr ⟨g', cap', cur, hv, Nat.le_trans hb hg', hh, q⟩
  · have : ∀ l : List PQ, MapsOk w b' l → MapsOk w b l := by
      intro l
      induction l with
      | nil => intro h; exact h
      | cons q r ih => intro h; exact ⟨fun c hc => ⟨⟨Nat.le_trans hb (h.1 c hc).1.1, (h.1 c hc).1.2⟩, (h.1 c hc).2⟩, h.2.1, ih h.2.2⟩
    exact this qs h.maps
/-- The attributes' Check takes an event. -/
theorem OAt.dn {w : World} {base b o ck : Nat} {st : List Pt} {l : List Ev} (h : OAt w b o ck st l) (hb : base ≤ b) : OAt w base o ck st l := by
  obtain ⟨⟨lv, hB, hR, hf⟩, ⟨rb, cap, qs, hq, hC⟩, hbo, ho⟩ := h
  exact ⟨⟨lv, hB, hR.low hb, hf⟩, ⟨rb, cap, qs, hq, hC.mono' hb⟩, Nat.le_trans hb hbo, ho⟩
theorem DIn.pre {s : Ds} {n : Nat} (h : DIn s n) (hn : n ≤ 100000) : DPre s := by
  have := h.mc.n8
  have := h.ln
  exact ⟨fun e => (h.mc.hy e).1, by omega, h.mc.cz, by omega, h.mc.cl, h.tk.good, by omega⟩
theorem DX.ss {w w' : World} {base m o ck : Nat} {s : Ds} (h : DX w base m o ck s) (ht : Tch base ssObj w w') : DX w' base m o ck s := by
  obtain ⟨cv, g, hM⟩ := h.mc
  exact ⟨⟨cv, g, hM.tch ht (fun cs t fr hh hc => by simp only [ssObj] at hc; rcases hh with rfl | rfl | rfl <;> exact absurd hc (by decide))⟩, h.out.of_ss ht⟩
theorem DPo.fr {w w' : World} {base B m o ck : Nat} {r : Dr} {e : Ending} (h : DPo w base m o ck r e w') (hb : base ≤ w.heap.size) : e = .returned (.int .i64 r.e) ∧ DX w' base m o ck r.b ∧ FrG dObj base B w w' :=
  ⟨h.1, h.2.1, FrG.of_tch h.2.2 hb⟩
@[reducible] def dlM : Mach where
  toMachP := dlP
  T := 33
  fs := 147
  fe := 146
  hms := fun a w => by kernel_rfl
  hme := fun a w => by kernel_rfl
  efs := fun args w => enters_of Tryz.func147 (by kernel_rfl) rfl args w
  efe := fun args w => enters_of Tryz.func146 (by kernel_rfl) rfl args w
  num := False
  raw := draw
  At := fun w base _ m o ck s => DX w base m o ck s
  obj := dObj
  nss := fun cs t fr h hc => by
    simp only [dObj, tObj, dmObj] at hc
    rcases h with rfl | rfl <;> exact absurd hc (by decide)
  raw_below := fun h hb => h.below hb
  raw_lim := fun h => by obtain ⟨_, _, h1⟩ := h; exact h1.lim
  start := fun h hb0 hb h1 h2 ho => by
    obtain ⟨cv, g, k1⟩ := h
    exact ⟨⟨cv, g, k1.below hb⟩, ho.dn (Nat.le_trans hb0 h1)⟩
  out := fun h => h.out
  ss := fun h ht _ => h.ss ht
  step_any := fun w base B m o ck s b n h hi hn _ hw hb => (dstep_all w base m o ck s b h (hi.pre hn) hi.mc.av (by have := hi.ln; omega)).mono fun e w' hp => DPo.fr (B := B) hp hb
  end_any := fun w base B m o ck s n h hi hn hw hb => (dend_all w base m o ck s h (hi.pre hn) hi.mc.av (by have := hi.ln; omega)).mono fun e w' hp => by
    obtain ⟨h1, h2, h3⟩ := DPo.fr (B := B) hp hb
    exact ⟨h1, h2.out, h3⟩

set_option maxHeartbeats 4000000 in
theorem ddecode_any0 (w : World) (v : Value) (bs : List UInt8) (hn : bs.length ≤ 50000) (hv : BRead w v bs) (hfl : Fo.lim ≤ w.heap.size) (htk : Fo.tk = none) :
    Calls Tryz.prog 7 #[v] w fun e w' => ∃ lv, e = .returned (.tuple #[lv, .int .i64 (dEr bs), .int .i64 (dRd bs : Int)]) ∧ ERow w' w.heap.size lv (dEv bs) ∧ Below w.heap.size w w' := by
  have hC : ∀ w1 m, draw w1 w.heap.size m → Below w.heap.size w w1 → Calls Tryz.prog 16 #[.iface 33 (.pointer (some ⟨m, 0, none⟩)), v] w1 fun e w' => ∃ lv, e = .returned (.tuple #[lv, .int .i64 (dEr bs), .int .i64 (dRd bs : Int)]) ∧ ERow w' w.heap.size lv (dEv bs) ∧ Below w.heap.size w1 w' := fun w1 m hM hb =>
    sdecode_any (M := dlM) w1 w.heap.size m v bs hM htk hb.size hn (fun w' h => hv.below (hb.trans h)) (fun h => h.elim)
  have hP := dnew_any w hfl
  generalize dEr bs = E at *
  obtain ⟨R, hR⟩ : ∃ R, (dRd bs : Int) = R := ⟨_, rfl⟩
  rw [hR] at hC ⊢
  generalize dEv bs = L at *
  have HC := Lib.hid hC
  clear hC hv hR
  go_enter Tryz.func7, Tryz.ntmps7
  go_wp2_with fail
  refine hP.mono ?_
  rintro e w0 ⟨m, rfl, hM, hb0⟩
  have HD := Lib.hid (HC.out w0 m hM hb0)
  have HB0 := Lib.hid hb0
  clear hM hb0 HC hP
  go_wp2_with fail
  refine HD.out.mono ?_
  rintro e w1 ⟨lv, rfl, hRow, hb1⟩
  have HR := Lib.hid hRow
  have HB := Lib.hid (HB0.out.trans hb1)
  clear hRow hb1 HD HB0
  go_wp2
  go_ret3
  exact ⟨lv, rfl, HR.out, HB.out⟩
theorem ddecode_any (w : World) (v : Value) (bs : List UInt8) (hn : bs.length ≤ 50000) (hv : BRead w v bs) (hfl : Fo.lim ≤ w.heap.size) :
    Calls Tryz.prog 7 #[v] w fun e w' => ∃ lv, e = .returned (.tuple #[lv, .int .i64 (dEr bs), .int .i64 (dRd bs : Int)]) ∧ ERow w' w.heap.size lv (dEv bs) ∧ Below w.heap.size w w' :=
  @ddecode_any0 _ (Fo.nt inferInstance) w v bs hn hv hfl rfl
end Go.Proofs.YtalkjgijmceifaaGreatDoor

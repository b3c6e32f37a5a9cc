/-
  paren: scalar, openInner, openElem, closeInner, endNumber.
  paren: names of elements and attributes; what a string that has ended says.
-/
import Derived.Test.YtmimadkepflmlaaGreatDoorPaZ24
namespace Go.Proofs.YtmimadkepflmlaaGreatDoor
open Go.RowKit Go.Maps
set_option maxRecDepth 100000
set_option linter.unusedSimpArgs false
set_option linter.unusedVariables false
set_option linter.unusedSectionVars false
variable [Tab] [Fo]

theorem Tryz.infoInt : (Tryz.prog.info? 3).map (fun i => (i.zero, i.size, i.bytes)) = some (some (.int .i64 0), 1, 8) := by kernel_rfl
theorem PmAt.setop {w : World} {base m : Nat} {M : Pm} {uv qp av ov ov' : Value} {op' : List Int} (hB : Blk w m 75 (pCells M ov uv qp av)) (hb : base ≤ m) (hm : ¬ Fo.F m) (hl : Fo.lim ≤ w.heap.size) (hf : NF ov') (hR : ORow w base 3 ov' (op'.map iV)) : PmAt (w.setCell ⟨m, 2, none⟩ ov') base m { M with op := op' } uv qp av := by
  have ht : Tch base pmOnly w (w.setCell ⟨m, 2, none⟩ ov') := (Tch.refl _ _ _).set hB hb hm (show pmOnly (.cells _ _ _) from rfl) 2 ov'
  exact ⟨⟨ov', hB.set_ 2 ov', row_tch hR ht (fun _ _ => by simp only [pmOnly]; decide), hf⟩, hb, hm, Nat.le_trans hl ht.size⟩

set_option maxHeartbeats 4000000 in
theorem scalar_any (w : World) (base b2 U m o ck : Nat) (s : Ps) (qp av : Value) (A : Nat → Prop) (x : Ev) (h : PX w base b2 U m o ck s qp av A) (hne : s.m.op ≠ []) (hg : Good s.st) (hw : SW base w) (hs : x.t.size ≤ 140737488355328) (hl : s.l.length ≤ 1000000) :
    Calls Tryz.prog 169 #[.pointer (some ⟨m, 0, none⟩), .agg #[.int .i64 x.k, .string x.t, .string x.v], .pointer (some ⟨o, 0, none⟩)] w (PPo w base b2 U m o ck (scalarP s x)) := by
  have al : Below w.heap.size w (w.alloc (.cells #[.int .i64 x.k, .string x.t, .string x.v] 36)) := (Below.refl _ _).alloc (Nat.le_refl _) _
  have hX := Blk.new w 36 #[.int .i64 x.k, .string x.t, .string x.v]
  have hP0 := h.below al
  have hw0 := hw.below (al.mono (Nat.le_trans h.b2.1 h.b2.2))
  have HT0 := Lib.hid (Tch.of_below al (base := base) (p := pObj))
  obtain ⟨W0, hW0⟩ : ∃ W0, w.alloc (.cells #[.int .i64 x.k, .string x.t, .string x.v] 36) = W0 := ⟨_, rfl⟩
  rw [hW0] at hX hP0 hw0 HT0
  have hb : base ≤ W0.heap.size := Nat.le_trans hP0.b2.1 hP0.b2.2
  have hV := Lib.hid (valueEnded_any W0 base m s.m _ qp av hP0.mc hne hb)
  have H := Lib.hid hP0
  have HX := Lib.hid hX
  have HSW := Lib.hid hw0
  clear h hw al hX hP0 hw0
  go_enter Tryz.func169, Tryz.ntmps169
  go_wp2_with fail
  refine hV.out.mono ?_
  rintro e w1 ⟨rfl, hM1, ht1⟩
  have hP := H.out.pm (ht1.wide fun _ => pm_of) hM1 rfl (fun h => ⟨h, rfl⟩)
  have HT := Lib.hid (hP.tell x hg (HSW.out.tch ht1 hb) hs hl)
  have HTT := Lib.hid (HT0.out.trans (ht1.wide (q := pObj) fun _ => p_mo))
  have hX1 := HX.out.tch ht1 (.inr (by simp only [pmOnly]; decide))
  have x0 : w1.cell? ⟨w.heap.size, 0, none⟩ = some (.int .i64 x.k) := hX1.cell 0
  have x1 : w1.cell? ⟨w.heap.size, 1, none⟩ = some (.string x.t) := hX1.cell 1
  have x2 : w1.cell? ⟨w.heap.size, 2, none⟩ = some (.string x.v) := hX1.cell 2
  clear hM1 ht1 hP hV H hX1 HX hW0
  go_wp2_with fail
  refine HT.out.mono ?_
  intro e w5 hp
  have HF := Lib.hid (hp.p HTT.out)
  have he := hp.1
  clear hp
  subst he
  go_wp2
  go_ret
  exact HF.out

set_option maxHeartbeats 4000000 in
theorem openInner_any (w : World) (base b2 U m o ck : Nat) (s : Ps) (qp av : Value) (A : Nat → Prop) (k : Int) (h : PX w base b2 U m o ck s qp av A) (hop : s.m.op.length ≤ 100000) (hg : Good s.st) (hw : SW base w) (hl : s.l.length ≤ 1000000) :
    Calls Tryz.prog 172 #[.pointer (some ⟨m, 0, none⟩), .int .i64 k, .pointer (some ⟨o, 0, none⟩)] w (PPo w base b2 U m o ck (innerP s k)) := by
  have hb : base ≤ w.heap.size := Nat.le_trans h.b2.1 h.b2.2
  obtain ⟨ov, hB, hR, hnf⟩ := h.mc.ex
  have HNF := Lib.hid (And.intro hnf h.mc.lim)
  have c2 : w.cell? ⟨m, 2, none⟩ = some ov := hB.cell 2
  have h63 : (s.m.op.map iV).length + 1 ≤ maxLen := by simp only [maxLen, List.length_map]; omega
  have h8b : ((s.m.op.map iV).length + 1) * 8 ≤ 140737488355328 := by simp only [List.length_map]; omega
  have H : Hid (∀ (A1 : Option Addr) (n cap : Nat) (w1 : World), ORow w1 base 3 (.slice A1 n cap) (s.m.op.map iV ++ [.int .i64 k]) → w.grownBy w1 ov.ownBlock → NF (.slice A1 n cap) →
      w1.frozen? ⟨m, 2, none⟩ = false ∧ w1.cell? ⟨m, 2, none⟩ = some ov ∧ w1.frozen? ⟨m, 1, none⟩ = false ∧ w1.cell? ⟨m, 1, none⟩ = some (.int .i64 s.m.du) ∧ m < w1.heap.size ∧
      (∀ W, W = (w1.setCell ⟨m, 2, none⟩ (.slice A1 n cap)).setCell ⟨m, 1, none⟩ (.int .i64 0) → Tch base pObj w W ∧ Calls Tryz.prog 143 #[.pointer (some ⟨o, 0, none⟩), .agg #[.int .i64 k, .string ⟨#[]⟩, .string ⟨#[]⟩]] W (TPost W base b2 U m o ck { s with m := { s.m with op := s.m.op ++ [k], du := 0 } } qp av A (bare k)))) := by
    refine Lib.hid fun A1 n cap w1 hown hgr hnf1 => ?_
    have hiO : Tch base pmObj w w1 := Tch.of_row hR hgr (Nat.le_refl _) hnf (fun cur => .inr rfl)
    have hiN : ∀ cs fr, w.heap[m]? = some (Obj.cells cs 75 fr) → w1.heap[m]? = some (Obj.cells cs 75 fr) := fun cs fr hm => by
      refine (hgr.block m (Array.getElem?_eq_some_iff.1 hm).1 ?_).trans hm
      intro e
      obtain ⟨cur, hc⟩ := row_obj hR e.symm
      rw [hm] at hc
      injection hc with hc
      injection hc with _ hc
      exact absurd hc (by decide)
    have hB1 : Blk w1 m 75 (pCells s.m ov (.map (some U)) qp av) := hiN _ _ hB
    have hown' : ORow w1 base 3 (.slice A1 n cap) ((s.m.op ++ [k]).map iV) := by rw [List.map_append]; exact hown
    refine ⟨hB1.frozen 2, hB1.cell 2, hB1.frozen 1, hB1.cell 1, hB1.lt, fun W e => ?_⟩
    subst e
    have hM1 := PmAt.setop (M := s.m) hB1 h.mc.bm h.mc.nf (Nat.le_trans h.mc.lim hgr.size) hnf1 hown'
    have hM2 := hM1.set 1 (.int .i64 0) (M' := { s.m with op := s.m.op ++ [k], du := 0 }) (fun ov => rfl) rfl
    have ht1 : Tch base pmOnly w1 (w1.setCell ⟨m, 2, none⟩ (.slice A1 n cap)) := (Tch.refl _ _ _).set hB1 h.mc.bm h.mc.nf (show pmOnly (.cells _ _ _) from rfl) 2 _
    have ht : Tch base pmObj w ((w1.setCell ⟨m, 2, none⟩ (.slice A1 n cap)).setCell ⟨m, 1, none⟩ (.int .i64 0)) := (hiO.trans (ht1.wide fun _ => pm_of)).trans ((hM1.touch 1 _).wide fun _ => pm_of)
    have hP := h.pm ht hM2 rfl (fun h => ⟨h, rfl⟩)
    exact ⟨ht.wide fun _ => p_m, hP.tell (bare k) hg (hw.tch ht hb) (bare_size k) hl⟩
  unfold innerP
  clear hB hg hl hw h hnf
  go_enter Tryz.func172, Tryz.ntmps172
  go_wp2_with (first
    | (at_builtin; refine wp_app1 rfl _ _ 67 rfl base 3 (.int .i64 0) 8 Tryz.underlying67 Tryz.infoInt rfl ov (s.m.op.map iV) (.int .i64 k) rfl (by exact hR) rfl 1 rfl h63 h8b hb ?_; intro v1 w1 hown1 hg1 hnb1; have hnf1 : NF v1 := HNF.out.1.nb (w := w) (hnb1.imp id fun e => ⟨_, e, Nat.le_succ _⟩) HNF.out.2; obtain ⟨A1, cp1, e1⟩ := hown1.shape; rw [List.length_append, List.length_map, List.length_singleton] at e1; subst e1; obtain ⟨f2, d2, f1, d1, dl, HN⟩ := H.out _ _ _ w1 hown1 hg1 hnf1; clear hnb1 hnf1 H hown1 hg1 hR c2))
  refine (HN _ rfl).2.mono ?_
  intro e w5 hp
  have HF := Lib.hid (hp.p (HN _ rfl).1)
  have he := hp.1
  clear hp HN
  subst he
  go_wp2
  go_ret
  exact HF.out

set_option maxHeartbeats 4000000 in
theorem openElem_any (w : World) (base b2 U m o ck : Nat) (s : Ps) (qp av : Value) (A : Nat → Prop) (h : PX w base b2 U m o ck s qp av A) (hop : s.m.op.length ≤ 100000) :
    Calls Tryz.prog 170 #[.pointer (some ⟨m, 0, none⟩)] w (PPo w base b2 U m o ck (elemP s)) := by
  have hb : base ≤ w.heap.size := Nat.le_trans h.b2.1 h.b2.2
  obtain ⟨ov, hB, hR, hnf⟩ := h.mc.ex
  obtain ⟨Ao, co, hov⟩ := hR.shape
  rw [List.length_map] at hov
  have hml := hB.lt
  have c2 : w.cell? ⟨m, 2, none⟩ = some ov := hB.cell 2
  unfold elemP
  by_cases h6 : 6 < s.m.op.length
  case pos =>
    rw [if_pos h6]
    subst hov
    have z : decide ((6 : Int) < (s.m.op.length : Int)) = true := by simp; omega
    have HF : Hid (PPo w base b2 U m o ck ⟨s, 5⟩ (.returned (.int .i64 5)) w) := Lib.hid ⟨rfl, ⟨_, _, _, h⟩, Tch.refl _ _ _⟩
    clear h hB hR hnf h6
    go_enter Tryz.func170, Tryz.ntmps170
    go_wp2
    go_ret
    exact HF.out
  case neg =>
    rw [if_neg h6]
    have z : decide ((6 : Int) < (s.m.op.length : Int)) = false := by simp; omega
    have HNF := Lib.hid (And.intro hnf h.mc.lim)
    have h63 : (s.m.op.map iV).length + 1 ≤ maxLen := by simp only [maxLen, List.length_map]; omega
    have h8b : ((s.m.op.map iV).length + 1) * 8 ≤ 140737488355328 := by simp only [List.length_map]; omega
    have hR0 := hR
    rw [hov] at hR c2
    have H : Hid (∀ (A1 : Option Addr) (n cap : Nat) (w1 : World), ORow w1 base 3 (.slice A1 n cap) (s.m.op.map iV ++ [.int .i64 10]) → w.grownBy w1 (Value.slice Ao s.m.op.length co).ownBlock → NF (.slice A1 n cap) →
        w1.frozen? ⟨m, 2, none⟩ = false ∧ w1.cell? ⟨m, 2, none⟩ = some (.slice Ao s.m.op.length co) ∧ w1.frozen? ⟨m, 1, none⟩ = false ∧ w1.cell? ⟨m, 1, none⟩ = some (.int .i64 s.m.du) ∧ m < w1.heap.size ∧
        (∀ W, W = (w1.setCell ⟨m, 2, none⟩ (.slice A1 n cap)).setCell ⟨m, 1, none⟩ (.int .i64 2) → PPo w base b2 U m o ck ⟨{ s with m := { s.m with op := s.m.op ++ [10], du := 2 } }, 0⟩ (.returned (.int .i64 0)) W)) := by
      refine Lib.hid fun A1 n cap w1 hown hgr hnf1 => ?_
      rw [hov] at hB hnf
      have hiO : Tch base pmObj w w1 := Tch.of_row hR hgr (Nat.le_refl _) hnf (fun cur => .inr rfl)
      have hiN : ∀ cs fr, w.heap[m]? = some (Obj.cells cs 75 fr) → w1.heap[m]? = some (Obj.cells cs 75 fr) := fun cs fr hm => by
        refine (hgr.block m (Array.getElem?_eq_some_iff.1 hm).1 ?_).trans hm
        intro e
        obtain ⟨cur, hc⟩ := row_obj hR e.symm
        rw [hm] at hc
        injection hc with hc
        injection hc with _ hc
        exact absurd hc (by decide)
      have hB1 : Blk w1 m 75 (pCells s.m (.slice Ao s.m.op.length co) (.map (some U)) qp av) := hiN _ _ hB
      have hown' : ORow w1 base 3 (.slice A1 n cap) ((s.m.op ++ [10]).map iV) := by rw [List.map_append]; exact hown
      refine ⟨hB1.frozen 2, hB1.cell 2, hB1.frozen 1, hB1.cell 1, hB1.lt, fun W e => ?_⟩
      subst e
      have hM1 := PmAt.setop (M := s.m) hB1 h.mc.bm h.mc.nf (Nat.le_trans h.mc.lim hgr.size) hnf1 hown'
      have hM2 := hM1.set 1 (.int .i64 2) (M' := { s.m with op := s.m.op ++ [10], du := 2 }) (fun ov => rfl) rfl
      have ht1 : Tch base pmOnly w1 (w1.setCell ⟨m, 2, none⟩ (.slice A1 n cap)) := (Tch.refl _ _ _).set hB1 h.mc.bm h.mc.nf (show pmOnly (.cells _ _ _) from rfl) 2 _
      have ht : Tch base pmObj w ((w1.setCell ⟨m, 2, none⟩ (.slice A1 n cap)).setCell ⟨m, 1, none⟩ (.int .i64 2)) := (hiO.trans (ht1.wide fun _ => pm_of)).trans ((hM1.touch 1 _).wide fun _ => pm_of)
      exact ⟨rfl, ⟨_, _, _, h.pm ht hM2 rfl (fun h => ⟨h, rfl⟩)⟩, ht.wide fun _ => p_m⟩
    subst hov
    clear hB h hnf hR0 h6
    go_enter Tryz.func170, Tryz.ntmps170
    go_wp2_with (first
      | (at_builtin; refine wp_app1 rfl _ _ 67 rfl base 3 (.int .i64 0) 8 Tryz.underlying67 Tryz.infoInt rfl _ (s.m.op.map iV) (.int .i64 10) rfl (by exact hR) rfl 1 rfl h63 h8b hb ?_; intro v1 w1 hown1 hg1 hnb1; have hnf1 : NF v1 := HNF.out.1.nb (w := w) (hnb1.imp id fun e => ⟨_, e, Nat.le_succ _⟩) HNF.out.2; obtain ⟨A1, cp1, e1⟩ := hown1.shape; rw [List.length_append, List.length_map, List.length_singleton] at e1; subst e1; obtain ⟨f2, d2, f1, d1, dl, HN⟩ := H.out _ _ _ w1 hown1 hg1 hnf1; clear hnb1 hnf1 H hown1 hg1 hR c2))
    have HF := Lib.hid (HN _ rfl)
    clear HN
    go_ret
    exact HF.out

set_option maxHeartbeats 4000000 in
theorem closeInner_any (w : World) (base b2 U m o ck : Nat) (s : Ps) (qp av : Value) (A : Nat → Prop) (h : PX w base b2 U m o ck s qp av A) (hne : s.m.op ≠ []) (hne2 : s.m.op.dropLast ≠ []) (hg : Good s.st) (hw : SW base w) (hl : s.l.length ≤ 1000000) :
    Calls Tryz.prog 176 #[.pointer (some ⟨m, 0, none⟩), .pointer (some ⟨o, 0, none⟩)] w (PPo w base b2 U m o ck (closeP s)) := by
  have hb : base ≤ w.heap.size := Nat.le_trans h.b2.1 h.b2.2
  have hI := Lib.hid (inner_any w base m s.m _ qp av h.mc hne)
  have hE := fun w => endOf_any (topI s.m.op) w
  unfold closeP
  obtain ⟨K, hK⟩ : ∃ K, endK (topI s.m.op) = K := ⟨_, rfl⟩
  rw [hK] at hE ⊢
  have HE := Lib.hid hE
  have H0 := Lib.hid h
  have HSW := Lib.hid hw
  have H : Hid (∀ n w1, w1 = w.drewN n → ∃ g cap k, w1.cell? ⟨m, 2, none⟩ = some (.slice (some ⟨g, 0, none⟩) (k + 1) cap) ∧ w1.frozen? ⟨m, 2, none⟩ = false ∧ m < w1.heap.size ∧ k + 1 ≤ cap ∧ cap ≤ 9223372036854775807 ∧
      (∀ W, W = w1.drew.setCell ⟨m, 2, none⟩ (.slice (some ⟨g, 0, none⟩) k cap) → PmAt W base m { s.m with op := s.m.op.dropLast } (.map (some U)) qp av ∧ Tch base pmOnly w W ∧ base ≤ W.heap.size)) := by
    refine Lib.hid fun n w1 e => ?_
    subst e
    obtain ⟨ov, hB, hR, hnf⟩ := (h.mc.drewN n).ex
    rcases hR.form with ⟨_, h0⟩ | ⟨g, cap, rfl, hg', hgl, hlc, hcm⟩
    · exact absurd (by simpa using h0) hne
    rw [List.length_map] at hlc hB hR hnf
    obtain ⟨k, hk⟩ : ∃ k, s.m.op.length = k + 1 := ⟨s.m.op.length - 1, by have := List.length_pos_iff.2 hne; omega⟩
    have h1 : (w.drewN n).ownsRow base 3 1 (.slice (some ⟨g, 0, none⟩) (k + 1) cap) (k + 1) (s.m.op.map iV) := by
      have h := hR; unfold ORow at h; rw [List.length_map, hk] at h; exact h
    have h2 := rowN_cut h1 (Nat.le_succ k)
    have h3 : ORow (w.drewN n) base 3 (.slice (some ⟨g, 0, none⟩) k cap) (s.m.op.dropLast.map iV) := by
      unfold ORow
      rw [List.dropLast_eq_take, List.length_map, List.length_take, hk]
      rw [Nat.mul_one, ← List.map_take] at h2
      rw [Nat.add_sub_cancel, Nat.min_eq_left (Nat.le_succ k)]
      exact h2
    rw [hk] at hB hlc
    refine ⟨g, cap, k, hB.cell 2, hB.frozen 2, hB.lt, hlc, by simpa [maxLen] using hcm, fun W e => ?_⟩
    subst e
    have hB2 : Blk (w.drewN n).drew m 75 (pCells s.m (.slice (some ⟨g, 0, none⟩) (k + 1) cap) (.map (some U)) qp av) := hB
    have hR2 : ORow (w.drewN n).drew base 3 (.slice (some ⟨g, 0, none⟩) k cap) (s.m.op.dropLast.map iV) := h3
    have hdd : Below w.heap.size w (w.drewN n).drew := below_drew (below_drewN (Below.refl _ _) n)
    exact ⟨PmAt.setop (M := s.m) hB2 h.mc.bm h.mc.nf (Nat.le_trans h.mc.lim hdd.size) hnf.slice hR2, (Tch.of_below hdd).trans ((Tch.refl _ _ _).set hB2 h.mc.bm h.mc.nf (show pmOnly (.cells _ _ _) from rfl) 2 _), Nat.le_trans hb (Nat.le_trans hdd.size (by simp [World.setCell]))⟩
  clear h hw hE hK
  generalize topI s.m.op = tb at *
  go_enter Tryz.func176, Tryz.ntmps176
  go_wp2_with fail
  refine hI.out.mono ?_
  rintro e w1 ⟨rfl, n, hn⟩
  obtain ⟨g, cap, k, c2, f2, hml, hkc, hcm, HW⟩ := H.out n w1 hn
  have HWW := Lib.hid HW
  clear H HW hn hI
  go_wp2_with fail
  refine (HE.out _).mono ?_
  rintro e w2 ⟨rfl, rfl⟩
  go_wp2
  go_region
  obtain ⟨hM2, ht2, hb2⟩ := HWW.out _ rfl
  have hV := Lib.hid (valueEnded_any _ base m _ _ qp av hM2 hne2 hb2)
  have HM2 := Lib.hid (And.intro hM2 ht2)
  clear hM2 ht2 c2 f2 HWW
  go_wp2_with fail
  refine hV.out.mono ?_
  rintro e w3 ⟨rfl, hM3, ht3⟩
  have htt := HM2.out.2.trans ht3
  have hP := H0.out.pm (htt.wide fun _ => pm_of) hM3 rfl (fun h => ⟨h, rfl⟩)
  have HT := Lib.hid (hP.tell (bare K) hg (HSW.out.tch htt hb) (bare_size K) hl)
  have HTT := Lib.hid (htt.wide (q := pObj) fun _ => p_mo)
  clear hM3 ht3 htt hP hV HM2 H0
  go_wp2_with fail
  refine HT.out.mono ?_
  intro e w5 hp
  have HF := Lib.hid (hp.p HTT.out)
  have he := hp.1
  clear hp
  subst he
  go_wp2
  go_ret
  exact HF.out

theorem add_anyP (w : World) (base b2 U m o ck : Nat) (s : Ps) (qp av : Value) (A : Nat → Prop) (b : UInt8) (h : PX w base b2 U m o ck s qp av A) (hn : s.m.nm.size ≤ 1000) :
    Calls Tryz.prog 139 #[.pointer (some ⟨m, 7, none⟩), .int .u8 (b.toNat : Int)] w (PPo w base b2 U m o ck (addP s b)) := by
  obtain ⟨_, _, _, _, _, _, _, c7, _⟩ := h.mc.cells
  have hT := tadd_any w m 7 s.m.nm b c7 (h.mc.frz 7) h.mc.lt hn
  unfold addP
  refine hT.mono ?_
  intro e w1 hp
  by_cases h30 : 30 ≤ s.m.nm.size
  · rw [if_pos h30] at hp ⊢
    obtain ⟨rfl, rfl⟩ := hp
    exact ⟨rfl, ⟨_, _, _, h⟩, Tch.refl _ _ _⟩
  · rw [if_neg h30] at hp ⊢
    obtain ⟨rfl, al⟩ := hp
    have hM0 := h.mc.set 7 (.string (s.m.nm ++ ⟨#[b]⟩)) (M' := { s.m with nm := s.m.nm ++ ⟨#[b]⟩ }) (fun ov => rfl) rfl
    have ht0 := (h.mc.touch 7 (.string (s.m.nm ++ ⟨#[b]⟩))).trans (Tch.of_below (base := base) (p := pmOnly) al)
    exact ⟨rfl, ⟨_, _, _, h.pm (ht0.wide fun _ => pm_of) (hM0.below al) rfl (fun h => ⟨h, rfl⟩)⟩, ht0.wide fun _ => p_mo⟩

set_option maxHeartbeats 4000000 in
theorem endNumber_any (w : World) (base b2 U m o ck : Nat) (s : Ps) (qp av : Value) (A : Nat → Prop) (h : PX w base b2 U m o ck s qp av A) (hn : s.m.nm.size ≤ 1000) (hne : s.m.op ≠ []) (hg : Good s.st) (hw : SW base w) (hl : s.l.length ≤ 1000000) :
    Calls Tryz.prog 165 #[.pointer (some ⟨m, 0, none⟩), .pointer (some ⟨o, 0, none⟩)] w (PPo w base b2 U m o ck (endNumP s)) := by
  have hb : base ≤ w.heap.size := Nat.le_trans h.b2.1 h.b2.2
  obtain ⟨_, _, _, _, _, _, _, c7, _⟩ := h.mc.cells
  have hml := h.mc.lt
  have hM0 := h.mc.set 7 (.string ⟨#[]⟩) (M' := { s.m with nm := ⟨#[]⟩ }) (fun ov => rfl) rfl
  have ht0 := h.mc.touch 7 (.string ⟨#[]⟩)
  have hP0 := h.pm (ht0.wide fun _ => pm_of) hM0 rfl (fun h => ⟨h, rfl⟩)
  have hw0 := hw.tch ht0 hb
  have hb0 := Nat.le_trans hb ht0.size
  have HE := Lib.hid (tend_any w m 7 s.m.nm c7 (h.mc.frz 7) hml hn hw0.std)
  have HP := Lib.hid hP0
  have HT0 := Lib.hid (ht0.wide (q := pObj) fun _ => p_mo)
  have HSW := Lib.hid hw0
  unfold endNumP
  have hsz : (endS s.m.nm).size ≤ 1000 := Nat.le_trans (endS_size _) (by decide)
  generalize endC s.m.nm = c at *
  generalize endS s.m.nm = f at *
  clear h hw hM0 ht0 hP0 hw0 c7
  by_cases hc : c = 0
  case neg =>
    rw [if_pos hc]
    have z1 : (c == 0) = false := by rw [beq_eq_false_iff_ne]; exact hc
    have z2 : (c != 0) = true := by simp [bne, z1]
    clear hc
    go_enter Tryz.func165, Tryz.ntmps165
    go_wp2_with fail
    refine HE.out.mono ?_
    rintro e w1 ⟨rfl, hb1⟩
    have HF : Hid (PPo w base b2 U m o ck ⟨{ s with m := { s.m with nm := ⟨#[]⟩ } }, c⟩ (.returned (.int .i64 c)) w1) := Lib.hid ⟨rfl, ⟨_, _, _, HP.out.below hb1⟩, HT0.out.trans (Tch.of_below hb1)⟩
    clear hb1 HE
    go_wp2
    go_ret
    exact HF.out
  case pos =>
    subst hc
    rw [if_neg (by simp)]
    go_enter Tryz.func165, Tryz.ntmps165
    go_wp2_with fail
    refine HE.out.mono ?_
    rintro e w1 ⟨rfl, hb1⟩
    have hP1 := HP.out.below hb1
    obtain ⟨_, d0, _⟩ := hP1.mc.cells
    have f0 := hP1.mc.frz 0
    have hl1 := hP1.mc.lt
    have hM2 := hP1.mc.set 0 (.int .i64 0) (M' := { s.m with nm := ⟨#[]⟩, wi := 0 }) (fun ov => rfl) rfl
    have ht2 := hP1.mc.touch 0 (.int .i64 0)
    have hP2 := hP1.pm (ht2.wide fun _ => pm_of) hM2 rfl (fun h => absurd h (by simp))
    have hw2 := (HSW.out.below (hb1.mono hb0)).tch ht2 (Nat.le_trans hb0 hb1.size)
    have HC := Lib.hid (scalar_any _ base b2 U m o ck _ qp av A ⟨3, f, ⟨#[]⟩⟩ hP2 hne hg hw2 (by simp only; omega) hl)
    have HTT := Lib.hid (HT0.out.trans ((Tch.of_below hb1).trans (ht2.wide (q := pObj) fun _ => p_mo)))
    clear hb1 hP1 hM2 ht2 hP2 hw2 HE HP HT0
    go_wp2_with fail
    refine HC.out.mono ?_
    intro e w5 hp
    have HF : Hid (PPo w base b2 U m o ck (scalarP { s with m := { s.m with nm := ⟨#[]⟩, wi := 0 } } ⟨3, f, ⟨#[]⟩⟩) e w5) := Lib.hid ⟨hp.1, hp.2.1, HTT.out.trans hp.2.2⟩
    have he := hp.1
    clear hp
    subst he
    go_wp2
    go_ret
    exact HF.out
end Go.Proofs.YtmimadkepflmlaaGreatDoor
namespace Go.Proofs.YtmimadkepflmlaaGreatDoor
open Go.RowKit Go.Maps
set_option maxRecDepth 100000
set_option linter.unusedSimpArgs false
set_option linter.unusedVariables false
set_option linter.unusedSectionVars false
variable [Tab]
/-- A Check that is clear of more blocks. -/
theorem crep_plus (f1 f2 : Fo) {w : World} {b g rb cap : Nat} {qs : List PQ} (h : @CRep f1 w b g rb cap qs) (hF : ∀ k, inC g rb qs k → ¬ f2.F k) (hl : f2.lim ≤ w.heap.size) : @CRep f2 w b g rb cap qs := by
  obtain ⟨h1, h2, h3, h4, h5, h6, h7⟩ := h
  refine @CRep.mk f2 _ _ _ _ _ _ h1 h2 h3 ?_ ⟨hF g (.inl rfl), hF rb (.inr (.inl rfl)), hl⟩
  have : ∀ l : List PQ, (∀ q ∈ l, q ∈ qs) → @MapsOk f1 w b l → @MapsOk f2 w b l := by
    intro l
    induction l with
    | nil => intro _ h; exact h
    | cons q r ih =>
      intro hsub h
      exact ⟨fun c hc => ⟨⟨(h.1 c hc).1.1, hF c (.inr (.inr ⟨q, hsub q List.mem_cons_self, hc⟩))⟩, (h.1 c hc).2⟩, h.2.1, ih (fun q' hq' => hsub q' (List.mem_cons_of_mem _ hq')) h.2.2⟩
  exact this qs (fun q h => h) h4
/-- No block of a Check is foreign to it. -/
theorem crep_nf (f1 : Fo) {w : World} {b g rb cap : Nat} {qs : List PQ} (h : @CRep f1 w b g rb cap qs) : ∀ k, inC g rb qs k → ¬ f1.F k := by
  obtain ⟨h1, h2, h3, h4, h5, h6, h7⟩ := h
  have : ∀ l : List PQ, @MapsOk f1 w b l → ∀ q ∈ l, ∀ k, q.m = some k → ¬ f1.F k := by
    intro l
    induction l with
    | nil => intro _ q hq; cases hq
    | cons p r ih =>
      intro hM q hq k hk
      rcases List.mem_cons.1 hq with rfl | hq
      · exact (hM.1 k hk).1.2
      · exact ih hM.2.2 q hq k hk
  rintro k (rfl | rfl | ⟨q, hq, hk⟩)
  · exact h5
  · exact h6
  · exact this qs h4 q hq k hk
theorem crep_lim (f1 : Fo) {w : World} {b g rb cap : Nat} {qs : List PQ} (h : @CRep f1 w b g rb cap qs) : f1.lim ≤ w.heap.size := by
  obtain ⟨_, _, _, _, _, _, h7⟩ := h; exact h7
theorem crep_lt (f1 : Fo) {w : World} {b g rb cap : Nat} {qs : List PQ} (h : @CRep f1 w b g rb cap qs) : ∀ k, inC g rb qs k → k < w.heap.size := by
  have hg := @CRep.lt _ f1 _ _ _ _ _ _ h
  have hr := @CRep.rb_lt _ f1 _ _ _ _ _ _ h
  obtain ⟨_, _, _, h4, _⟩ := h
  rintro k (rfl | rfl | ⟨q, hq, hk⟩)
  · exact hg
  · exact hr
  · exact @MapsOk.lt _ f1 _ _ _ h4 q hq k hk
variable [fo : Fo]
section
variable {w w' : World} {base b2 U m o ck : Nat} {s : Ps} {qp av : Value} {A A' : Nat → Prop}
/-- The events' Check, clear of other blocks than it was. -/
theorem OutA.swap {b : Nat} {st : List Pt} {l : List Ev} (h : OutA fo w b o ck st l A) (hA : ∀ k, A' k → k < w.heap.size) (hc : ∀ rb cap qs lv, @CRep (Fo.plus fo (fun _ => False) 0 (fun _ h => h.elim)) w b ck rb cap qs → ptsOf qs = st → Blk w o 52 #[.pointer (some ⟨ck, 0, none⟩), lv] → (∀ k, inC ck rb qs k → ¬ A' k) ∧ ¬ A' o ∧ ∀ g, lv.ownBlock = some g → ¬ A' g) : OutA fo w b o ck st l A' := by
  obtain ⟨n, hn, ⟨lv, hB, hR, hf⟩, ⟨rb, cap, qs, hq, hC⟩, hb, ho⟩ := h
  have hl := crep_lim (Fo.plus fo A n hn) hC
  have hnf := crep_nf (Fo.plus fo A n hn) hC
  have hC0 : @CRep (Fo.plus fo (fun _ => False) 0 (fun _ h => h.elim)) w b ck rb cap qs := crep_plus _ _ hC (fun k hk hc => hnf k hk (.inl (hc.resolve_right id))) (Nat.max_le.2 ⟨Nat.le_trans (Nat.le_max_left _ _) hl, Nat.zero_le _⟩)
  obtain ⟨c1, c2, c3⟩ := hc rb cap qs lv hC0 hq hB
  refine ⟨w.heap.size, hA, @OAt.mk (Fo.plus fo A' w.heap.size hA) w b o ck st l ⟨lv, hB, hR, fun g hg hF => ?_⟩ ⟨rb, cap, qs, hq, crep_plus _ _ hC (fun k hk hF => ?_) (Nat.max_le.2 ⟨Nat.le_trans (Nat.le_max_left _ _) hl, Nat.le_refl _⟩)⟩ hb (fun hF => ?_)⟩
  · rcases hF with hF | hF
    · exact hf g hg (.inl hF)
    · exact c3 g hg hF
  · rcases hF with hF | hF
    · exact hnf k hk (.inl hF)
    · exact c1 k hk hF
  · rcases hF with hF | hF
    · exact ho (.inl hF)
    · exact c2 hF
end
end Go.Proofs.YtmimadkepflmlaaGreatDoor

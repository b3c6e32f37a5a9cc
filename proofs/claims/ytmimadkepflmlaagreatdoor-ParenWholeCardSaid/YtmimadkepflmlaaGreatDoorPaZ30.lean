/-
  paren: begin, Step, End, whatever the state.
-/
import Derived.Test.YtmimadkepflmlaaGreatDoorPaZ29
import Derived.Test.YtmimadkepflmlaaGreatDoorPaZ11
namespace Go.Proofs.YtmimadkepflmlaaGreatDoor
open Go.RowKit Go.Maps
set_option maxRecDepth 100000
set_option linter.unusedSimpArgs false
set_option linter.unusedVariables false
set_option linter.unusedSectionVars false
set_option linter.unusedSectionVars false
variable [Tab] [Fo]

theorem begin_any (w : World) (base b2 U m o ck : Nat) (s : Ps) (qp av : Value) (A : Nat → Prop) (b : UInt8) (h : PX w base b2 U m o ck s qp av A) (hw4 : s.m.wi ≠ 4) (hk : kindI (topI s.m.op)) (hd : 0 ≤ s.m.du ∧ s.m.du ≤ 7) (hne : s.m.op ≠ []) (hne2 : endP s.m = true → s.m.op.dropLast ≠ []) (hnm : s.m.nm.size ≤ 1000) (hop : s.m.op.length ≤ 100000) (hg : Good s.st) (hl : s.l.length ≤ 1000000) (hw : SW base w) :
    Calls Tryz.prog 168 #[.pointer (some ⟨m, 0, none⟩), .int .u8 (b.toNat : Int), .pointer (some ⟨o, 0, none⟩)] w (PPo w base b2 U m o ck (beginP s b)) := by
  by_cases hB59 : b.toNat = 59
  · exact begin_59 w base b2 U m o ck s qp av A b h hw4 hk hd hne hne2 hnm hop hg hl hw hB59
  by_cases hB34 : b.toNat = 34
  · exact begin_34 w base b2 U m o ck s qp av A b h hw4 hk hd hne hne2 hnm hop hg hl hw hB34
  by_cases hB : b.toNat = 41
  · cases hE : endP s.m with
    | true => exact begin_41 w base b2 U m o ck s qp av A b h hw4 hk hd hne hne2 hnm hop hg hl hw hB hE
    | false =>
      cases hG : mayB1 s.m.nm b with
      | false => exact begin_41n_0 w base b2 U m o ck s qp av A b h hw4 hk hd hne hne2 hnm hop hg hl hw hB hE hG
      | true =>
        cases hA : anyP s.m with
        | false => exact begin_41n_1 w base b2 U m o ck s qp av A b h hw4 hk hd hne hne2 hnm hop hg hl hw hB hE hG hA
        | true => exact begin_41n_2 w base b2 U m o ck s qp av A b h hw4 hk hd hne hne2 hnm hop hg hl hw hB hE hG hA
  have hB41 := hB
  clear hB
  by_cases hB : b.toNat = 64
  · by_cases hU : s.m.du = 3
    · exact begin_64 w base b2 U m o ck s qp av A b h hw4 hk hd hne hne2 hnm hop hg hl hw hB hU
    · skip
      cases hG : mayB1 s.m.nm b with
      | false => exact begin_64n_0 w base b2 U m o ck s qp av A b h hw4 hk hd hne hne2 hnm hop hg hl hw hB hU hG
      | true =>
        cases hA : anyP s.m with
        | false => exact begin_64n_1 w base b2 U m o ck s qp av A b h hw4 hk hd hne hne2 hnm hop hg hl hw hB hU hG hA
        | true => exact begin_64n_2 w base b2 U m o ck s qp av A b h hw4 hk hd hne hne2 hnm hop hg hl hw hB hU hG hA
  have hB64 := hB
  clear hB
  by_cases hB : b.toNat = 35
  · cases hA : anyP s.m with
    | true => exact begin_35a w base b2 U m o ck s qp av A b h hw4 hk hd hne hne2 hnm hop hg hl hw hB hA
    | false =>
      by_cases hT : topI s.m.op = 10
      · cases hE : endP s.m with
        | true => exact begin_35e w base b2 U m o ck s qp av A b h hw4 hk hd hne hne2 hnm hop hg hl hw hB hA hT hE
        | false =>
          cases hG : mayB1 s.m.nm b with
          | false => exact begin_35f_0 w base b2 U m o ck s qp av A b h hw4 hk hd hne hne2 hnm hop hg hl hw hB hA hT hE hG
          | true =>
            exact begin_35f_1 w base b2 U m o ck s qp av A b h hw4 hk hd hne hne2 hnm hop hg hl hw hB hA hT hE hG
      · skip
        cases hG : mayB1 s.m.nm b with
        | false => exact begin_35g_0 w base b2 U m o ck s qp av A b h hw4 hk hd hne hne2 hnm hop hg hl hw hB hA hT hG
        | true =>
          exact begin_35g_1 w base b2 U m o ck s qp av A b h hw4 hk hd hne hne2 hnm hop hg hl hw hB hA hT hG
  have hB35 := hB
  clear hB
  by_cases hB : b.toNat = 40
  · cases hA : anyP s.m with
    | true => exact begin_40 w base b2 U m o ck s qp av A b h hw4 hk hd hne hne2 hnm hop hg hl hw hB hA
    | false =>
      cases hG : mayB1 s.m.nm b with
      | false => exact begin_40n_0 w base b2 U m o ck s qp av A b h hw4 hk hd hne hne2 hnm hop hg hl hw hB hA hG
      | true =>
        exact begin_40n_1 w base b2 U m o ck s qp av A b h hw4 hk hd hne hne2 hnm hop hg hl hw hB hA hG
  have hB40 := hB
  clear hB
  have hB := And.intro hB59 (And.intro hB34 (And.intro hB41 (And.intro hB64 (And.intro hB35 hB40))))
  cases hG : mayB1 s.m.nm b with
  | false => exact begin_oth_0 w base b2 U m o ck s qp av A b h hw4 hk hd hne hne2 hnm hop hg hl hw hB hG
  | true =>
    cases hA : anyP s.m with
    | false => exact begin_oth_1 w base b2 U m o ck s qp av A b h hw4 hk hd hne hne2 hnm hop hg hl hw hB hG hA
    | true => exact begin_oth_2 w base b2 U m o ck s qp av A b h hw4 hk hd hne hne2 hnm hop hg hl hw hB hG hA

set_option maxHeartbeats 8000000 in
theorem pstep_1n (w : World) (base b2 U m o ck : Nat) (s : Ps) (qp av : Value) (A : Nat → Prop) (b : UInt8) (h : PX w base b2 U m o ck s qp av A) (hwi : s.m.wi = 1) (hB : b.toNat = 10) :
    Calls Tryz.prog 163 #[.pointer (some ⟨m, 0, none⟩), .int .u8 (b.toNat : Int), .pointer (some ⟨o, 0, none⟩)] w (PPo w base b2 U m o ck (⟨{ s with m := { s.m with wi := 0 } }, 0⟩)) := by
  have hb : base ≤ w.heap.size := Nat.le_trans h.b2.1 h.b2.2
  obtain ⟨_, c0, c1, _, _, _, _, c7, _⟩ := h.mc.cells
  have f0 := h.mc.frz 0
  have hml := h.mc.lt
  have y1 : (s.m.wi == 1) = true := by rw [hwi]; rfl
  have y2 : (s.m.wi == 2) = false := by rw [hwi]; rfl
  have y4 : (s.m.wi == 4) = false := by rw [hwi]; rfl
  have y3 : (s.m.wi == 3) = false := by rw [hwi]; rfl
  have z : ((b.toNat : Int) == 10) = true := pub_t hB
  have hM2 := h.mc.set 0 (.int .i64 0) (M' := { s.m with wi := 0 }) (fun ov => rfl) rfl
  have t2 := h.mc.touch 0 (.int .i64 0)
  have hP2 := h.pm (t2.wide fun _ => pm_of) hM2 rfl (fun hh => absurd hh (by simp))
  have HF : Hid (PPo w base b2 U m o ck ⟨{ s with m := { s.m with wi := 0 } }, 0⟩ (.returned (.int .i64 0)) _) := Lib.hid ⟨rfl, ⟨_, _, _, hP2⟩, t2.wide fun _ => p_mo⟩
  rw [hwi] at c0
  clear h hM2 t2 hP2 hB hwi
  go_enter Tryz.func163, Tryz.ntmps163
  go_wp2
  refine wp_scope_fwd 1 ?_
  generalize hQ : Exit.fwd _ _ _ 1 = Q1
  go_wp2
  go_step3
  go_wp2
  rw [← hQ, Exit.fwd_ret]
  go_ret
  exact HF.out

set_option maxHeartbeats 8000000 in
theorem pstep_1o (w : World) (base b2 U m o ck : Nat) (s : Ps) (qp av : Value) (A : Nat → Prop) (b : UInt8) (h : PX w base b2 U m o ck s qp av A) (hwi : s.m.wi = 1) (hB : ¬ b.toNat = 10) :
    Calls Tryz.prog 163 #[.pointer (some ⟨m, 0, none⟩), .int .u8 (b.toNat : Int), .pointer (some ⟨o, 0, none⟩)] w (PPo w base b2 U m o ck (⟨s, 0⟩)) := by
  have hb : base ≤ w.heap.size := Nat.le_trans h.b2.1 h.b2.2
  obtain ⟨_, c0, c1, _, _, _, _, c7, _⟩ := h.mc.cells
  have f0 := h.mc.frz 0
  have hml := h.mc.lt
  have y1 : (s.m.wi == 1) = true := by rw [hwi]; rfl
  have y2 : (s.m.wi == 2) = false := by rw [hwi]; rfl
  have y4 : (s.m.wi == 4) = false := by rw [hwi]; rfl
  have y3 : (s.m.wi == 3) = false := by rw [hwi]; rfl
  have z : ((b.toNat : Int) == 10) = false := pub_f hB
  have HF : Hid (PPo w base b2 U m o ck ⟨s, 0⟩ (.returned (.int .i64 0)) w) := Lib.hid ⟨rfl, ⟨_, _, _, h⟩, Tch.refl _ _ _⟩
  rw [hwi] at c0
  clear h hB hwi
  go_enter Tryz.func163, Tryz.ntmps163
  go_wp2
  refine wp_scope_fwd 1 ?_
  generalize hQ : Exit.fwd _ _ _ 1 = Q1
  go_wp2
  go_step3
  go_wp2
  rw [← hQ, Exit.fwd_ret]
  go_ret
  exact HF.out

set_option maxHeartbeats 8000000 in
theorem pstep_2 (w : World) (base b2 U m o ck : Nat) (s : Ps) (qp av : Value) (A : Nat → Prop) (b : UInt8) (h : PX w base b2 U m o ck s qp av A) (hwi : s.m.wi = 2) (hne : s.m.op ≠ []) (hop : s.m.op.length ≤ 100000) (hg : Good s.st) (hl : s.l.length ≤ 1000000) (hw : SW base w) :
    Calls Tryz.prog 163 #[.pointer (some ⟨m, 0, none⟩), .int .u8 (b.toNat : Int), .pointer (some ⟨o, 0, none⟩)] w (PPo w base b2 U m o ck (markedP s b)) := by
  have hb : base ≤ w.heap.size := Nat.le_trans h.b2.1 h.b2.2
  obtain ⟨_, c0, c1, _, _, _, _, c7, _⟩ := h.mc.cells
  have f0 := h.mc.frz 0
  have hml := h.mc.lt
  have HC := Lib.hid (marked_any w base b2 U m o ck s qp av A b h hne hop hg hl hw)
  rw [hwi] at c0
  clear h
  go_enter Tryz.func163, Tryz.ntmps163
  go_wp2
  refine wp_scope_fwd 1 ?_
  generalize hQ : Exit.fwd _ _ _ 1 = Q1
  go_wp2
  go_step3
  go_wp2_with fail
  refine HC.out.mono ?_
  intro e w5 hp
  have HF := Lib.hid (hp)
  have he := hp.1
  clear hp
  subst he
  go_wp2
  rw [← hQ, Exit.fwd_ret]
  go_ret
  exact HF.out

set_option maxHeartbeats 8000000 in
theorem pstep_4 (w : World) (base b2 U m o ck : Nat) (s : Ps) (qp av : Value) (A : Nat → Prop) (b : UInt8) (h : PX w base b2 U m o ck s qp av A) (hwi : s.m.wi = 4) (hqi : Qt.QInv s.m.q) (huk : s.m.uk = 0 ∨ s.m.uk = 4 ∨ s.m.uk = 8 ∨ s.m.uk = 10 ∨ s.m.uk = 11) (hsa : s.m.uk = 0 → s.m.sa ≠ [] ∧ Good s.m.sa) (hne : s.m.op ≠ []) (hat : s.m.at'.size ≤ 48) (hg : Good s.st) (hl : s.l.length ≤ 1000000) (hw : SW base w) :
    Calls Tryz.prog 163 #[.pointer (some ⟨m, 0, none⟩), .int .u8 (b.toNat : Int), .pointer (some ⟨o, 0, none⟩)] w (PPo w base b2 U m o ck (charP s b)) := by
  have hb : base ≤ w.heap.size := Nat.le_trans h.b2.1 h.b2.2
  obtain ⟨_, c0, c1, _, _, _, _, c7, _⟩ := h.mc.cells
  have f0 := h.mc.frz 0
  have hml := h.mc.lt
  have HC := Lib.hid (character_any w base b2 U m o ck s qp av A b h hwi hqi huk hsa hne hat hg hl hw)
  rw [hwi] at c0
  clear h
  go_enter Tryz.func163, Tryz.ntmps163
  go_wp2
  refine wp_scope_fwd 1 ?_
  generalize hQ : Exit.fwd _ _ _ 1 = Q1
  go_wp2
  go_step3
  go_wp2_with fail
  refine HC.out.mono ?_
  intro e w5 hp
  have HF := Lib.hid (hp)
  have he := hp.1
  clear hp
  subst he
  go_wp2
  rw [← hQ, Exit.fwd_ret]
  go_ret
  exact HF.out

set_option maxHeartbeats 8000000 in
theorem pstep_3d (w : World) (base b2 U m o ck : Nat) (s : Ps) (qp av : Value) (A : Nat → Prop) (b : UInt8) (h : PX w base b2 U m o ck s qp av A) (hwi : s.m.wi = 3) (hnm : s.m.nm.size ≤ 1000) (hm : mayB1 s.m.nm b = true) :
    Calls Tryz.prog 163 #[.pointer (some ⟨m, 0, none⟩), .int .u8 (b.toNat : Int), .pointer (some ⟨o, 0, none⟩)] w (PPo w base b2 U m o ck (addP s b)) := by
  have hb : base ≤ w.heap.size := Nat.le_trans h.b2.1 h.b2.2
  obtain ⟨_, c0, c1, _, _, _, _, c7, _⟩ := h.mc.cells
  have f0 := h.mc.frz 0
  have hml := h.mc.lt
  have hM := goes_any w m 7 s.m.nm b c7 hml hnm
  rw [hm] at hM
  have HM := Lib.hid hM
  have HD := Lib.hid (fun w1 (h1 : Below w.heap.size w w1) => add_anyP w1 base b2 U m o ck s qp av A b (h.below h1) hnm)
  rw [hwi] at c0
  clear h hM hm
  go_enter Tryz.func163, Tryz.ntmps163
  go_wp2
  refine wp_scope_fwd 1 ?_
  generalize hQ : Exit.fwd _ _ _ 1 = Q1
  go_wp2
  go_step3
  go_wp2_with fail
  refine HM.out.mono ?_
  rintro e w1 ⟨rfl, hb1⟩
  have HC := Lib.hid (HD.out w1 hb1)
  have HTT := Lib.hid (Tch.of_below (base := base) (p := pObj) hb1)
  have hml1 : m < w1.heap.size := Nat.lt_of_lt_of_le hml hb1.size
  clear hb1 HD HM
  go_wp2_with fail
  refine HC.out.mono ?_
  intro e w5 hp
  have HF := Lib.hid (hp.from_ HTT.out)
  have he := hp.1
  clear hp
  subst he
  go_wp2
  rw [← hQ, Exit.fwd_ret]
  go_ret
  exact HF.out

set_option maxHeartbeats 8000000 in
theorem pstep_p (w : World) (base b2 U m o ck : Nat) (s : Ps) (qp av : Value) (A : Nat → Prop) (b : UInt8) (h : PX w base b2 U m o ck s qp av A) (hwi : s.m.wi = 0) (hk : kindI (topI s.m.op)) (hd : 0 ≤ s.m.du ∧ s.m.du ≤ 7) (hne : s.m.op ≠ []) (hne2 : endP s.m = true → s.m.op.dropLast ≠ []) (hnm : s.m.nm.size ≤ 1000) (hop : s.m.op.length ≤ 100000) (hg : Good s.st) (hl : s.l.length ≤ 1000000) (hw : SW base w) :
    Calls Tryz.prog 163 #[.pointer (some ⟨m, 0, none⟩), .int .u8 (b.toNat : Int), .pointer (some ⟨o, 0, none⟩)] w (PPo w base b2 U m o ck (plainP s b)) := by
  have hb : base ≤ w.heap.size := Nat.le_trans h.b2.1 h.b2.2
  obtain ⟨_, c0, c1, _, _, _, _, c7, _⟩ := h.mc.cells
  have f0 := h.mc.frz 0
  have hml := h.mc.lt
  have HBl := Lib.hid (tblank_any b w)
  have HMk := Lib.hid (begin_any w base b2 U m o ck s qp av A b h (by omega) hk hd hne hne2 hnm hop hg hl hw)
  have HF0 : Hid (PPo w base b2 U m o ck ⟨s, 0⟩ (.returned (.int .i64 0)) w) := Lib.hid ⟨rfl, ⟨_, _, _, h⟩, Tch.refl _ _ _⟩
  rw [hwi] at c0
  unfold plainP
  clear h hg hl hw hne hnm hne2 hk hd
  cases hbl : blankB b with
  | true =>
    rw [if_pos rfl]
    rw [hbl] at HBl
    clear hbl HMk
    go_enter Tryz.func163, Tryz.ntmps163
    go_wp2
    refine wp_scope_fwd 1 ?_
    generalize hQ : Exit.fwd _ _ _ 1 = Q1
    go_wp2
    go_step3
    go_wp2_with fail
    refine HBl.out.mono ?_
    rintro e w1 ⟨rfl, rfl⟩
    have HF := HF0
    go_wp2
    rw [← hQ, Exit.fwd_ret]
    go_ret
    exact HF.out
  | false =>
    rw [if_neg (by decide)]
    rw [hbl] at HBl
    clear hbl HF0
    go_enter Tryz.func163, Tryz.ntmps163
    go_wp2
    refine wp_scope_fwd 1 ?_
    generalize hQ : Exit.fwd _ _ _ 1 = Q1
    go_wp2
    go_step3
    go_wp2_with fail
    refine HBl.out.mono ?_
    rintro e w1 ⟨rfl, rfl⟩
    go_wp2_with fail
    refine HMk.out.mono ?_
    intro e w5 hp
    have HF := Lib.hid (hp)
    have he := hp.1
    clear hp
    subst he
    go_wp2
    rw [← hQ, Exit.fwd_ret]
    go_ret
    exact HF.out

theorem pend_facts (s : Ps) (hl : s.l.length ≤ 900000) (hg : Good s.st) : (endNumP s).b.m.op = s.m.op ∧ Good (endNumP s).b.st ∧ (endNumP s).b.l.length ≤ 1000000 ∧ (endNumP s).b.m.nm.size ≤ 1000 ∧ ((endNumP s).e = 0 → (endNumP s).b.m.wi = 0) ∧ (endNumP s).b.m.wi ≤ s.m.wi ∨ s.m.wi < 0 := by
  unfold endNumP
  by_cases hw : s.m.wi < 0
  · exact .inr hw
  left
  split
  · rename_i hc
    exact ⟨rfl, hg, by simp only; omega, Nat.zero_le _, fun e => absurd e hc, Int.le_refl _⟩
  · refine ⟨rfl, good_step hg _, ?_, Nat.zero_le _, fun _ => rfl, by show (0 : Int) ≤ _; omega⟩
    have := tellL_len s.st s.l ⟨3, endS s.m.nm, ⟨#[]⟩⟩
    simp only [scalarP, tellP]
    omega
theorem veP_range (op : List Int) : 0 ≤ veP op ∧ veP op ≤ 7 := by unfold veP; split <;> omega
theorem pend_du (s : Ps) (hd : 0 ≤ s.m.du ∧ s.m.du ≤ 7) : 0 ≤ (endNumP s).b.m.du ∧ (endNumP s).b.m.du ≤ 7 := by
  unfold endNumP
  split
  · exact hd
  · exact veP_range _

set_option maxHeartbeats 8000000 in
theorem pstep_3e (w : World) (base b2 U m o ck : Nat) (s : Ps) (qp av : Value) (A : Nat → Prop) (b : UInt8) (h : PX w base b2 U m o ck s qp av A) (hwi : s.m.wi = 3) (hm : mayB1 s.m.nm b = false) (hne2 : s.m.op.dropLast ≠ [] ∨ topI s.m.op = 0) (hl2 : s.l.length ≤ 900000) (hk : kindI (topI s.m.op)) (hd : 0 ≤ s.m.du ∧ s.m.du ≤ 7) (hne : s.m.op ≠ []) (hnm : s.m.nm.size ≤ 1000) (hop : s.m.op.length ≤ 100000) (hg : Good s.st) (hl : s.l.length ≤ 1000000) (hw : SW base w) :
    Calls Tryz.prog 163 #[.pointer (some ⟨m, 0, none⟩), .int .u8 (b.toNat : Int), .pointer (some ⟨o, 0, none⟩)] w (PPo w base b2 U m o ck (if (endNumP s).e ≠ 0 then endNumP s else plainP (endNumP s).b b)) := by
  have hb : base ≤ w.heap.size := Nat.le_trans h.b2.1 h.b2.2
  obtain ⟨_, c0, c1, _, _, _, _, c7, _⟩ := h.mc.cells
  have f0 := h.mc.frz 0
  have hml := h.mc.lt
  have hM := goes_any w m 7 s.m.nm b c7 hml hnm
  rw [hm] at hM
  have HM := Lib.hid hM
  have HD := Lib.hid (fun w1 (h1 : Below w.heap.size w w1) => endNumber_any w1 base b2 U m o ck s qp av A (h.below h1) hnm hne hg (hw.below (h1.mono hb)) hl)
  have hr := pend_facts s hl2 hg
  have hrd := pend_du s hd
  have HSW := Lib.hid hw
  have hwi2 := hwi
  rw [hwi] at c0
  clear h hM hm hw hl hg hl2
  generalize endNumP s = r at *
  replace hr : r.b.m.op = s.m.op ∧ Good r.b.st ∧ r.b.l.length ≤ 1000000 ∧ r.b.m.nm.size ≤ 1000 ∧ (r.e = 0 → r.b.m.wi = 0) ∧ r.b.m.wi ≤ s.m.wi := by
    rcases hr with hr | hr
    · exact hr
    · omega
  by_cases he : r.e = 0
  case neg =>
    rw [if_pos he]
    have z1 : (r.e == 0) = false := by rw [beq_eq_false_iff_ne]; exact he
    have z2 : (r.e != 0) = true := by simp [bne, z1]
    clear he hr hrd hne2
    go_enter Tryz.func163, Tryz.ntmps163
    go_wp2
    refine wp_scope_fwd 1 ?_
    generalize hQ : Exit.fwd _ _ _ 1 = Q1
    go_wp2
    go_step3
    go_wp2_with fail
    refine HM.out.mono ?_
    rintro e w1 ⟨rfl, hb1⟩
    have HC := Lib.hid (HD.out w1 hb1)
    have HTT := Lib.hid (Tch.of_below (base := base) (p := pObj) hb1)
    clear hb1 HD HM
    go_wp2_with fail
    refine HC.out.mono ?_
    intro e w5 hp
    have HF := Lib.hid (hp.from_ HTT.out)
    have he := hp.1
    clear hp
    subst he
    go_wp2
    rw [← hQ, Exit.fwd_ret]
    go_ret
    exact HF.out
  case pos =>
    rw [if_neg (by simp [he])]
    obtain ⟨rb, re⟩ := r
    simp only at he hr hrd ⊢
    subst he
    obtain ⟨r1, r2, r3, r4, r5, r6⟩ := hr
    replace r5 : rb.m.wi = 0 := by simpa using r5
    go_enter Tryz.func163, Tryz.ntmps163
    go_wp2
    refine wp_scope_fwd 1 ?_
    generalize hQ : Exit.fwd _ _ _ 1 = Q1
    go_wp2
    go_step3
    go_wp2_with fail
    refine HM.out.mono ?_
    rintro e w1 ⟨rfl, hb1⟩
    have HC := Lib.hid (HD.out w1 hb1)
    have HTT := Lib.hid (Tch.of_below (base := base) (p := pObj) hb1)
    have hb5 : base ≤ w1.heap.size := Nat.le_trans hb hb1.size
    clear hb1 HD HM
    go_wp2_with fail
    refine HC.out.mono ?_
    rintro e w2 ⟨rfl, ⟨qp2, av2, A2, hPX⟩, ht2⟩
    replace hPX : PX w2 base b2 U m o ck rb qp2 av2 A2 := hPX
    obtain ⟨_, k0, _⟩ := hPX.mc.cells
    replace k0 : w2.cell? ⟨m, 0, none⟩ = some (.int .i64 0) := by rw [k0, r5]
    have hml2 := hPX.mc.lt
    have HT2 := Lib.hid (HTT.out.trans ht2)
    have hSW2 := HSW.out.tch HT2.out hb
    have HBl := Lib.hid (tblank_any b w2)
    have HMk := Lib.hid (begin_any w2 base b2 U m o ck rb qp2 av2 A2 b hPX (by omega) (by rw [r1]; exact hk) hrd (by rw [r1]; exact hne) (fun hE => by rw [r1]; rcases hne2 with h | h; exact h; (unfold endP at hE; rw [r1, h] at hE; simp at hE)) r4 (by rw [r1]; exact hop) r2 r3 hSW2)
    have HF0 : Hid (PPo w base b2 U m o ck ⟨rb, 0⟩ (.returned (.int .i64 0)) w2) := Lib.hid ⟨rfl, ⟨_, _, _, hPX⟩, HT2.out⟩
    clear hPX ht2 hSW2 HC HTT
    go_wp2
    go_step3
    show Q1 _ _ _
    rw [← hQ]
    refine Exit.fwd_goto 0 _ _ rfl ?_
    generalize hQ0 : Exit.fwd _ _ _ 0 = Q0
    cases hbl : blankB b with
    | true =>
      rw [hbl] at HBl
      have HBB := Lib.hid hbl
      clear hbl HMk
      go_wp2_with fail
      refine HBl.out.mono ?_
      rintro e w3 ⟨rfl, rfl⟩
      go_wp2
      rw [← hQ0, Exit.fwd_ret]
      go_ret
      show PPo w base b2 U m o ck (plainP rb b) _ _
      unfold plainP
      rw [if_pos HBB.out]
      exact HF0.out
    | false =>
      rw [hbl] at HBl
      have HBB := Lib.hid hbl
      clear hbl HF0
      go_wp2_with fail
      refine HBl.out.mono ?_
      rintro e w3 ⟨rfl, rfl⟩
      go_wp2_with fail
      refine HMk.out.mono ?_
      intro e w5 hp
      have HF := Lib.hid (hp.from_ HT2.out)
      have he := hp.1
      clear hp
      subst he
      go_wp2
      rw [← hQ0, Exit.fwd_ret]
      go_ret
      show PPo w base b2 U m o ck (plainP rb b) _ _
      unfold plainP
      rw [if_neg (by rw [HBB.out]; decide)]
      exact HF.out

set_option maxHeartbeats 8000000 in
theorem pend_n (w : World) (base b2 U m o ck : Nat) (s : Ps) (qp av : Value) (A : Nat → Prop) (h : PX w base b2 U m o ck s qp av A) (hwi : s.m.wi ≠ 3) :
    Calls Tryz.prog 162 #[.pointer (some ⟨m, 0, none⟩), .pointer (some ⟨o, 0, none⟩)] w (PPo w base b2 U m o ck (finP s)) := by
  have hb : base ≤ w.heap.size := Nat.le_trans h.b2.1 h.b2.2
  obtain ⟨_, c0, c1, _, _, _, _, c7, _⟩ := h.mc.cells
  have hml := h.mc.lt
  have y3 : (s.m.wi == 3) = false := by rw [beq_eq_false_iff_ne]; exact hwi
  unfold finP
  rw [if_neg hwi]
  simp only [ne_eq, not_true_eq_false, if_false]
  have H := Lib.hid h
  clear h
  by_cases hd : s.m.du = 7
  · have z1 : (s.m.du == 7) = true := by rw [hd]; rfl
    have z2 : (s.m.du != 7) = false := by simp [bne, z1]
    rw [if_neg (by simp [hd])]
    clear hd
    go_enter Tryz.func162, Tryz.ntmps162
    go_wp2
    go_ret
    exact ⟨rfl, ⟨_, _, _, H.out⟩, Tch.refl _ _ _⟩
  · have z1 : (s.m.du == 7) = false := by rw [beq_eq_false_iff_ne]; exact hd
    have z2 : (s.m.du != 7) = true := by simp [bne, z1]
    rw [if_pos hd]
    clear hd
    go_enter Tryz.func162, Tryz.ntmps162
    go_wp2
    go_ret
    exact ⟨rfl, ⟨_, _, _, H.out⟩, Tch.refl _ _ _⟩

set_option maxHeartbeats 8000000 in
theorem pend_3 (w : World) (base b2 U m o ck : Nat) (s : Ps) (qp av : Value) (A : Nat → Prop) (h : PX w base b2 U m o ck s qp av A) (hwi : s.m.wi = 3) (hnm : s.m.nm.size ≤ 1000) (hne : s.m.op ≠ []) (hg : Good s.st) (hl : s.l.length ≤ 1000000) (hw : SW base w) :
    Calls Tryz.prog 162 #[.pointer (some ⟨m, 0, none⟩), .pointer (some ⟨o, 0, none⟩)] w (PPo w base b2 U m o ck (finP s)) := by
  have hb : base ≤ w.heap.size := Nat.le_trans h.b2.1 h.b2.2
  obtain ⟨_, c0, c1, _, _, _, _, c7, _⟩ := h.mc.cells
  have hml := h.mc.lt
  have HD := Lib.hid (endNumber_any w base b2 U m o ck s qp av A h hnm hne hg hw hl)
  unfold finP
  rw [if_pos hwi]
  rw [hwi] at c0
  clear h hw
  generalize endNumP s = r at *
  simp only
  by_cases he : r.e = 0
  case neg =>
    rw [if_pos he]
    have z1 : (r.e == 0) = false := by rw [beq_eq_false_iff_ne]; exact he
    have z2 : (r.e != 0) = true := by simp [bne, z1]
    clear he
    go_enter Tryz.func162, Tryz.ntmps162
    go_wp2_with fail
    refine HD.out.mono ?_
    intro e w5 hp
    have HF := Lib.hid hp
    have he := hp.1
    clear hp
    subst he
    go_wp2
    go_ret
    exact HF.out
  case pos =>
    rw [if_neg (by simp [he])]
    obtain ⟨rb, re⟩ := r
    simp only at he ⊢
    subst he
    by_cases hd : rb.m.du = 7
    · have z1 : (rb.m.du == 7) = true := by rw [hd]; rfl
      have z2 : (rb.m.du != 7) = false := by simp [bne, z1]
      rw [if_neg (by simp [hd])]
      clear hd
      go_enter Tryz.func162, Tryz.ntmps162
      go_wp2_with fail
      refine HD.out.mono ?_
      rintro e w2 ⟨rfl, ⟨qp2, av2, A2, hPX⟩, ht2⟩
      obtain ⟨_, _, k1, _⟩ := hPX.mc.cells
      have hml2 := hPX.mc.lt
      have HF : Hid (PPo w base b2 U m o ck ⟨rb, 0⟩ (.returned (.int .i64 0)) w2) := Lib.hid ⟨rfl, ⟨_, _, _, hPX⟩, ht2⟩
      clear hPX ht2
      go_wp2
      go_ret
      exact HF.out
    · have z1 : (rb.m.du == 7) = false := by rw [beq_eq_false_iff_ne]; exact hd
      have z2 : (rb.m.du != 7) = true := by simp [bne, z1]
      rw [if_pos hd]
      clear hd
      go_enter Tryz.func162, Tryz.ntmps162
      go_wp2_with fail
      refine HD.out.mono ?_
      rintro e w2 ⟨rfl, ⟨qp2, av2, A2, hPX⟩, ht2⟩
      obtain ⟨_, _, k1, _⟩ := hPX.mc.cells
      have hml2 := hPX.mc.lt
      have HF : Hid (PPo w base b2 U m o ck ⟨rb, 2⟩ (.returned (.int .i64 2)) w2) := Lib.hid ⟨rfl, ⟨_, _, _, hPX⟩, ht2⟩
      clear hPX ht2
      go_wp2
      go_ret
      exact HF.out
end Go.Proofs.YtmimadkepflmlaaGreatDoor

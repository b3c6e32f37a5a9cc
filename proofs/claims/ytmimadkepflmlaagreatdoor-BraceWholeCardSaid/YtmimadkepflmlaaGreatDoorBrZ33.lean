/-
  brace: Step.
-/
import Derived.Test.YtmimadkepflmlaaGreatDoorBrZ32
import Derived.Test.YtmimadkepflmlaaGreatDoorBrZ05
namespace Go.Proofs.YtmimadkepflmlaaGreatDoor
open Go.RowKit Go.Maps
set_option maxRecDepth 100000
set_option linter.unusedSimpArgs false
set_option linter.unusedVariables false
set_option linter.unusedSectionVars false
variable [Tab] [Fo]

theorem tell_a (m : Mc) (st : List Pt) (l : List Ev) (x : Ev) : (tellB m st l x).b.m = m := rfl
theorem letter_a (s : Bs) (b : UInt8) (h : s.m.a = 6) : (letterB s b).b.m.a ≠ 8 := by
  unfold letterB
  split
  · split
    · simp [tell_a]
    · simp [h]
  · simp [h]
theorem digit_a (s : Bs) (b : UInt8) (h : s.m.a = 7) : (digitB s b).b.m.a ≠ 8 := by
  unfold digitB
  split <;> simp [h]
theorem endNum_a (s : Bs) (h : s.m.a = 7) : (endNumB s).b.m.a ≠ 8 ∧ ((endNumB s).e = 0 → (endNumB s).b.m.a = 5) := by
  unfold endNumB
  split
  · rename_i h2; exact ⟨by simp [h], fun e => absurd e h2⟩
  · exact ⟨by simp [tell_a], fun _ => by simp [tell_a]⟩
theorem endNum_nm (s : Bs) : (endNumB s).b.m.nm.size ≤ 1000 := by
  unfold endNumB
  split
  · exact Nat.zero_le _
  · rw [tell_a]; exact Nat.zero_le _
theorem endNum_good (s : Bs) (hg : Good s.st) (hl : s.l.length ≤ 900000) : Good (endNumB s).b.st ∧ (endNumB s).b.l.length ≤ 1000000 := by
  unfold endNumB
  split
  · exact ⟨hg, by simp only; omega⟩
  · refine ⟨good_step hg _, ?_⟩
    simp only [tellB, tellL]
    split
    · simp; omega
    · omega
theorem endNum_op (s : Bs) : (endNumB s).b.m.op = s.m.op := by
  unfold endNumB
  split <;> rfl

set_option maxHeartbeats 8000000 in
theorem bstep_6 (w : World) (base B m o ck : Nat) (s : Bs) (b : UInt8) (qp : Value) (ha : s.m.a = 6) (h : BAt w base m o ck s qp) (hrs : 0 < s.m.rs.size) (hr4 : s.m.rs.size ≤ 4) (het : s.m.et.size ≤ 48) (hg : Good s.st) (hl : s.l.length ≤ 1000000) (hw : SW base w) (hb : base ≤ w.heap.size) :
    Calls Tryz.prog 133 #[.pointer (some ⟨m, 0, none⟩), .int .u8 (b.toNat : Int), .pointer (some ⟨o, 0, none⟩)] w (SPo w base B m o ck (letterB s b)) := by
  obtain ⟨A, cp, c1, c0, f0, hml⟩ := h.open
  rw [ha] at c0
  have hC := Lib.hid (letter_any w base m o ck s qp b h hrs hr4 het hg hl hw hb)
  have h8 := letter_a s b ha
  clear h hg hl hw
  go_enter Tryz.func133, Tryz.ntmps133
  go_wp2
  refine wp_scope_fwd 1 ?_
  generalize hQ : Exit.fwd _ _ _ 1 = Q1
  go_wp2
  go_step3
  go_wp2_with fail
  refine hC.out.mono ?_
  intro e w5 hp
  have HF := Lib.hid ((hp.d (B := B) h8).s hb)
  have he := hp.1
  clear hp
  subst he
  go_wp2
  rw [← hQ, Exit.fwd_ret]
  go_ret
  exact HF.out

set_option maxHeartbeats 8000000 in
theorem bstep_8 (w : World) (base B m o ck : Nat) (s : Bs) (b : UInt8) (ha : s.m.a = 8) (h : SAt w base B m o ck s) (hqi : Qt.QInv s.m.q) (hg : Good s.st) (hl : s.l.length ≤ 1000000) (hw : SW base w) (hb : base ≤ w.heap.size) :
    Calls Tryz.prog 133 #[.pointer (some ⟨m, 0, none⟩), .int .u8 (b.toNat : Int), .pointer (some ⟨o, 0, none⟩)] w (SPo w base B m o ck (charB s b)) := by
  have hC := Lib.hid (char_any w base B m o ck s b ha h hqi hg hl hw)
  obtain ⟨w0, g, hM0, _, _, ht, _, _⟩ := h
  obtain ⟨ov, hB, _⟩ := (hM0.of_ss ht).ex
  have c0 : w.cell? ⟨m, 0, none⟩ = some (.int .i64 s.m.a) := hB.cell 0
  rw [ha] at c0
  have hml := hB.lt
  clear hM0 ht hB hg hl hw
  go_enter Tryz.func133, Tryz.ntmps133
  go_wp2
  refine wp_scope_fwd 1 ?_
  generalize hQ : Exit.fwd _ _ _ 1 = Q1
  go_wp2
  go_step3
  go_wp2_with fail
  refine hC.out.mono ?_
  intro e w5 hp
  have HF := Lib.hid (hp)
  have he := hp.1
  clear hp
  subst he
  go_wp2
  rw [← hQ, Exit.fwd_ret]
  go_ret
  exact HF.out

set_option maxHeartbeats 8000000 in
theorem bstep_7d (w : World) (base B m o ck : Nat) (s : Bs) (b : UInt8) (qp : Value) (ha : s.m.a = 7) (h : BAt w base m o ck s qp) (hn : s.m.nm.size ≤ 1000) (hm : mayB1 s.m.nm b = true) (hg : Good s.st) (hl : s.l.length ≤ 1000000) (hw : SW base w) (hb : base ≤ w.heap.size) :
    Calls Tryz.prog 133 #[.pointer (some ⟨m, 0, none⟩), .int .u8 (b.toNat : Int), .pointer (some ⟨o, 0, none⟩)] w (SPo w base B m o ck (digitB s b)) := by
  obtain ⟨A, cp, c1, c0, f0, hml⟩ := h.open
  rw [ha] at c0
  obtain ⟨ov, hB, _⟩ := h.mc.ex
  have c6 : w.cell? ⟨m, 6, none⟩ = some (.string s.m.nm) := hB.cell 6
  have hM := goes_any w m 6 s.m.nm b c6 hml hn
  rw [hm] at hM
  have HM := Lib.hid hM
  have HD := Lib.hid (fun w1 (hb1 : Below w.heap.size w w1) => digit_anyB w1 base m o ck s qp b (h.below hb1) hn)
  have h8 := digit_a s b ha
  clear h hg hl hw hB hM hm
  go_enter Tryz.func133, Tryz.ntmps133
  go_wp2
  refine wp_scope_fwd 1 ?_
  generalize hQ : Exit.fwd _ _ _ 1 = Q1
  go_wp2
  go_step3
  go_wp2_with fail
  refine HM.out.mono ?_
  rintro e w1 ⟨rfl, hb1⟩
  have HC := Lib.hid (HD.out w1 hb1)
  have HT := Lib.hid (Fr.of_tch (Tch.of_below (base := base) (p := bObj) hb1) hb (B := B))
  have hb5 : base ≤ w1.heap.size := Nat.le_trans hb hb1.size
  clear hb1 HD HM
  go_wp2_with fail
  refine HC.out.mono ?_
  intro e w5 hp
  have HF := Lib.hid ((show SPo w base B m o ck (digitB s b) e w5 from by have q := (hp.d (B := B) h8).s hb5; exact ⟨q.1, q.2.1, HT.out.trans q.2.2⟩))
  have he := hp.1
  clear hp
  subst he
  go_wp2
  rw [← hQ, Exit.fwd_ret]
  go_ret
  exact HF.out

set_option maxHeartbeats 8000000 in
theorem bstep_p (w : World) (base B m o ck : Nat) (s : Bs) (b : UInt8) (qp : Value) (ha : 0 ≤ s.m.a ∧ s.m.a ≤ 5) (h : BAt w base m o ck s qp) (hBw : B ≤ w.heap.size) (hne : s.m.a = 1 ∨ s.m.a = 2 → s.m.op ≠ []) (hnm : s.m.nm.size ≤ 1000) (hop : s.m.op.length ≤ 100000) (hg : Good s.st) (hl : s.l.length ≤ 1000000) (hw : SW base w) (hb : base ≤ w.heap.size) :
    Calls Tryz.prog 133 #[.pointer (some ⟨m, 0, none⟩), .int .u8 (b.toNat : Int), .pointer (some ⟨o, 0, none⟩)] w (SPo w base B m o ck (plainB s b)) := by
  obtain ⟨A, cp, c1, c0, f0, hml⟩ := h.open
  have z6 : (s.m.a == 6) = false := by rw [beq_eq_false_iff_ne]; omega
  have z7 : (s.m.a == 7) = false := by rw [beq_eq_false_iff_ne]; omega
  have z8 : (s.m.a == 8) = false := by rw [beq_eq_false_iff_ne]; omega
  have h8 : s.m.a ≠ 8 := by omega
  have HBl := Lib.hid (tblank_any b w)
  have HMk := Lib.hid (mark_any w base B m o ck s qp b h hBw ha hne hnm hop hg hl hw hb)
  have HF0 : Hid (SPo w base B m o ck ⟨s, 0⟩ (.returned (.int .i64 0)) w) := Lib.hid ((dpo_here h h8 0).s hb)
  unfold plainB
  clear h hg hl hw h8 hne hnm
  cases hbl : blankB b with
  | true =>
    rw [if_pos rfl]
    rw [hbl] at HBl
    clear hbl HMk
    go_enter Tryz.func133, Tryz.ntmps133
    go_wp2
    refine wp_scope_fwd 1 ?_
    generalize hQ : Exit.fwd _ _ _ 1 = Q1
    go_wp2
    go_step3
    go_wp2_with fail
    refine HBl.out.mono ?_
    rintro e w1 ⟨rfl, rfl⟩
    go_wp2
    rw [← hQ, Exit.fwd_ret]
    go_ret
    exact HF0.out
  | false =>
    rw [if_neg (by decide)]
    rw [hbl] at HBl
    clear hbl HF0
    go_enter Tryz.func133, Tryz.ntmps133
    go_wp2
    refine wp_scope_fwd 1 ?_
    generalize hQ : Exit.fwd _ _ _ 1 = Q1
    go_wp2
    go_step3
    go_wp2_with fail
    refine HBl.out.mono ?_
    rintro e w1 ⟨rfl, rfl⟩
    go_wp2_with fail
    refine HMk.out.mono ?_
    intro e w5 hp
    have HF := Lib.hid (hp.s hb)
    have he := hp.1
    clear hp
    subst he
    go_wp2
    rw [← hQ, Exit.fwd_ret]
    go_ret
    exact HF.out

set_option maxHeartbeats 8000000 in
theorem bstep_7e (w : World) (base B m o ck : Nat) (s : Bs) (b : UInt8) (qp : Value) (ha : s.m.a = 7) (h : BAt w base m o ck s qp) (hBw : B ≤ w.heap.size) (hn : s.m.nm.size ≤ 1000) (hop : s.m.op.length ≤ 100000) (hl2 : s.l.length ≤ 900000) (hm : mayB1 s.m.nm b = false) (hg : Good s.st) (hl : s.l.length ≤ 1000000) (hw : SW base w) (hb : base ≤ w.heap.size) :
    Calls Tryz.prog 133 #[.pointer (some ⟨m, 0, none⟩), .int .u8 (b.toNat : Int), .pointer (some ⟨o, 0, none⟩)] w (SPo w base B m o ck (if (endNumB s).e ≠ 0 then endNumB s else plainB (endNumB s).b b)) := by
  obtain ⟨A, cp, c1, c0, f0, hml⟩ := h.open
  rw [ha] at c0
  obtain ⟨ov, hB, _⟩ := h.mc.ex
  have c6 : w.cell? ⟨m, 6, none⟩ = some (.string s.m.nm) := hB.cell 6
  have hM := goes_any w m 6 s.m.nm b c6 hml hn
  rw [hm] at hM
  have HM := Lib.hid hM
  have HD := Lib.hid (fun w1 (hb1 : Below w.heap.size w w1) => endNum_any w1 base m o ck s qp (h.below hb1) hn hg hl (hw.below (hb1.mono hb)) (Nat.le_trans hb hb1.size))
  have h8 := endNum_a s ha
  have HSW := Lib.hid hw
  have hgr := endNum_good s hg hl2
  have hopr := endNum_op s
  have hnmr := endNum_nm s
  clear h hg hl hw hB hM hm
  generalize endNumB s = r at *
  by_cases he : r.e = 0
  case neg =>
    rw [if_pos he]
    have z1 : (r.e == 0) = false := by rw [beq_eq_false_iff_ne]; exact he
    have z2 : (r.e != 0) = true := by simp [bne, z1]
    have h88 := h8.1
    clear he h8
    go_enter Tryz.func133, Tryz.ntmps133
    go_wp2
    refine wp_scope_fwd 1 ?_
    generalize hQ : Exit.fwd _ _ _ 1 = Q1
    go_wp2
    go_step3
    go_wp2_with fail
    refine HM.out.mono ?_
    rintro e w1 ⟨rfl, hb1⟩
    have HC := Lib.hid (HD.out w1 hb1)
    have HT := Lib.hid (Fr.of_tch (Tch.of_below (base := base) (p := bObj) hb1) hb (B := B))
    have hb5 : base ≤ w1.heap.size := Nat.le_trans hb hb1.size
    clear hb1 HD HM
    go_wp2_with fail
    refine HC.out.mono ?_
    intro e w5 hp
    have HF := Lib.hid ((show SPo w base B m o ck r e w5 from by have q := (hp.d (B := B) h88).s hb5; exact ⟨q.1, q.2.1, HT.out.trans q.2.2⟩))
    have he := hp.1
    clear hp
    subst he
    go_wp2
    rw [← hQ, Exit.fwd_ret]
    go_ret
    exact HF.out
  case pos =>
    rw [if_neg (by simp [he])]
    have h5 := h8.2 he
    have h88 := h8.1
    obtain ⟨rb, re⟩ := r
    simp only at he h5 h88 hgr hopr hnmr
    subst he
    clear h8
    go_enter Tryz.func133, Tryz.ntmps133
    go_wp2
    refine wp_scope_fwd 1 ?_
    generalize hQ : Exit.fwd _ _ _ 1 = Q1
    go_wp2
    go_step3
    go_wp2_with fail
    refine HM.out.mono ?_
    rintro e w1 ⟨rfl, hb1⟩
    have HC := Lib.hid (HD.out w1 hb1)
    have HT := Lib.hid (Fr.of_tch (Tch.of_below (base := base) (p := bObj) hb1) hb (B := B))
    have hb5 : base ≤ w1.heap.size := Nat.le_trans hb hb1.size
    have hB5 : B ≤ w1.heap.size := Nat.le_trans hBw hb1.size
    clear hb1 HD HM
    go_wp2_with fail
    refine HC.out.mono ?_
    rintro e w2 ⟨rfl, hBA, ht2⟩
    have hs2 := ht2.size
    have hBA2 := hBA
    obtain ⟨A2, cp2, k1, k0, _, hml2⟩ := hBA2.open
    rw [h5] at k0
    have HFr := Lib.hid (HT.out.trans (Fr.of_tch ht2 hb5))
    have hSW2 := HSW.out.below HFr.out.low
    have HBl := Lib.hid (tblank_any b w2)
    have HMk := Lib.hid (mark_any w2 base B m o ck rb qp b hBA (Nat.le_trans hB5 hs2) (by omega) (by omega) hnmr (by rw [hopr]; exact hop) hgr.1 hgr.2 hSW2 (Nat.le_trans hb5 hs2))
    have HF0 : Hid (SPo w base B m o ck ⟨rb, 0⟩ (.returned (.int .i64 0)) w2) := Lib.hid ⟨rfl, dd_of_b hBA h88, HFr.out⟩
    have hb6 : base ≤ w2.heap.size := Nat.le_trans hb5 hs2
    clear hBA hBA2 ht2 hSW2 HC HT
    go_wp2
    go_step3
    show Q1 _ _ _
    rw [← hQ]
    refine Exit.fwd_goto 0 _ _ rfl ?_
    generalize hQ0 : Exit.fwd _ _ _ 0 = Q0
    cases hbl : blankB b with
    | true =>
      rw [hbl] at HBl
      have HBB := Lib.hid hbl
      clear hbl HMk
      go_wp2_with fail
      refine HBl.out.mono ?_
      rintro e w3 ⟨rfl, rfl⟩
      go_wp2
      rw [← hQ0, Exit.fwd_ret]
      go_ret
      show SPo w base B m o ck (plainB rb b) _ _
      unfold plainB
      rw [if_pos HBB.out]
      exact HF0.out
    | false =>
      rw [hbl] at HBl
      have HBB := Lib.hid hbl
      clear hbl HF0
      go_wp2_with fail
      refine HBl.out.mono ?_
      rintro e w3 ⟨rfl, rfl⟩
      go_wp2_with fail
      refine HMk.out.mono ?_
      intro e w5 hp
      have q := hp.s hb6
      have HF : Hid (SPo w base B m o ck (markB rb b) e w5) := Lib.hid ⟨q.1, q.2.1, HFr.out.trans q.2.2⟩
      have he := hp.1
      clear hp q
      subst he
      go_wp2
      rw [← hQ0, Exit.fwd_ret]
      go_ret
      show SPo w base B m o ck (plainB rb b) _ _
      unfold plainB
      rw [if_neg (by rw [HBB.out]; decide)]
      exact HF.out

end Go.Proofs.YtmimadkepflmlaaGreatDoor

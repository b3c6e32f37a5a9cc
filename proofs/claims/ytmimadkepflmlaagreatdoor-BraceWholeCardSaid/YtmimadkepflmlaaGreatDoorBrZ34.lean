/-
  brace: Step, whatever the state; what holds ahead of each byte stays.
  brace: its machine as one that a Stream drives; Decode.
-/
import Derived.Test.YtmimadkepflmlaaGreatDoorBrZ33
import Derived.Test.YtmimadkepflmlaaGreatDoorBrZ28
namespace Go.Proofs.YtmimadkepflmlaaGreatDoor
open Go.RowKit Go.Maps
set_option maxRecDepth 100000
set_option linter.unusedSimpArgs false
set_option linter.unusedVariables false
set_option linter.unusedSectionVars false
variable [Tab] [Fo]

theorem binv_tell {s : Bs} {n : Nat} (h : BInv s n) (M : Mc) (x : Ev) (k : Nat) (hk : n + 1 ≤ k) (hop : M.op.length ≤ k) (h1 : M.a = 1 ∨ M.a = 2 ∨ M.a = 3 → M.op ≠ []) (h6 : M.a ≠ 6) (hr : M.rs.size ≤ 4) (hn : M.nm.size ≤ 30) (he : M.et.size ≤ 48) (hq : Qt.QInv M.q) (ha : 0 ≤ M.a ∧ M.a ≤ 8) :
    BInv (tellB M s.st s.l x).b k := by
  have := tellL_len s.st s.l x
  have := h.ln
  exact ⟨good_step h.good x, by simp only [tellB]; omega, hop, h1, fun e => absurd e h6, hr, hn, he, hq, ha⟩
theorem binv_mono {s : Bs} {n k : Nat} (h : BInv s n) (hk : n ≤ k) : BInv s k := ⟨h.good, by have := h.ln; omega, by have := h.opn; omega, h.op1, h.rsn, h.rsl, h.nml, h.etl, h.qi, h.rng⟩
theorem binv_finish {s : Bs} {n : Nat} (h : BInv s n) : BInv (finishB s).b (n + 1) := by
  have := h.opn
  refine binv_tell h _ _ _ (Nat.le_refl _) (by simp; omega) (by simp) (by simp) h.rsl h.nml h.etl h.qi (by simp)
theorem binv_begin {s : Bs} {n : Nat} (h : BInv s n) (k : Int) (c : UInt8) (a : Int) (ha : a = 1 ∨ a = 2) : BInv (beginB s k c a).b (n + 1) := by
  have := h.opn
  refine binv_tell h _ _ _ (Nat.le_refl _) (by simp; omega) (by simp) (by simp; omega) h.rsl h.nml h.etl h.qi (by simp; omega)
theorem binv_letter {s : Bs} {n : Nat} (h : BInv s n) : ∀ b, BInv (letterB s b).b (n + 1) := fun b => by
  have := h.opn
  have hx : (s.m.rs.extract 1 s.m.rs.size).size = s.m.rs.size - 1 := by simp [ByteArray.size_extract]
  have := h.rsl
  unfold letterB
  split
  · split
    · exact binv_tell h _ _ _ (Nat.le_refl _) (by simp; omega) (by simp) (by simp) (by simp only; omega) h.nml h.etl h.qi (by simp)
    · rename_i hne
      exact ⟨h.good, by have := h.ln; simp only; omega, by simp only; omega, h.op1, fun e => by have := h.rsn e; simp only; omega, by simp only; omega, h.nml, h.etl, h.qi, h.rng⟩
  · exact binv_mono h (Nat.le_succ _)
theorem binv_word {s : Bs} {n : Nat} (h : BInv s n) (k : Int) (t r : ByteArray) (ht : t.size ≤ 48) (hr : 0 < r.size ∧ r.size ≤ 4) : BInv (wordB s k t r).b (n + 1) := by
  have := h.opn
  have := h.ln
  exact ⟨h.good, by simp only [wordB]; omega, by simp only [wordB]; omega, by simp [wordB], fun _ => hr.1, hr.2, h.nml, ht, h.qi, by simp [wordB]⟩
theorem binv_string {s : Bs} {n : Nat} (h : BInv s n) (k : Int) : BInv (stringB s k).b (n + 1) := by
  have := h.opn
  have := h.ln
  exact ⟨h.good, by simp only [stringB]; omega, by simp only [stringB]; omega, by simp [stringB], by simp [stringB], h.rsl, h.nml, Nat.zero_le _, Qt.qInv0, by simp [stringB]⟩
theorem binv_a {s : Bs} {n : Nat} (h : BInv s n) (a : Int) (ha : 0 ≤ a ∧ a ≤ 5) (h1 : a = 1 ∨ a = 2 ∨ a = 3 → s.m.op ≠ []) : BInv { s with m := { s.m with a := a } } (n + 1) := by
  have := h.opn
  have := h.ln
  exact ⟨h.good, by simp only; omega, by simp only; omega, h1, fun e => by simp only at e; omega, h.rsl, h.nml, h.etl, h.qi, by simp only; omega⟩
theorem binv_digit {s : Bs} {n : Nat} (h : BInv s n) (b : UInt8) : BInv (digitB s b).b (n + 1) := by
  have := h.opn
  have := h.ln
  unfold digitB
  split
  · exact binv_mono h (Nat.le_succ _)
  · rename_i hlt
    refine ⟨h.good, by simp only; omega, by simp only; omega, h.op1, h.rsn, h.rsl, ?_, h.etl, h.qi, h.rng⟩
    have h2 : (s.m.nm ++ (⟨#[b]⟩ : ByteArray)).size = s.m.nm.size + 1 := ByteArray.size_append
    show (s.m.nm ++ (⟨#[b]⟩ : ByteArray)).size ≤ 30
    omega
theorem binv_value {s : Bs} {n : Nat} (h : BInv s n) (b : UInt8) : BInv (valueB s b).b (n + 1) := by
  have := h.opn
  have := h.ln
  unfold valueB
  split
  · exact binv_begin h _ _ _ (.inl rfl)
  · split
    · exact binv_begin h _ _ _ (.inr rfl)
    · split
      · exact binv_string h _
      · split
        · exact binv_word h _ _ _ (by decide) (by decide)
        · split
          · exact binv_word h _ _ _ (by decide) (by decide)
          · split
            · exact binv_word h _ _ _ (by decide) (by decide)
            · split
              · exact binv_mono h (Nat.le_succ _)
              · exact binv_digit (s := { s with m := { s.m with a := 7 } }) (n := n) ⟨h.good, h.ln, h.opn, by simp, by simp, h.rsl, h.nml, h.etl, h.qi, by simp⟩ b
theorem binv_behind {s : Bs} {n : Nat} (h : BInv s n) (b : UInt8) : BInv (behindB s b).b (n + 1) := by
  unfold behindB
  split
  · exact binv_mono h (Nat.le_succ _)
  · rename_i hne
    split
    · exact binv_finish h
    · split
      · exact binv_mono h (Nat.le_succ _)
      · split
        · exact binv_a h 3 (by omega) (fun _ => hne)
        · exact binv_a h 0 (by omega) (fun e => by omega)
theorem binv_mark {s : Bs} {n : Nat} (h : BInv s n) (b : UInt8) : BInv (markB s b).b (n + 1) := by
  unfold markB
  split
  · exact binv_a h 0 (by omega) (fun e => by omega)
  · split
    · exact binv_finish h
    · split
      · exact binv_string h _
      · split
        · exact binv_value h b
        · split
          · exact binv_behind h b
          · exact binv_mono h (Nat.le_succ _)
theorem binv_plain {s : Bs} {n : Nat} (h : BInv s n) (b : UInt8) : BInv (plainB s b).b (n + 1) := by
  unfold plainB
  split
  · exact binv_mono h (Nat.le_succ _)
  · exact binv_mark h b
theorem endS_lim (nm : ByteArray) : (endS nm).size ≤ 48 := Nat.le_trans (endS_size nm) (by decide)
theorem binv_endNum {s : Bs} {n : Nat} (h : BInv s n) : BInv (endNumB s).b (n + 1) := by
  have := h.opn
  have := h.ln
  unfold endNumB
  split
  · exact ⟨h.good, by simp only; omega, by simp only; omega, h.op1, h.rsn, h.rsl, Nat.zero_le _, h.etl, h.qi, h.rng⟩
  · exact binv_tell h _ _ _ (Nat.le_refl _) (by simp; omega) (by simp) (by simp) h.rsl (Nat.zero_le _) h.etl h.qi (by simp)
theorem binv_char {s : Bs} {n : Nat} (h : BInv s n) (b : UInt8) : BInv (charB s b).b (n + 1) := by
  have := h.opn
  have := h.ln
  have hq := Qt.qInv_step (b := (b.toNat : Int)) h.qi
  have hxs : (⟨(Qt.qStep s.m.q (b.toNat : Int)).q.xs.toArray⟩ : ByteArray).size ≤ 48 := by
    show (Qt.qStep s.m.q (b.toNat : Int)).q.xs.toArray.size ≤ 48
    rw [List.size_toArray]
    exact hq.1
  unfold charB
  simp only
  split
  · exact ⟨h.good, by simp only; omega, by simp only; omega, h.op1, h.rsn, h.rsl, h.nml, h.etl, hq, h.rng⟩
  · refine binv_tell h _ _ _ (Nat.le_refl _) (by simp; omega) ?_ ?_ h.rsl h.nml hxs hq ?_
    · simp only; split <;> omega
    · simp only; split <;> omega
    · simp only; split <;> omega
theorem binv_step {s : Bs} {n : Nat} (h : BInv s n) (b : UInt8) : BInv (stepB s b).b (n + 2) := by
  unfold stepB
  split
  · exact binv_mono (binv_letter h b) (by omega)
  · split
    · exact binv_mono (binv_char h b) (by omega)
    · split
      · split
        · exact binv_mono (binv_digit h b) (by omega)
        · split
          · exact binv_mono (binv_endNum h) (by omega)
          · exact binv_plain (binv_endNum h) b
      · exact binv_mono (binv_plain h b) (by omega)

/-- Step, whatever the state. -/
theorem bstep_any (w : World) (base B m o ck : Nat) (s : Bs) (b : UInt8) (n : Nat) (h : DAt w base B m o ck s) (hi : BInv s n) (hn : n ≤ 100000) (hBw : B ≤ w.heap.size) (hw : SW base w) (hb : base ≤ w.heap.size) :
    Calls Tryz.prog 133 #[.pointer (some ⟨m, 0, none⟩), .int .u8 (b.toNat : Int), .pointer (some ⟨o, 0, none⟩)] w (SPo w base B m o ck (stepB s b)) := by
  have hl := hi.ln
  have hop := hi.opn
  have hnm := hi.nml
  have hrg := hi.rng
  unfold stepB
  rcases h with ⟨ha, h⟩ | ⟨ha, qp, h⟩
  · rw [if_neg (by omega), if_pos ha]
    exact bstep_8 w base B m o ck s b ha h hi.qi hi.good (by omega) hw hb
  · by_cases h6 : s.m.a = 6
    · rw [if_pos h6]
      exact bstep_6 w base B m o ck s b qp h6 h (hi.rsn h6) hi.rsl hi.etl hi.good (by omega) hw hb
    · rw [if_neg h6, if_neg ha]
      by_cases h7 : s.m.a = 7
      · rw [if_pos h7]
        cases hm : mayB1 s.m.nm b with
        | true =>
          rw [if_pos rfl]
          exact bstep_7d w base B m o ck s b qp h7 h (by omega) hm hi.good (by omega) hw hb
        | false =>
          rw [if_neg (by decide)]
          exact bstep_7e w base B m o ck s b qp h7 h hBw (by omega) (by omega) (by omega) hm hi.good (by omega) hw hb
      · rw [if_neg h7]
        exact bstep_p w base B m o ck s b qp (by omega) h hBw (fun e => hi.op1 (by omega)) (by omega) (by omega) hi.good (by omega) hw hb

set_option maxHeartbeats 8000000 in
theorem bend_any (w : World) (base B m o ck : Nat) (s : Bs) (n : Nat) (h : DAt w base B m o ck s) (hi : BInv s n) (hn : n ≤ 100000) (hw : SW base w) (hb : base ≤ w.heap.size) :
    Calls Tryz.prog 132 #[.pointer (some ⟨m, 0, none⟩), .pointer (some ⟨o, 0, none⟩)] w fun e w' => e = .returned (.int .i64 (endB s).e) ∧ OAt w' base o ck (endB s).b.st (endB s).b.l ∧ Fr base B w w' := by
  have hl := hi.ln
  have hnm := hi.nml
  unfold endB
  by_cases h7 : s.m.a = 7
  case pos =>
    rcases h with ⟨ha, _⟩ | ⟨_, qp, h⟩
    · omega
    obtain ⟨A, cp, c1, c0, f0, hml⟩ := h.open
    rw [h7] at c0
    have hC := Lib.hid (endNum_any w base m o ck s qp h (by omega) hi.good (by omega) hw hb)
    have h8 := endNum_a s h7
    have hop := endNum_op s
    rw [if_pos h7]
    clear h hi hl hw hnm
    generalize endNumB s = r at *
    simp only
    by_cases he : r.e = 0
    case neg =>
      rw [if_pos he]
      have z1 : (r.e == 0) = false := by rw [beq_eq_false_iff_ne]; exact he
      have z2 : (r.e != 0) = true := by simp [bne, z1]
      clear he h8
      go_enter Tryz.func132, Tryz.ntmps132
      go_wp2_with fail
      refine hC.out.mono ?_
      rintro e w1 ⟨rfl, hBA, ht⟩
      have HF := Lib.hid (And.intro hBA.out (Fr.of_tch ht hb (B := B)))
      clear hBA ht
      go_wp2
      go_ret
      exact ⟨rfl, HF.out.1, HF.out.2⟩
    case pos =>
      rw [if_neg (by simp [he])]
      have h5 := h8.2 he
      obtain ⟨rb, re⟩ := r
      simp only at he h5 hop ⊢
      subst he
      clear h8
      by_cases hne : rb.m.op = []
      case pos =>
        rw [if_neg (by simp [h5, hne])]
        go_enter Tryz.func132, Tryz.ntmps132
        go_wp2_with fail
        refine hC.out.mono ?_
        rintro e w1 ⟨rfl, hBA, ht⟩
        have HF := Lib.hid (And.intro hBA.out (Fr.of_tch ht hb (B := B)))
        obtain ⟨A2, cp2, k1, k0, _, hml2⟩ := hBA.open
        rw [h5] at k0
        rw [hne] at k1
        clear hBA ht h5 hne hop
        go_wp2
        go_ret
        exact ⟨rfl, HF.out.1, HF.out.2⟩
      case neg =>
        rw [if_pos (.inr hne)]
        go_enter Tryz.func132, Tryz.ntmps132
        go_wp2_with fail
        refine hC.out.mono ?_
        rintro e w1 ⟨rfl, hBA, ht⟩
        have HF := Lib.hid (And.intro hBA.out (Fr.of_tch ht hb (B := B)))
        obtain ⟨A2, cp2, k1, k0, _, hml2⟩ := hBA.open
        rw [h5] at k0
        have hlen : 0 < rb.m.op.length := List.length_pos_iff.2 hne
        have hz : decide ((0 : Int) < (rb.m.op.length : Int)) = true := by simp; omega
        clear hBA ht h5 hne hop
        go_wp2
        go_ret
        exact ⟨rfl, HF.out.1, HF.out.2⟩
  case neg =>
    rw [if_neg h7]
    have z7 : (s.m.a == 7) = false := by rw [beq_eq_false_iff_ne]; exact h7
    have hFr : Fr base B w w := FrG.refl _ _ _ _
    by_cases h5 : s.m.a = 5
    case pos =>
      rcases h with ⟨ha, _⟩ | ⟨_, qp, h⟩
      · omega
      obtain ⟨A, cp, c1, c0, f0, hml⟩ := h.open
      rw [h5] at c0
      have HF := Lib.hid (And.intro h.out hFr)
      simp only
      rw [if_neg (by simp)]
      by_cases hne : s.m.op = []
      case pos =>
        rw [if_neg (by simp [h5, hne])]
        rw [hne] at c1
        clear h hi hl hw hnm hne h5 z7 h7 hFr
        go_enter Tryz.func132, Tryz.ntmps132
        go_wp2
        go_ret
        exact ⟨rfl, HF.out.1, HF.out.2⟩
      case neg =>
        rw [if_pos (.inr hne)]
        have hlen : 0 < s.m.op.length := List.length_pos_iff.2 hne
        have hz : decide ((0 : Int) < (s.m.op.length : Int)) = true := by simp; omega
        clear h hi hl hw hnm hne h5 z7 h7 hFr
        go_enter Tryz.func132, Tryz.ntmps132
        go_wp2
        go_ret
        exact ⟨rfl, HF.out.1, HF.out.2⟩
    case neg =>
      have z5 : (s.m.a != 5) = true := by rw [bne_iff_ne]; exact h5
      have hMO : (∃ qp, MAt w base m s.m qp) ∧ OAt w base o ck s.st s.l := by
        rcases h with ⟨_, w0, g, hM0, hO0, _, ht, _, _⟩ | ⟨_, qp, h⟩
        · exact ⟨⟨_, hM0.of_ss ht⟩, hO0.of_ss ht⟩
        · exact ⟨⟨qp, h.mc⟩, h.out⟩
      obtain ⟨⟨qp, hM⟩, hO⟩ := hMO
      obtain ⟨ov, hB, _⟩ := hM.ex
      have c0 : w.cell? ⟨m, 0, none⟩ = some (.int .i64 s.m.a) := hB.cell 0
      have hml := hB.lt
      have HF := Lib.hid (And.intro hO hFr)
      simp only
      rw [if_neg (by simp), if_pos (.inl h5)]
      clear h hi hl hw hnm h5 h7 hFr hO hM hB
      go_enter Tryz.func132, Tryz.ntmps132
      go_wp2
      go_ret
      exact ⟨rfl, HF.out.1, HF.out.2⟩
end Go.Proofs.YtmimadkepflmlaaGreatDoor
namespace Go.Proofs.YtmimadkepflmlaaGreatDoor
open Go.RowKit Go.Maps
set_option maxRecDepth 100000
set_option linter.unusedSimpArgs false
set_option linter.unusedVariables false
set_option linter.unusedSectionVars false
variable [Tab] [Fo]

def bst0 : Bs := ⟨mc0, [topP], []⟩
theorem DAt.out {w : World} {base B m o ck : Nat} {s : Bs} (h : DAt w base B m o ck s) : OAt w base o ck s.st s.l := by
  rcases h with ⟨_, w0, g, _, h2, _, ht, _, _⟩ | ⟨_, qp, h⟩
  · exact h2.of_ss ht
  · exact h.out
theorem DAt.of_ss {w w' : World} {base B m o ck : Nat} {s : Bs} (h : DAt w base B m o ck s) (ht : Tch base ssObj w w') (hk : ∀ k o, B ≤ k → w.heap[k]? = some o → w'.heap[k]? = some o) : DAt w' base B m o ck s := by
  rcases h with ⟨ha, w0, g, h1, h2, h3, h4, h5, h6⟩ | ⟨ha, qp, h⟩
  · exact .inl ⟨ha, w0, g, h1, h2, h3, h4.trans ht, qat_up h5 ht.size (fun k o hk' ho => hk k o (by omega) ho), h6⟩
  · exact .inr ⟨ha, qp, h.mc.of_ss ht, h.out.of_ss ht⟩
theorem binv0 : BInv bst0 0 := ⟨good_start, by simp [bst0], by simp [bst0, mc0], by simp [bst0, mc0], by simp [bst0, mc0], by simp [bst0, mc0, ByteArray.size], by simp [bst0, mc0, ByteArray.size], by simp [bst0, mc0, ByteArray.size], Qt.qInv0, by simp [bst0, mc0]⟩
def brM : Mach where
  σ := Bs
  T := 33
  fs := 133
  fe := 132
  hms := fun a w => by kernel_rfl
  hme := fun a w => by kernel_rfl
  efs := fun args w => enters_of Tryz.func133 (by kernel_rfl) rfl args w
  efe := fun args w => enters_of Tryz.func132 (by kernel_rfl) rfl args w
  x0 := bst0
  stp := fun s b => (stepB s b).b
  ste := fun s b => (stepB s b).e
  fin := fun s => (endB s).b
  fne := fun s => (endB s).e
  st := fun s => s.st
  l := fun s => s.l
  Inv := BInv
  raw := fun w base m => MAt w base m mc0 (.pointer none)
  At := DAt
  obj := bObj
  nss := fun cs t fr h hc => by
    simp only [bObj, tObj, mObj] at hc
    rcases h with rfl | rfl <;> exact absurd hc (by decide)
  inv0 := binv0
  inv_step := fun b h => binv_step h b
  inv_mono := fun h hk => binv_mono h hk
  inv_len := fun h => h.ln
  raw_below := fun h hb => h.below hb
  raw_lim := fun h => h.lim
  start := fun h ho => .inr ⟨by decide, _, h, ho⟩
  out := fun h => h.out
  ss := fun h ht hk => h.of_ss ht hk
  step_any := fun w base B m o ck s b n h hi hn hBw hw hb => bstep_any w base B m o ck s b n h hi hn hBw hw hb
  end_any := fun w base B m o ck s n h hi hn hw hb => bend_any w base B m o ck s n h hi hn hw hb

/-- What brace.Decode tells: the events, the error, how many bytes were read. -/
def bEv (bs : List UInt8) : List Ev := (closeBs (feedG (ss0 brM) bs)).l
def bEr (bs : List UInt8) : Int := closeE (feedG (ss0 brM) bs)
def bRd (bs : List UInt8) : Nat := (feedG (ss0 brM) bs).rd

set_option maxHeartbeats 4000000 in
theorem bdecode_any (w : World) (v : Value) (bs : List UInt8) (hn : bs.length ≤ 50000) (hv : BRead w v bs) (hw : Nm.StdW w) (hfl : Fo.lim ≤ w.heap.size) :
    Calls Tryz.prog 6 #[v] w fun e w' => ∃ lv, e = .returned (.tuple #[lv, .int .i64 (bEr bs), .int .i64 (bRd bs : Int)]) ∧ ERow w' w.heap.size lv (bEv bs) ∧ Below w.heap.size w w' := by
  have al : Below w.heap.size w (w.alloc (.cells (mCells mc0 (.slice none 0 0) (.pointer none)) 41)) := (Below.refl _ _).alloc (Nat.le_refl _) _
  have hM : MAt (w.alloc (.cells (mCells mc0 (.slice none 0 0) (.pointer none)) 41)) w.heap.size w.heap.size mc0 (.pointer none) := ⟨⟨_, Blk.new _ _ _, ORow.nil _ _ _, NF.nil⟩, Nat.le_refl _, nf_new hfl, Nat.le_trans hfl al.size⟩
  have hC := sdecode_any (M := brM) _ w.heap.size w.heap.size v bs hM al.size hn (fun w' h => hv.below (al.trans h)) ⟨w, hw, Nat.le_refl _, al⟩
  have HA := Lib.hid al
  unfold DEnd at hC
  have hC : Calls Tryz.prog 12 #[.iface 33 (.pointer (some ⟨w.heap.size, 0, none⟩)), v] (w.alloc (.cells (mCells mc0 (.slice none 0 0) (.pointer none)) 41)) fun e w' => ∃ lv, e = .returned (.tuple #[lv, .int .i64 (bEr bs), .int .i64 (bRd bs : Int)]) ∧ ERow w' w.heap.size lv (bEv bs) ∧ Below w.heap.size (w.alloc (.cells (mCells mc0 (.slice none 0 0) (.pointer none)) 41)) w' := hC
  generalize bEr bs = E at *
  obtain ⟨R, hR⟩ : ∃ R, (bRd bs : Int) = R := ⟨_, rfl⟩
  rw [hR] at hC ⊢
  generalize bEv bs = L at *
  clear hM al hw hv hR
  unfold mCells mc0 at hC
  go_enter Tryz.func6, Tryz.ntmps6
  go_wp2_with fail
  refine hC.mono ?_
  rintro e w1 ⟨lv, rfl, hRow, hb1⟩
  have HR := Lib.hid hRow
  have HB := Lib.hid (HA.out.trans hb1)
  clear hRow hb1 hC HA
  go_wp2
  go_ret3
  exact ⟨lv, rfl, HR.out, HB.out⟩
end Go.Proofs.YtmimadkepflmlaaGreatDoor

/-
  The reference's quoted cell.
-/
import Derived.Test.YtfciacigamjfkabGreatDmS30
namespace Go.Proofs.YtfciacigamjfkabGreat
open Go.RowKit Go.Maps
set_option maxRecDepth 100000
set_option linter.unusedSimpArgs false
set_option linter.unusedVariables false
set_option linter.unusedSectionVars false
variable [Tab] [Fo]

theorem quotG_no {c : UInt8} {r out : List UInt8} {a : Nat} (h : c.toNat ≠ 34) (h48 : ¬ 48 ≤ out.length) : quotG (c :: r) out a = quotG r (out ++ [c]) (a + 1) := by
  cases r with
  | nil => simp only [quotG]; rw [if_neg h, if_neg h48]
  | cons d t => rw [quotG, if_neg h, if_neg h48]
theorem quotG_48 {c : UInt8} {r out : List UInt8} {a : Nat} (h : c.toNat ≠ 34) (h48 : 48 ≤ out.length) : quotG (c :: r) out a = ⟨out, a, 4⟩ := by
  cases r with
  | nil => simp only [quotG]; rw [if_neg h, if_pos h48]
  | cons d t => rw [quotG, if_neg h, if_pos h48]
/-- What holds of the text at a place, in a world: what its calls and stores leave. -/
theorem tx_at {w : World} {base t : Nat} {x : Tx} {lv : Value} (h : TxAt w base t x lv) : w.cell? ⟨t, 0, none⟩ = some (.string ⟨x.s.toArray⟩) ∧ w.cell? ⟨t, 1, none⟩ = some (.int .i64 (x.at' : Int)) ∧ w.frozen? ⟨t, 1, none⟩ = false ∧ t < w.heap.size :=
  ⟨h.cells.1, h.cells.2.1, h.blk.frozen 1, h.blk.lt⟩
theorem tx_step {w : World} {base t : Nat} {x : Tx} {lv : Value} (h : TxAt w base t x lv) (hf : ¬ Fo.F t) (a : Nat) (ha : x.at' = a) : TxAt (w.setCell ⟨t, 1, none⟩ (.int .i64 ((a : Int) + 1))) base t { x with at' := a + 1 } lv ∧ Tch base txOnly w (w.setCell ⟨t, 1, none⟩ (.int .i64 ((a : Int) + 1))) :=
  h.set hf 1 (.int .i64 ((a : Int) + 1)) (x' := { x with at' := a + 1 }) (by rw [show (a : Int) + 1 = ((a + 1 : Nat) : Int) by omega]; rfl) rfl

set_option maxHeartbeats 8000000 in
theorem quoted_any (w : World) (base t : Nat) (x : Tx) (lv : Value) (h : TxAt w base t x lv) (hf : ¬ Fo.F t) (hs : x.s.length ≤ 1000) (ha : x.at' ≤ x.s.length) (hb : base ≤ w.heap.size) :
    Calls Tryz.prog 57 #[.pointer (some ⟨t, 0, none⟩)] w (CPost w base t x lv (quotG (x.s.drop x.at') [] x.at')) := by
  obtain ⟨R, hR⟩ : ∃ R, quotG (x.s.drop x.at') [] x.at' = R := ⟨_, rfl⟩
  rw [hR]
  have HLow := Lib.hid h.lows
  have start : Hid (TxAt w base t { x with at' := x.at' } lv) := Lib.hid h
  have HR := Lib.hid hR
  have HF := Lib.hid (And.intro hf (And.intro hs (And.intro ha hb)))
  clear h hR hf ha hb
  go_enter Tryz.func57, Tryz.ntmps57
  go_wp2
  go_loopw [4] (fun u wr => ∃ (a : Nat) (out : List UInt8), a ≤ x.s.length ∧ ORow wr w.heap.size 5 u (out.map bV) ∧ out.length ≤ 48 ∧ Hid (TxAt wr base t { x with at' := a } lv) ∧ Hid (Tch base txOnly w wr) ∧ Hid (quotG (x.s.drop a) out a = R)) (fun _ wr => x.s.length - atOf wr t)
  case atStart => exact ⟨x.at', [], HF.out.2.2.1, ORow.nil _ _ _, Nat.zero_le _, start, Lib.hid (Tch.refl _ _ _), HR⟩
  case round =>
    obtain ⟨a, out, hal, hown, hol, HX, HT, HG⟩ := hrel
    obtain ⟨c0, c1, f1, hlt⟩ := tx_at HX.out
    have c0' : wr.cell? ⟨t, 0, none⟩ = some (.string ⟨x.s.toArray⟩) := c0
    have c1' : wr.cell? ⟨t, 1, none⟩ = some (.int .i64 (a : Int)) := c1
    have hbr : w.heap.size ≤ wr.heap.size := HT.out.size
    obtain ⟨A, cp, rfl⟩ := hown.shape
    rw [List.length_map] at hown ⊢
    clear c0 c1 start
    have hz : (⟨x.s.toArray⟩ : ByteArray).size = x.s.length := by show x.s.toArray.size = _; simp
    have hz6 : (⟨x.s.toArray⟩ : ByteArray).size ≤ 1000 := by have := HF.out.2.1; omega
    have HO := Lib.hid hown
    by_cases hl : a < x.s.length
    · have hg := HG.out
      rw [List.drop_eq_getElem_cons hl] at hg
      have hlt' : a < (⟨x.s.toArray⟩ : ByteArray).size := by rw [hz]; exact hl
      have hi34 : isX { x with at' := a } 34 = decide (((x.s[a]).toNat : Int) = 34) := isX_in (x := { x with at' := a }) hl 34
      have hj : (⟨x.s.toArray⟩ : ByteArray)[a]? = some x.s[a] := getElem?_pos (⟨x.s.toArray⟩ : ByteArray) a hlt'
      have hle := byte_le x.s[a]
      have HIs := Lib.hid (fun (q : Bool) (hq : isX { x with at' := a } 34 = q) (n : Nat) => is_drew wr base t { x with at' := a } lv 34 HX.out HF.out.2.1 (by have := HF.out.2.1; show a ≤ 1000; omega) q hq n)
      have HLa := Lib.hid hl
      have hd : decide ((a : Int) < ((⟨x.s.toArray⟩ : ByteArray).size : Int)) = true := by simp; omega
      have hd2 : decide (a < (⟨x.s.toArray⟩ : ByteArray).size) = true := by simpa using hlt'
      by_cases h34 : (x.s[a]).toNat = 34
      · -- a quote
        have HC := Lib.hid (fun n => HIs.out true (by rw [hi34]; simp; omega) n)
        have HB34 := Lib.hid h34
        have hai : (a : Int) + 1 = ((a + 1 : Nat) : Int) := by omega
        obtain ⟨a1, ha1⟩ : ∃ a1, a + 1 = a1 := ⟨_, rfl⟩
        have HA1 := Lib.hid ha1
        rw [ha1] at hai hg
        have HQ2 := Lib.hid (show atOf wr t = a from HX.out.atOf)
        -- what is ahead of the second byte
        have hB : ∀ n1 : Nat, (TxAt ((wr.drewN n1).setCell ⟨t, 1, none⟩ (.int .i64 (a1 : Int))) base t { x with at' := a1 } lv) ∧ Tch base txOnly w ((wr.drewN n1).setCell ⟨t, 1, none⟩ (.int .i64 (a1 : Int))) ∧ ORow ((wr.drewN n1).setCell ⟨t, 1, none⟩ (.int .i64 (a1 : Int))) w.heap.size 5 (.slice A out.length cp) (out.map bV) := fun n1 => by
          obtain ⟨h1, h2⟩ := tx_step (HX.out.drewN n1) HF.out.1 a rfl
          rw [hai] at h1 h2
          have e1 : a + 1 = a1 := HA1.out
          rw [e1] at h1
          exact ⟨h1, (HT.out.drewN n1).trans h2, row_tch (base := base) (p := txOnly) (HO.out.drewN n1) h2 (fun _ _ => by simp only [txOnly]; decide)⟩
        have HB1 := Lib.hid hB
        have ha1l : a1 ≤ 1000 := by have := HA1.out; have := HF.out.2.1; omega
        obtain ⟨qq, hqq⟩ : ∃ qq : Int → Bool, ∀ c, isX { x with at' := a1 } c = qq c := ⟨_, fun _ => rfl⟩
        have HIs' := Lib.hid (fun (W : World) (hW : TxAt W base t { x with at' := a1 } lv) (c : Int) (n : Nat) => is_drew W base t { x with at' := a1 } lv c hW HF.out.2.1 ha1l (qq c) (hqq c) n)
        have HI0 := Lib.hid (fun (W : World) (hW : TxAt W base t { x with at' := a1 } lv) (c : Int) => (show Calls Tryz.prog 39 #[.pointer (some ⟨t, 0, none⟩), .int .u8 c] W fun e w' => e = .returned (.bool (qq c)) ∧ ∃ n, w' = W.drewN n from by have h := is_any W base t { x with at' := a1 } lv c hW HF.out.2.1 ha1l; rw [hqq] at h; exact h))
        clear hi34 HIs hj hle h34 ha1 hB
        generalize x.s[a] = b at *
        rename Hid (∀ (W : World), TxAt W base t _ lv → ∀ (c : Int) (n : Nat), _) => HIs
        by_cases hl1 : a1 < x.s.length
        · have hi2 : ∀ c, qq c = decide (((x.s[a1]).toNat : Int) = c) := fun c => (hqq c).symm.trans (isX_in (x := { x with at' := a1 }) hl1 c)
          rw [List.drop_eq_getElem_cons hl1] at hg
          have hl1' : a1 < (⟨x.s.toArray⟩ : ByteArray).size := by rw [hz]; exact hl1
          have hj : (⟨x.s.toArray⟩ : ByteArray)[a1]? = some x.s[a1] := getElem?_pos (⟨x.s.toArray⟩ : ByteArray) a1 hl1'
          have hle := byte_le x.s[a1]
          have hd1 : decide ((a1 : Int) < ((⟨x.s.toArray⟩ : ByteArray).size : Int)) = true := by simp; omega
          have hd12 : decide (a1 < (⟨x.s.toArray⟩ : ByteArray).size) = true := by simpa using hl1'
          have HLa := Lib.hid hl1
          clear hqq
          generalize x.s[a1] = d at *
          clear hl1 hl
          generalize hsg : (⟨x.s.toArray⟩ : ByteArray) = s at *
          have hsb : s[a1] = d := Option.some.inj ((getElem?_pos s a1 hl1').symm.trans hj)
          have hj2 : s[a1]? = some s[a1] := getElem?_pos s a1 hl1'
          obtain ⟨bi, hbi⟩ : ∃ bi : Int, (d.toNat : Int) = bi := ⟨_, rfl⟩
          have HBi := Lib.hid hbi
          have hbi2 : ((s[a1]).toNat : Int) = bi := by rw [hsb]; exact hbi
          have HSG := Lib.hid hsg
          clear hsb hj hsg
          by_cases d34 : d.toNat = 34
          · have z34 : qq 34 = true := by rw [hi2]; simp; omega
            rw [show quotG (b :: d :: x.s.drop (a1 + 1)) out a = (if 48 ≤ out.length then ⟨out, a + 1, 4⟩ else quotG (x.s.drop (a1 + 1)) (out ++ [d]) (a + 2)) from by rw [quotG, if_pos HB34.out, if_pos d34]] at hg
            rw [show a + 2 = a1 + 1 from by have := HA1.out; omega, show a + 1 = a1 from HA1.out] at hg
            by_cases h48 : 48 ≤ out.length
            · rw [if_pos h48] at hg
              have z48 : decide ((48 : Int) ≤ (out.length : Int)) = true := by simp; omega
              have HG2 := Lib.hid hg
              have HE := Lib.hid (fun (W : World) (hW : TxAt W base t { x with at' := a1 } lv) => bad_any W base t { x with at' := a1 } lv 4 (a1 : Int) hW HF.out.1)
              clear hg HG hz hbi hi2
              go_wp2
              go_quiet (fail)
              go_wp2_with fail
              refine (HC.out _).mono ?_
              rintro e w1 ⟨rfl, n1, rfl⟩
              obtain ⟨hX1, hT1, hO1⟩ := HB1.out n1
              have d0 : (wr.drewN n1).cell? ⟨t, 0, none⟩ = some (.string s) := c0'
              have d1 : (wr.drewN n1).cell? ⟨t, 1, none⟩ = some (.int .i64 (a : Int)) := c1'
              have df : (wr.drewN n1).frozen? ⟨t, 1, none⟩ = false := f1
              have dl : t < (wr.drewN n1).heap.size := hlt
              have hbn : w.heap.size ≤ ((wr.drewN n1).setCell ⟨t, 1, none⟩ (.int .i64 (a1 : Int))).heap.size := by simpa [World.setCell] using hbr
              clear HB1 c0' c1' f1 hlt HC hbr
              generalize wr.drewN n1 = wq at *
              obtain ⟨W1, hW1⟩ : ∃ W1, wq.setCell ⟨t, 1, none⟩ (.int .i64 (a1 : Int)) = W1 := ⟨_, rfl⟩
              rw [hW1] at hX1 hT1 hO1 hbn
              have HX1 := Lib.hid hX1
              have HT1 := Lib.hid hT1
              have HO1 := Lib.hid hO1
              have b0 : W1.cell? ⟨t, 0, none⟩ = some (.string s) := by rw [← HSG.out]; exact hX1.cells.1
              have b1 : W1.cell? ⟨t, 1, none⟩ = some (.int .i64 (a1 : Int)) := hX1.cells.2.1
              have bl := hX1.blk.lt
              have hIt := HI0.out W1 hX1 34
              rw [z34] at hIt
              have HIt := Lib.hid hIt
              clear hX1 hT1 hO1 hIt
              go_wp2_with fail
              clear hW1 d0 d1 df dl
              refine HIt.out.mono ?_
              rintro e w3 ⟨rfl, n3, rfl⟩
              go_wp2_with fail
              refine (HE.out _ (by first | exact HX1.out.drewN _ | exact (HX1.out.drewN _).drewN _)).mono ?_
              rintro f w2 ⟨rfl, hX2, hT2⟩
              have HX2 := Lib.hid (And.intro hX2 ((by first | exact (HT1.out.drewN _).trans hT2 | exact ((HT1.out.drewN _).drewN _).trans hT2) : Tch base txOnly w w2))
              clear hX2 hT2
              go_wp2
              go_ret2
              unfold CPost
              rw [← HG2.out]
              exact ⟨fun h => absurd h (show ¬ _ by intro h'; cases h'), fun _ => ⟨rfl, HX2.out.1⟩, HX2.out.2⟩
            · rw [if_neg h48] at hg
              have z48 : decide ((48 : Int) ≤ (out.length : Int)) = false := by simp; omega
              have HG2 := Lib.hid hg
              clear hg HG hz hbi hi2
              go_wp2
              go_quiet (fail)
              go_wp2_with fail
              refine (HC.out _).mono ?_
              rintro e w1 ⟨rfl, n1, rfl⟩
              obtain ⟨hX1, hT1, hO1⟩ := HB1.out n1
              have d0 : (wr.drewN n1).cell? ⟨t, 0, none⟩ = some (.string s) := c0'
              have d1 : (wr.drewN n1).cell? ⟨t, 1, none⟩ = some (.int .i64 (a : Int)) := c1'
              have df : (wr.drewN n1).frozen? ⟨t, 1, none⟩ = false := f1
              have dl : t < (wr.drewN n1).heap.size := hlt
              have hbn : w.heap.size ≤ ((wr.drewN n1).setCell ⟨t, 1, none⟩ (.int .i64 (a1 : Int))).heap.size := by simpa [World.setCell] using hbr
              clear HB1 c0' c1' f1 hlt HC hbr
              generalize wr.drewN n1 = wq at *
              obtain ⟨W1, hW1⟩ : ∃ W1, wq.setCell ⟨t, 1, none⟩ (.int .i64 (a1 : Int)) = W1 := ⟨_, rfl⟩
              rw [hW1] at hX1 hT1 hO1 hbn
              have HX1 := Lib.hid hX1
              have HT1 := Lib.hid hT1
              have HO1 := Lib.hid hO1
              have b0 : W1.cell? ⟨t, 0, none⟩ = some (.string s) := by rw [← HSG.out]; exact hX1.cells.1
              have b1 : W1.cell? ⟨t, 1, none⟩ = some (.int .i64 (a1 : Int)) := hX1.cells.2.1
              have bl := hX1.blk.lt
              have hIt := HI0.out W1 hX1 34
              rw [z34] at hIt
              have HIt := Lib.hid hIt
              clear hX1 hT1 hO1 hIt
              go_wp2_with fail
              clear hW1 d0 d1 df dl
              refine HIt.out.mono ?_
              rintro e w3 ⟨rfl, n3, rfl⟩
              have hX1' := HX1.out.drewN n3
              have hT1' := HT1.out.drewN n3
              have hO1' := HO1.out.drewN n3
              have d0 : (W1.drewN n3).cell? ⟨t, 0, none⟩ = some (.string s) := b0
              have d1 : (W1.drewN n3).cell? ⟨t, 1, none⟩ = some (.int .i64 (a1 : Int)) := b1
              have hbn' : w.heap.size ≤ (W1.drewN n3).heap.size := hbn
              clear HX1 HT1 HO1 b0 b1 bl hbn HIt hown HO HX HT
              have HX1 := Lib.hid hX1'
              have HT1 := Lib.hid hT1'
              have HO1 := Lib.hid hO1'
              clear hX1' hT1' hO1'
              rename _ ≤ (W1.drewN n3).heap.size => hbn
              generalize W1.drewN n3 = wn at *
              go_wp2
              refine region_g [] (S := (fun W => W.cell? ⟨t, 0, none⟩ = some (.string s) ∧ W.cell? ⟨t, 1, none⟩ = some (.int .i64 (a1 : Int)))) (by kernel_rfl) ⟨d0, d1⟩ (fun hH => ?_)
              refine g_take (i := 0) (v := .slice A out.length cp) (by rfl) (by kernel_rfl) (by kernel_rfl) (by kernel_rfl) (by kernel_rfl) (fun _ _ _ h => (by cases h.1)) (Or.inl ⟨by kernel_rfl, fun W hS => (by obtain ⟨s0, s1⟩ := hS; go_simp)⟩) hH ?_
              simp only [Act.put, List.setIfInBounds_toArray, List.set_cons_zero, List.set_cons_succ]
              refine g_take (i := 1) (v := .pointer (some ⟨t, 0, none⟩)) (by rfl) (by kernel_rfl) (by kernel_rfl) (by kernel_rfl) (by kernel_rfl) (fun _ _ _ h => (by cases h.1)) (Or.inl ⟨by kernel_rfl, fun W hS => (by obtain ⟨s0, s1⟩ := hS; go_simp)⟩) hH ?_
              simp only [Act.put, List.setIfInBounds_toArray, List.set_cons_zero, List.set_cons_succ]
              refine g_take (i := 2) (v := .pointer (some ⟨t, 0, none⟩)) (by rfl) (by kernel_rfl) (by kernel_rfl) (by kernel_rfl) (by kernel_rfl) (fun _ _ _ h => (by cases h.1)) (Or.inl ⟨by kernel_rfl, fun W hS => (by obtain ⟨s0, s1⟩ := hS; go_simp)⟩) hH ?_
              simp only [Act.put, List.setIfInBounds_toArray, List.set_cons_zero, List.set_cons_succ]
              refine g_take (i := 3) (v := .pointer (some ⟨t, 0, none⟩)) (by rfl) (by kernel_rfl) (by kernel_rfl) (by kernel_rfl) (by kernel_rfl) (fun _ _ _ h => (by cases h.1)) (Or.inl ⟨by kernel_rfl, fun W hS => (by obtain ⟨s0, s1⟩ := hS; go_simp)⟩) hH ?_
              simp only [Act.put, List.setIfInBounds_toArray, List.set_cons_zero, List.set_cons_succ]
              refine g_take (i := 4) (v := .string s) (by rfl) (by kernel_rfl) (by kernel_rfl) (by kernel_rfl) (by kernel_rfl) (fun _ _ _ h => (by cases h.1)) (Or.inl ⟨by kernel_rfl, fun W hS => (by obtain ⟨s0, s1⟩ := hS; go_simp)⟩) hH ?_
              simp only [Act.put, List.setIfInBounds_toArray, List.set_cons_zero, List.set_cons_succ]
              refine g_take (i := 5) (v := .pointer (some ⟨t, 0, none⟩)) (by rfl) (by kernel_rfl) (by kernel_rfl) (by kernel_rfl) (by kernel_rfl) (fun _ _ _ h => (by cases h.1)) (Or.inl ⟨by kernel_rfl, fun W hS => (by obtain ⟨s0, s1⟩ := hS; go_simp)⟩) hH ?_
              simp only [Act.put, List.setIfInBounds_toArray, List.set_cons_zero, List.set_cons_succ]
              refine g_take (i := 6) (v := .pointer (some ⟨t, 0, none⟩)) (by rfl) (by kernel_rfl) (by kernel_rfl) (by kernel_rfl) (by kernel_rfl) (fun _ _ _ h => (by cases h.1)) (Or.inl ⟨by kernel_rfl, fun W hS => (by obtain ⟨s0, s1⟩ := hS; go_simp)⟩) hH ?_
              simp only [Act.put, List.setIfInBounds_toArray, List.set_cons_zero, List.set_cons_succ]
              refine g_take (i := 7) (v := .pointer (some ⟨t, 1, none⟩)) (by rfl) (by kernel_rfl) (by kernel_rfl) (by kernel_rfl) (by kernel_rfl) (fun _ _ _ h => (by cases h.1)) (Or.inl ⟨by kernel_rfl, fun W hS => (by obtain ⟨s0, s1⟩ := hS; go_simp)⟩) hH ?_
              simp only [Act.put, List.setIfInBounds_toArray, List.set_cons_zero, List.set_cons_succ]
              refine g_take (i := 8) (v := .int .i64 (a1 : Int)) (by rfl) (by kernel_rfl) (by kernel_rfl) (by kernel_rfl) (by kernel_rfl) (fun _ _ _ h => (by cases h.1)) (Or.inl ⟨by kernel_rfl, fun W hS => (by obtain ⟨s0, s1⟩ := hS; go_simp)⟩) hH ?_
              simp only [Act.put, List.setIfInBounds_toArray, List.set_cons_zero, List.set_cons_succ]
              refine g_take (i := 9) (v := .int .u8 bi) (by rfl) (by kernel_rfl) (by kernel_rfl) (by kernel_rfl) (by kernel_rfl) (fun _ _ _ h => (by cases h.1)) (Or.inl ⟨by kernel_rfl, fun W hS => (by obtain ⟨s0, s1⟩ := hS; go_simp)⟩) hH ?_
              simp only [Act.put, List.setIfInBounds_toArray, List.set_cons_zero, List.set_cons_succ]
              refine g_one (i := 10) (by kernel_rfl) (by rfl) (fun K' hK' => ?_)
              go_simp
              have hOn : wn.drew.ownsRow w.heap.size 5 1 (.slice A out.length cp) out.length (out.map bV) := by have h := HO1.out; unfold ORow at h; rw [List.length_map] at h; exact h
              have hRe : (wn.drew.alloc (.cells #[.int .u8 bi] 5)).ownsRow w.heap.size 5 1 (.slice A out.length cp) out.length (out.map bV) := World.ownsRow.alloc hOn _
              have al : Below wn.heap.size wn (wn.drew.alloc (.cells #[.int .u8 bi] 5)) := (below_drew (Below.refl _ _)).alloc (Nat.le_refl _) _
              have hX2 : TxAt (wn.drew.alloc (.cells #[.int .u8 bi] 5)) base t { x with at' := a1 } lv := HX1.out.below al
              have e0 : (wn.drew.alloc (.cells #[.int .u8 bi] 5)).cell? ⟨t, 0, none⟩ = some (.string s) := (al.cell (show t < wn.heap.size from HX1.out.blk.lt)).trans d0
              have e1 : (wn.drew.alloc (.cells #[.int .u8 bi] 5)).cell? ⟨t, 1, none⟩ = some (.int .i64 (a1 : Int)) := (al.cell (show t < wn.heap.size from HX1.out.blk.lt)).trans d1
              have hbe : w.heap.size ≤ (wn.drew.alloc (.cells #[.int .u8 bi] 5)).heap.size := Nat.le_trans hbn al.size
              have hT2 : Tch base txOnly w (wn.drew.alloc (.cells #[.int .u8 bi] 5)) := HT1.out.trans (Tch.of_below al)
              refine hK'.out _ _ (fun _ => ⟨e0, e1⟩) (fun _ => ?_)
              clear hK' K' hH
              refine g_one (i := 11) (by kernel_rfl) (by rfl) (fun K' hK' => ?_)
              refine step_appG (by rfl) (.tmp 64) (.tmp 74) 22 (by rfl) w.heap.size 5 _ 1 1 Tryz.underlying22 Tryz.infoU8 (by rfl) (by decide) (.slice A out.length cp) out.length (out.map bV) [.int .u8 bi] (by rfl) (by exact hRe) (by simp [Value.oneCell']) ⟨wn.heap.size, 0, none⟩ 1 1 (by rfl) (by rfl) (by exact cell_one_new wn.drew _ _) (by simp only [maxLen]; omega) (by omega) hbe ?_
              intro v4 w4 hown4 hg4 _
              have hb2 := below_gr hRe hg4 hbe
              have hX4 := hX2.low HLow.out hb2
              have hT4 := tch_low hT2 hb2
              have k0 : w4.cell? ⟨t, 0, none⟩ = some (.string s) := (hb2.cell (show t < w.heap.size from HLow.out.1)).trans e0
              have k1 : w4.cell? ⟨t, 1, none⟩ = some (.int .i64 (a1 : Int)) := (hb2.cell (show t < w.heap.size from HLow.out.1)).trans e1
              have kf := hX4.blk.frozen 1
              have kl := hX4.blk.lt
              have HX4 := Lib.hid (And.intro hX4 (And.intro hT4 hown4))
              refine hK'.out _ _ (fun _ => ⟨k0, k1⟩) (fun _ => ?_)
              clear hK' K' hX2 hT2 e0 e1 hRe hOn al hb2 hX4 hT4 hown4 hg4 hbe d0 d1
              simp only [Act.put, List.setIfInBounds_toArray, List.set_cons_zero, List.set_cons_succ]
              refine g_one (i := 12) (by kernel_rfl) (by rfl) (fun K' hK' => ?_)
              go_simp
              refine hK'.out _ _ (fun _ => ⟨k0, k1⟩) (fun _ => ?_)
              clear hK' K'
              refine g_done (by kernel_rfl) ⟨by first | rfl | trivial, ?_⟩ _
              go_wp2
              go_roundw
              case rel =>
                obtain ⟨hX4, hT4, hown4⟩ := HX4.out
                obtain ⟨hX5, hT5⟩ := tx_step hX4 HF.out.1 a1 rfl
                have hob : [d].map bV = [.int .u8 bi] := by simp only [List.map_cons, List.map_nil, bV]; rw [HBi.out]
                refine ⟨a1 + 1, out ++ [d], by have := HLa.out; omega, ?_, by simp; omega, Lib.hid hX5, Lib.hid (hT4.trans hT5), Lib.hid HG2.out⟩
                have hrow : ORow w4 w.heap.size 5 v4 (out.map bV ++ [.int .u8 bi]) := by unfold ORow; rw [List.length_append, List.length_map]; exact hown4
                rw [List.map_append, hob]
                exact row_tch (base := base) (p := txOnly) hrow hT5 (fun _ _ => by simp only [txOnly]; decide)
              case measure =>
                obtain ⟨hX4, _, _⟩ := HX4.out
                have q1 := (tx_step hX4 HF.out.1 a1 rfl).1.atOf
                have q2 := HQ2.out
                have := HLa.out
                simp only at q1 q2 ⊢
                rw [q1, q2]
                omega
          · have z34 : qq 34 = false := by rw [hi2]; simp; omega
            by_cases d44 : d.toNat = 44 ∨ d.toNat = 10
            · have hg2 : (⟨out, a1, 0⟩ : CellR) = R := by rw [← hg, quotG, if_pos HB34.out, if_neg d34, if_pos d44, HA1.out]
              have HG2 := Lib.hid hg2
              have hcase : qq 44 = true ∨ (qq 44 = false ∧ qq 10 = true) := by
                by_cases h : d.toNat = 44
                · left; rw [hi2]; simp; omega
                · right; refine ⟨by rw [hi2]; simp; omega, by rw [hi2]; simp; omega⟩
              clear hg hg2 HG hz hbi hi2 d44
              rcases hcase with z44 | ⟨z44, z10⟩
              all_goals
                go_wp2
                go_quiet (fail)
                go_wp2_with fail
                refine (HC.out _).mono ?_
                rintro e w1 ⟨rfl, n1, rfl⟩
                obtain ⟨hX1, hT1, hO1⟩ := HB1.out n1
                have d0 : (wr.drewN n1).cell? ⟨t, 0, none⟩ = some (.string s) := c0'
                have d1 : (wr.drewN n1).cell? ⟨t, 1, none⟩ = some (.int .i64 (a : Int)) := c1'
                have df : (wr.drewN n1).frozen? ⟨t, 1, none⟩ = false := f1
                have dl : t < (wr.drewN n1).heap.size := hlt
                have hbn : w.heap.size ≤ ((wr.drewN n1).setCell ⟨t, 1, none⟩ (.int .i64 (a1 : Int))).heap.size := by simpa [World.setCell] using hbr
                clear HB1 c0' c1' f1 hlt HC hbr
                generalize wr.drewN n1 = wq at *
                obtain ⟨W1, hW1⟩ : ∃ W1, wq.setCell ⟨t, 1, none⟩ (.int .i64 (a1 : Int)) = W1 := ⟨_, rfl⟩
                rw [hW1] at hX1 hT1 hO1 hbn
                have HX1 := Lib.hid hX1
                have HT1 := Lib.hid hT1
                have HO1 := Lib.hid hO1
                have b0 : W1.cell? ⟨t, 0, none⟩ = some (.string s) := by rw [← HSG.out]; exact hX1.cells.1
                have b1 : W1.cell? ⟨t, 1, none⟩ = some (.int .i64 (a1 : Int)) := hX1.cells.2.1
                have bl := hX1.blk.lt
                have hIt := HI0.out W1 hX1 34
                rw [z34] at hIt
                have HIt := Lib.hid hIt
                clear hX1 hT1 hO1 hIt
                go_wp2_with fail
                clear hW1 d0 d1 df dl
                refine HIt.out.mono ?_
                rintro e w3 ⟨rfl, n3, rfl⟩
                have hX1' := HX1.out.drewN n3
                have hT1' := HT1.out.drewN n3
                have hO1' := HO1.out.drewN n3
                have d0 : (W1.drewN n3).cell? ⟨t, 0, none⟩ = some (.string s) := b0
                have d1 : (W1.drewN n3).cell? ⟨t, 1, none⟩ = some (.int .i64 (a1 : Int)) := b1
                clear HX1 HT1 HO1 b0 b1 bl hbn HIt hown HO HX HT
                have HX1 := Lib.hid hX1'
                have HT1 := Lib.hid hT1'
                have HO1 := Lib.hid hO1'
                clear hX1' hT1' hO1'
                generalize W1.drewN n3 = wn at *
                have hstr : ∀ n, (convert 22 9 (.slice A out.length cp)).run Tryz.prog (wn.drewN n) = .ok (.string ⟨out.toArray⟩) (wn.drewN n) := fun n => str_of_read (P := Tryz.prog) (w := wn.drewN n) 22 9 5 Tryz.underlying22 Tryz.underlying5 Tryz.underlying9 (BRead.of_row (HO1.out.drewN n))
                have HQ := Lib.hid (fun (c : Int) (n : Nat) => HIs.out wn HX1.out c n)
                go_wp2
                go_quiet (exact HQ.out _ _)
                go_wp2
                go_ret2
                unfold CPost
                rw [← HG2.out]
                exact ⟨fun _ => ⟨rfl, by first | exact HX1.out.drewN _ | exact (HX1.out.drewN _).drewN _⟩, fun h => absurd rfl h, by first | exact HT1.out.drewN _ | exact (HT1.out.drewN _).drewN _⟩
            · have hg2 : (⟨out, a1, 2⟩ : CellR) = R := by rw [← hg, quotG, if_pos HB34.out, if_neg d34, if_neg d44, HA1.out]
              have HG2 := Lib.hid hg2
              have z44 : qq 44 = false := by rw [hi2]; simp; omega
              have z10 : qq 10 = false := by rw [hi2]; simp; omega
              have HE := Lib.hid (fun (W : World) (hW : TxAt W base t { x with at' := a1 } lv) => bad_any W base t { x with at' := a1 } lv 2 (a1 : Int) hW HF.out.1)
              clear hg hg2 HG hz hbi hi2 d44
              go_wp2
              go_quiet (fail)
              go_wp2_with fail
              refine (HC.out _).mono ?_
              rintro e w1 ⟨rfl, n1, rfl⟩
              obtain ⟨hX1, hT1, hO1⟩ := HB1.out n1
              have d0 : (wr.drewN n1).cell? ⟨t, 0, none⟩ = some (.string s) := c0'
              have d1 : (wr.drewN n1).cell? ⟨t, 1, none⟩ = some (.int .i64 (a : Int)) := c1'
              have df : (wr.drewN n1).frozen? ⟨t, 1, none⟩ = false := f1
              have dl : t < (wr.drewN n1).heap.size := hlt
              have hbn : w.heap.size ≤ ((wr.drewN n1).setCell ⟨t, 1, none⟩ (.int .i64 (a1 : Int))).heap.size := by simpa [World.setCell] using hbr
              clear HB1 c0' c1' f1 hlt HC hbr
              generalize wr.drewN n1 = wq at *
              obtain ⟨W1, hW1⟩ : ∃ W1, wq.setCell ⟨t, 1, none⟩ (.int .i64 (a1 : Int)) = W1 := ⟨_, rfl⟩
              rw [hW1] at hX1 hT1 hO1 hbn
              have HX1 := Lib.hid hX1
              have HT1 := Lib.hid hT1
              have HO1 := Lib.hid hO1
              have b0 : W1.cell? ⟨t, 0, none⟩ = some (.string s) := by rw [← HSG.out]; exact hX1.cells.1
              have b1 : W1.cell? ⟨t, 1, none⟩ = some (.int .i64 (a1 : Int)) := hX1.cells.2.1
              have bl := hX1.blk.lt
              have hIt := HI0.out W1 hX1 34
              rw [z34] at hIt
              have HIt := Lib.hid hIt
              clear hX1 hT1 hO1 hIt
              go_wp2_with fail
              clear hW1 d0 d1 df dl
              refine HIt.out.mono ?_
              rintro e w3 ⟨rfl, n3, rfl⟩
              have hX1' := HX1.out.drewN n3
              have hT1' := HT1.out.drewN n3
              have hO1' := HO1.out.drewN n3
              have d0 : (W1.drewN n3).cell? ⟨t, 0, none⟩ = some (.string s) := b0
              have d1 : (W1.drewN n3).cell? ⟨t, 1, none⟩ = some (.int .i64 (a1 : Int)) := b1
              clear HX1 HT1 HO1 b0 b1 bl hbn HIt hown HO HX HT
              have HX1 := Lib.hid hX1'
              have HT1 := Lib.hid hT1'
              have HO1 := Lib.hid hO1'
              clear hX1' hT1' hO1'
              generalize W1.drewN n3 = wn at *
              have hstr : ∀ n, (convert 22 9 (.slice A out.length cp)).run Tryz.prog (wn.drewN n) = .ok (.string ⟨out.toArray⟩) (wn.drewN n) := fun n => str_of_read (P := Tryz.prog) (w := wn.drewN n) 22 9 5 Tryz.underlying22 Tryz.underlying5 Tryz.underlying9 (BRead.of_row (HO1.out.drewN n))
              have HQ := Lib.hid (fun (c : Int) (n : Nat) => HIs.out wn HX1.out c n)
              go_wp2
              go_quiet (exact HQ.out _ _)
              go_wp2_with fail
              refine (HE.out _ (by first | exact HX1.out.drewN _ | exact (HX1.out.drewN _).drewN _)).mono ?_
              rintro f w2 ⟨rfl, hX2, hT2⟩
              have HX2 := Lib.hid (And.intro hX2 ((by first | exact (HT1.out.drewN _).trans hT2 | exact ((HT1.out.drewN _).drewN _).trans hT2) : Tch base txOnly w w2))
              clear hX2 hT2
              go_wp2
              go_ret2
              unfold CPost
              rw [← HG2.out]
              exact ⟨fun h => absurd h (show ¬ _ by intro h'; cases h'), fun _ => ⟨rfl, HX2.out.1⟩, HX2.out.2⟩
        · have hg2 : (⟨out, a1, 0⟩ : CellR) = R := by
            rw [List.drop_eq_nil_of_le (by omega)] at hg
            rw [← hg]
            simp only [quotG]
            rw [if_pos HB34.out, HA1.out]
          have HG2 := Lib.hid hg2
          have z34 : qq 34 = false := by rw [← hqq]; exact isX_out (x := { x with at' := a1 }) hl1 34
          have hd1 : decide ((a1 : Int) < ((⟨x.s.toArray⟩ : ByteArray).size : Int)) = false := by rw [hz]; simp; omega
          have hd12 : decide (a1 < (⟨x.s.toArray⟩ : ByteArray).size) = false := by rw [hz]; simp; omega
          clear hg hg2 HG hqq hz hl1 hl
          generalize hsg : (⟨x.s.toArray⟩ : ByteArray) = s at *
          have HSG := Lib.hid hsg
          clear hsg
          go_wp2
          go_quiet (fail)
          go_wp2_with fail
          refine (HC.out _).mono ?_
          rintro e w1 ⟨rfl, n1, rfl⟩
          obtain ⟨hX1, hT1, hO1⟩ := HB1.out n1
          have d0 : (wr.drewN n1).cell? ⟨t, 0, none⟩ = some (.string s) := c0'
          have d1 : (wr.drewN n1).cell? ⟨t, 1, none⟩ = some (.int .i64 (a : Int)) := c1'
          have df : (wr.drewN n1).frozen? ⟨t, 1, none⟩ = false := f1
          have dl : t < (wr.drewN n1).heap.size := hlt
          have hbn : w.heap.size ≤ ((wr.drewN n1).setCell ⟨t, 1, none⟩ (.int .i64 (a1 : Int))).heap.size := by simpa [World.setCell] using hbr
          clear HB1 c0' c1' f1 hlt HC hbr
          generalize wr.drewN n1 = wq at *
          obtain ⟨W1, hW1⟩ : ∃ W1, wq.setCell ⟨t, 1, none⟩ (.int .i64 (a1 : Int)) = W1 := ⟨_, rfl⟩
          rw [hW1] at hX1 hT1 hO1 hbn
          have HX1 := Lib.hid hX1
          have HT1 := Lib.hid hT1
          have HO1 := Lib.hid hO1
          have b0 : W1.cell? ⟨t, 0, none⟩ = some (.string s) := by rw [← HSG.out]; exact hX1.cells.1
          have b1 : W1.cell? ⟨t, 1, none⟩ = some (.int .i64 (a1 : Int)) := hX1.cells.2.1
          have bl := hX1.blk.lt
          have hIt := HI0.out W1 hX1 34
          rw [z34] at hIt
          have HIt := Lib.hid hIt
          clear hX1 hT1 hO1 hIt
          go_wp2_with fail
          clear hW1 d0 d1 df dl
          refine HIt.out.mono ?_
          rintro e w3 ⟨rfl, n3, rfl⟩
          have hX1' := HX1.out.drewN n3
          have hT1' := HT1.out.drewN n3
          have hO1' := HO1.out.drewN n3
          have d0 : (W1.drewN n3).cell? ⟨t, 0, none⟩ = some (.string s) := b0
          have d1 : (W1.drewN n3).cell? ⟨t, 1, none⟩ = some (.int .i64 (a1 : Int)) := b1
          clear HX1 HT1 HO1 b0 b1 bl hbn HIt hown HO HX HT
          have HX1 := Lib.hid hX1'
          have HT1 := Lib.hid hT1'
          have HO1 := Lib.hid hO1'
          clear hX1' hT1' hO1'
          generalize W1.drewN n3 = wn at *
          have hstr : ∀ n, (convert 22 9 (.slice A out.length cp)).run Tryz.prog (wn.drewN n) = .ok (.string ⟨out.toArray⟩) (wn.drewN n) := fun n => str_of_read (P := Tryz.prog) (w := wn.drewN n) 22 9 5 Tryz.underlying22 Tryz.underlying5 Tryz.underlying9 (BRead.of_row (HO1.out.drewN n))
          have HQ := Lib.hid (fun (c : Int) (n : Nat) => HIs.out wn HX1.out c n)
          go_wp2
          go_quiet (fail)
          go_wp2
          go_ret2
          unfold CPost
          rw [← HG2.out]
          exact ⟨fun _ => ⟨rfl, by first | exact HX1.out.drewN _ | exact (HX1.out.drewN _).drewN _⟩, fun h => absurd rfl h, by first | exact HT1.out.drewN _ | exact (HT1.out.drewN _).drewN _⟩
      · -- a byte of the contents
        have HC := Lib.hid (fun n => HIs.out false (by rw [hi34]; simp; omega) n)
        generalize x.s[a] = b at *
        generalize (⟨x.s.toArray⟩ : ByteArray) = s at *
        have hsb : s[a] = b := Option.some.inj ((getElem?_pos s a hlt').symm.trans hj)
        have hj2 : s[a]? = some s[a] := getElem?_pos s a hlt'
        obtain ⟨bi, hbi⟩ : ∃ bi : Int, (b.toNat : Int) = bi := ⟨_, rfl⟩
        have HBi := Lib.hid hbi
        have hbi2 : ((s[a]).toNat : Int) = bi := by rw [hsb]; exact hbi
        by_cases h48 : 48 ≤ out.length
        · rw [quotG_48 h34 h48] at hg
          have z48 : decide ((48 : Int) ≤ (out.length : Int)) = true := by simp; omega
          have HG2 := Lib.hid hg
          have HE := Lib.hid (fun (W : World) (hW : TxAt W base t { x with at' := a } lv) => bad_any W base t { x with at' := a } lv 4 (a : Int) hW HF.out.1)
          clear hg HG hz hbi hj hsb hi34 HIs hl
          go_wp2
          go_quiet (fail)
          go_wp2_with fail
          refine (HC.out _).mono ?_
          rintro e w1 ⟨rfl, n1, rfl⟩
          go_wp2_with fail
          refine (HE.out _ (HX.out.drewN n1)).mono ?_
          rintro f w2 ⟨rfl, hX2, hT2⟩
          have HX2 := Lib.hid (And.intro hX2 ((HT.out.drewN n1).trans hT2))
          clear hX2 hT2
          go_wp2
          go_ret2
          unfold CPost
          rw [← HG2.out]
          exact ⟨fun h => absurd h (show ¬ _ by intro h'; cases h'), fun _ => ⟨rfl, HX2.out.1⟩, HX2.out.2⟩
        · rw [quotG_no h34 h48] at hg
          have z48 : decide ((48 : Int) ≤ (out.length : Int)) = false := by simp; omega
          have HG2 := Lib.hid hg
          clear hg HG hz hbi hj hsb hi34 HIs hl
          go_wp2
          go_quiet (fail)
          go_wp2_with fail
          refine (HC.out _).mono ?_
          rintro e w1 ⟨rfl, n1, rfl⟩
          have HQ2 := Lib.hid (show atOf wr t = a from HX.out.atOf)
          have HX1 := Lib.hid (HX.out.drewN n1)
          have HT1 := Lib.hid (HT.out.drewN n1)
          have HO1 := Lib.hid (HO.out.drewN n1)
          have d0 : (wr.drewN n1).cell? ⟨t, 0, none⟩ = some (.string s) := c0'
          have d1 : (wr.drewN n1).cell? ⟨t, 1, none⟩ = some (.int .i64 (a : Int)) := c1'
          have hbn : w.heap.size ≤ (wr.drewN n1).heap.size := hbr
          clear HX HT HO hown c0' c1' f1 hlt HC hbr
          generalize wr.drewN n1 = wn at *
          go_wp2
          refine region_g [] (S := (fun W => W.cell? ⟨t, 0, none⟩ = some (.string s) ∧ W.cell? ⟨t, 1, none⟩ = some (.int .i64 (a : Int)))) (by kernel_rfl) ⟨d0, d1⟩ (fun hH => ?_)
          refine g_take (i := 0) (v := .slice A out.length cp) (by rfl) (by kernel_rfl) (by kernel_rfl) (by kernel_rfl) (by kernel_rfl) (fun _ _ _ h => (by cases h.1)) (Or.inl ⟨by kernel_rfl, fun W hS => (by obtain ⟨s0, s1⟩ := hS; go_simp)⟩) hH ?_
          simp only [Act.put, List.setIfInBounds_toArray, List.set_cons_zero, List.set_cons_succ]
          refine g_take (i := 1) (v := .pointer (some ⟨t, 0, none⟩)) (by rfl) (by kernel_rfl) (by kernel_rfl) (by kernel_rfl) (by kernel_rfl) (fun _ _ _ h => (by cases h.1)) (Or.inl ⟨by kernel_rfl, fun W hS => (by obtain ⟨s0, s1⟩ := hS; go_simp)⟩) hH ?_
          simp only [Act.put, List.setIfInBounds_toArray, List.set_cons_zero, List.set_cons_succ]
          refine g_take (i := 2) (v := .pointer (some ⟨t, 0, none⟩)) (by rfl) (by kernel_rfl) (by kernel_rfl) (by kernel_rfl) (by kernel_rfl) (fun _ _ _ h => (by cases h.1)) (Or.inl ⟨by kernel_rfl, fun W hS => (by obtain ⟨s0, s1⟩ := hS; go_simp)⟩) hH ?_
          simp only [Act.put, List.setIfInBounds_toArray, List.set_cons_zero, List.set_cons_succ]
          refine g_take (i := 3) (v := .pointer (some ⟨t, 0, none⟩)) (by rfl) (by kernel_rfl) (by kernel_rfl) (by kernel_rfl) (by kernel_rfl) (fun _ _ _ h => (by cases h.1)) (Or.inl ⟨by kernel_rfl, fun W hS => (by obtain ⟨s0, s1⟩ := hS; go_simp)⟩) hH ?_
          simp only [Act.put, List.setIfInBounds_toArray, List.set_cons_zero, List.set_cons_succ]
          refine g_take (i := 4) (v := .string s) (by rfl) (by kernel_rfl) (by kernel_rfl) (by kernel_rfl) (by kernel_rfl) (fun _ _ _ h => (by cases h.1)) (Or.inl ⟨by kernel_rfl, fun W hS => (by obtain ⟨s0, s1⟩ := hS; go_simp)⟩) hH ?_
          simp only [Act.put, List.setIfInBounds_toArray, List.set_cons_zero, List.set_cons_succ]
          refine g_take (i := 5) (v := .pointer (some ⟨t, 0, none⟩)) (by rfl) (by kernel_rfl) (by kernel_rfl) (by kernel_rfl) (by kernel_rfl) (fun _ _ _ h => (by cases h.1)) (Or.inl ⟨by kernel_rfl, fun W hS => (by obtain ⟨s0, s1⟩ := hS; go_simp)⟩) hH ?_
          simp only [Act.put, List.setIfInBounds_toArray, List.set_cons_zero, List.set_cons_succ]
          refine g_take (i := 6) (v := .pointer (some ⟨t, 0, none⟩)) (by rfl) (by kernel_rfl) (by kernel_rfl) (by kernel_rfl) (by kernel_rfl) (fun _ _ _ h => (by cases h.1)) (Or.inl ⟨by kernel_rfl, fun W hS => (by obtain ⟨s0, s1⟩ := hS; go_simp)⟩) hH ?_
          simp only [Act.put, List.setIfInBounds_toArray, List.set_cons_zero, List.set_cons_succ]
          refine g_take (i := 7) (v := .pointer (some ⟨t, 1, none⟩)) (by rfl) (by kernel_rfl) (by kernel_rfl) (by kernel_rfl) (by kernel_rfl) (fun _ _ _ h => (by cases h.1)) (Or.inl ⟨by kernel_rfl, fun W hS => (by obtain ⟨s0, s1⟩ := hS; go_simp)⟩) hH ?_
          simp only [Act.put, List.setIfInBounds_toArray, List.set_cons_zero, List.set_cons_succ]
          refine g_take (i := 8) (v := .int .i64 (a : Int)) (by rfl) (by kernel_rfl) (by kernel_rfl) (by kernel_rfl) (by kernel_rfl) (fun _ _ _ h => (by cases h.1)) (Or.inl ⟨by kernel_rfl, fun W hS => (by obtain ⟨s0, s1⟩ := hS; go_simp)⟩) hH ?_
          simp only [Act.put, List.setIfInBounds_toArray, List.set_cons_zero, List.set_cons_succ]
          refine g_take (i := 9) (v := .int .u8 bi) (by rfl) (by kernel_rfl) (by kernel_rfl) (by kernel_rfl) (by kernel_rfl) (fun _ _ _ h => (by cases h.1)) (Or.inl ⟨by kernel_rfl, fun W hS => (by obtain ⟨s0, s1⟩ := hS; go_simp)⟩) hH ?_
          simp only [Act.put, List.setIfInBounds_toArray, List.set_cons_zero, List.set_cons_succ]
          refine g_one (i := 10) (by kernel_rfl) (by rfl) (fun K' hK' => ?_)
          go_simp
          have hOn : wn.drew.ownsRow w.heap.size 5 1 (.slice A out.length cp) out.length (out.map bV) := by have h := HO1.out; unfold ORow at h; rw [List.length_map] at h; exact h
          have hRe : (wn.drew.alloc (.cells #[.int .u8 bi] 5)).ownsRow w.heap.size 5 1 (.slice A out.length cp) out.length (out.map bV) := World.ownsRow.alloc hOn _
          have al : Below wn.heap.size wn (wn.drew.alloc (.cells #[.int .u8 bi] 5)) := (below_drew (Below.refl _ _)).alloc (Nat.le_refl _) _
          have hX2 : TxAt (wn.drew.alloc (.cells #[.int .u8 bi] 5)) base t { x with at' := a } lv := HX1.out.below al
          have e0 : (wn.drew.alloc (.cells #[.int .u8 bi] 5)).cell? ⟨t, 0, none⟩ = some (.string s) := (al.cell (show t < wn.heap.size from HX1.out.blk.lt)).trans d0
          have e1 : (wn.drew.alloc (.cells #[.int .u8 bi] 5)).cell? ⟨t, 1, none⟩ = some (.int .i64 (a : Int)) := (al.cell (show t < wn.heap.size from HX1.out.blk.lt)).trans d1
          have hbe : w.heap.size ≤ (wn.drew.alloc (.cells #[.int .u8 bi] 5)).heap.size := Nat.le_trans hbn al.size
          have hT2 : Tch base txOnly w (wn.drew.alloc (.cells #[.int .u8 bi] 5)) := HT1.out.trans (Tch.of_below al)
          refine hK'.out _ _ (fun _ => ⟨e0, e1⟩) (fun _ => ?_)
          clear hK' K' hH
          refine g_one (i := 11) (by kernel_rfl) (by rfl) (fun K' hK' => ?_)
          refine step_appG (by rfl) (.tmp 64) (.tmp 74) 22 (by rfl) w.heap.size 5 _ 1 1 Tryz.underlying22 Tryz.infoU8 (by rfl) (by decide) (.slice A out.length cp) out.length (out.map bV) [.int .u8 bi] (by rfl) (by exact hRe) (by simp [Value.oneCell']) ⟨wn.heap.size, 0, none⟩ 1 1 (by rfl) (by rfl) (by exact cell_one_new wn.drew _ _) (by simp only [maxLen]; omega) (by omega) hbe ?_
          intro v4 w4 hown4 hg4 _
          have hb2 := below_gr hRe hg4 hbe
          have hX4 := hX2.low HLow.out hb2
          have hT4 := tch_low hT2 hb2
          have k0 : w4.cell? ⟨t, 0, none⟩ = some (.string s) := (hb2.cell (show t < w.heap.size from HLow.out.1)).trans e0
          have k1 : w4.cell? ⟨t, 1, none⟩ = some (.int .i64 (a : Int)) := (hb2.cell (show t < w.heap.size from HLow.out.1)).trans e1
          have kf := hX4.blk.frozen 1
          have kl := hX4.blk.lt
          have HX4 := Lib.hid (And.intro hX4 (And.intro hT4 hown4))
          refine hK'.out _ _ (fun _ => ⟨k0, k1⟩) (fun _ => ?_)
          clear hK' K' hX2 hT2 e0 e1 hRe hOn al hb2 hX4 hT4 hown4 hg4 hbe d0 d1
          simp only [Act.put, List.setIfInBounds_toArray, List.set_cons_zero, List.set_cons_succ]
          refine g_one (i := 12) (by kernel_rfl) (by rfl) (fun K' hK' => ?_)
          go_simp
          refine hK'.out _ _ (fun _ => ⟨k0, k1⟩) (fun _ => ?_)
          clear hK' K'
          refine g_done (by kernel_rfl) ⟨by first | rfl | trivial, ?_⟩ _
          go_wp2
          go_roundw
          case rel =>
            obtain ⟨hX4, hT4, hown4⟩ := HX4.out
            obtain ⟨hX5, hT5⟩ := tx_step hX4 HF.out.1 a rfl
            have hob : [b].map bV = [.int .u8 bi] := by simp only [List.map_cons, List.map_nil, bV]; rw [HBi.out]
            refine ⟨a + 1, out ++ [b], by have := HLa.out; omega, ?_, by simp; omega, Lib.hid hX5, Lib.hid (hT4.trans hT5), Lib.hid HG2.out⟩
            have hrow : ORow w4 w.heap.size 5 v4 (out.map bV ++ [.int .u8 bi]) := by unfold ORow; rw [List.length_append, List.length_map]; exact hown4
            rw [List.map_append, hob]
            exact row_tch (base := base) (p := txOnly) hrow hT5 (fun _ _ => by simp only [txOnly]; decide)
          case measure =>
            obtain ⟨hX4, _, _⟩ := HX4.out
            have q1 := (tx_step hX4 HF.out.1 a rfl).1.atOf
            have q2 := HQ2.out
            have := HLa.out
            simp only at q1 q2 ⊢
            rw [q1, q2]
            omega
    · have hae : a = x.s.length := by omega
      have hg := HG.out
      rw [List.drop_eq_nil_of_le (by omega)] at hg
      unfold quotG at hg
      have hd : decide ((a : Int) < ((⟨x.s.toArray⟩ : ByteArray).size : Int)) = false := by rw [hz]; simp; omega
      have hd2 : decide (a < (⟨x.s.toArray⟩ : ByteArray).size) = false := by rw [hz]; simp; omega
      have HG2 := Lib.hid hg
      have HE := Lib.hid (fun (W : World) (hW : TxAt W base t { x with at' := a } lv) => bad_any W base t { x with at' := a } lv 2 (a : Int) hW HF.out.1)
      clear hg HG hae hz
      generalize (⟨x.s.toArray⟩ : ByteArray) = s at *
      go_wp2
      go_quiet (fail)
      go_wp2_with fail
      refine (HE.out _ (HX.out.drewN _)).mono ?_
      rintro f w2 ⟨rfl, hX2, hT2⟩
      have HX2 := Lib.hid (And.intro hX2 ((HT.out.drewN _).trans hT2))
      clear hX2 hT2
      go_wp2
      go_ret2
      unfold CPost
      rw [← HG2.out]
      exact ⟨fun h => absurd h (show ¬ _ by intro h'; cases h'), fun _ => ⟨rfl, HX2.out.1⟩, HX2.out.2⟩
end Go.Proofs.YtfciacigamjfkabGreat

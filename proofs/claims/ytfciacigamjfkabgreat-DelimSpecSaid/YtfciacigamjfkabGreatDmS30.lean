/-
  The reference's bare cell.
-/
import Derived.Test.YtfciacigamjfkabGreatDmS29
import Derived.Test.YtfciacigamjfkabGreatDmS28
namespace Go.Proofs.YtfciacigamjfkabGreat
open Go.RowKit Go.Maps
set_option maxRecDepth 100000
set_option linter.unusedSimpArgs false
set_option linter.unusedVariables false
set_option linter.unusedSectionVars false
variable [Tab] [Fo]

theorem tch_low {p : Obj → Prop} {base : Nat} {w w1 w2 : World} (h : Tch base p w w1) (hb : Below w.heap.size w1 w2) : Tch base p w w2 :=
  ⟨hb.os.trans h.os, hb.tape.trans h.tape, hb.output.trans h.output, Nat.le_trans h.size hb.size, fun k o ho hc => (hb.block k (Array.getElem?_eq_some_iff.1 ho).1).trans (h.block k o ho hc)⟩
/-- Where a text's block and its events' row lie below a bound. -/
def TxLow (t : Nat) (lv : Value) (B : Nat) : Prop := t < B ∧ ∀ g, lv.ownBlock = some g → g < B
theorem TxAt.lows {w : World} {base t : Nat} {x : Tx} {lv : Value} (h : TxAt w base t x lv) : TxLow t lv w.heap.size := ⟨h.blk.lt, fun g hg => (World.ownsRow.lt h.row g hg).2⟩
theorem TxAt.low {w w' : World} {base t B : Nat} {x : Tx} {lv : Value} (h : TxAt w base t x lv) (hl : TxLow t lv B) (hb : Below B w w') : TxAt w' base t x lv := by
  refine ⟨h.blk.below hb hl.1, ⟨h.row.1, ?_⟩, h.bt, h.nf, Nat.le_trans h.lim hb.size⟩
  rcases h.row.2 with hv | ⟨g, cap, cur, hv, hg, hh, q⟩
  · exact .inl hv
  · exact .inr ⟨g, cap, cur, hv, hg, (hb.block g (hl.2 g (by rw [hv]; rfl))).trans hh, q⟩
def atOf (w : World) (t : Nat) : Nat := match w.cell? ⟨t, 1, none⟩ with
  | some (.int _ n) => n.toNat
  | _ => 0
theorem TxAt.atOf {w : World} {base t : Nat} {x : Tx} {lv : Value} (h : TxAt w base t x lv) : atOf w t = x.at' := by
  have := h.cells.2.1
  unfold Go.Proofs.YtfciacigamjfkabGreat.atOf
  rw [this]
  simp
theorem is_drew (w : World) (base t : Nat) (x : Tx) (lv : Value) (c : Int) (h : TxAt w base t x lv) (hs : x.s.length ≤ 1000) (ha : x.at' ≤ 1000) (q : Bool) (hq : isX x c = q) (n : Nat) :
    Calls Tryz.prog 39 #[.pointer (some ⟨t, 0, none⟩), .int .u8 c] (w.drewN n) fun e w' => e = .returned (.bool q) ∧ ∃ m, w' = w.drewN m := by
  refine (is_any (w.drewN n) base t x lv c (h.drewN n) hs ha).mono ?_
  rintro e w' ⟨rfl, m, rfl⟩
  exact ⟨by rw [hq], n + m, by simp [World.drewN, Nat.add_assoc]⟩
/-- What bare leaves. -/
def CPost (w : World) (base t : Nat) (x : Tx) (lv : Value) (r : CellR) (f : Ending) (w' : World) : Prop :=
  (r.e = 0 → f = .returned (.tuple #[.string ⟨r.out.toArray⟩, .bool true]) ∧ TxAt w' base t { x with at' := r.at' } lv) ∧
  (r.e ≠ 0 → f = .returned (.tuple #[.string ⟨#[]⟩, .bool false]) ∧ TxAt w' base t (badX { x with at' := r.at' } r.e r.at') lv) ∧ Tch base txOnly w w'

set_option maxHeartbeats 8000000 in
theorem bare_any (w : World) (base t : Nat) (x : Tx) (lv : Value) (h : TxAt w base t x lv) (hf : ¬ Fo.F t) (hs : x.s.length ≤ 1000) (ha : x.at' ≤ x.s.length) (hb : base ≤ w.heap.size) :
    Calls Tryz.prog 58 #[.pointer (some ⟨t, 0, none⟩)] w (CPost w base t x lv (bareG (x.s.drop x.at') [] x.at')) := by
  obtain ⟨R, hR⟩ : ∃ R, bareG (x.s.drop x.at') [] x.at' = R := ⟨_, rfl⟩
  rw [hR]
  have HLow := Lib.hid h.lows
  have start : Hid (TxAt w base t { x with at' := x.at' } lv) := Lib.hid h
  have HR := Lib.hid hR
  have HF := Lib.hid (And.intro hf (And.intro hs (And.intro ha hb)))
  clear h hR hf ha hb
  go_enter Tryz.func58, Tryz.ntmps58
  go_wp2
  go_loopw [4] (fun u wr => ∃ (a : Nat) (out : List UInt8), a ≤ x.s.length ∧ ORow wr w.heap.size 5 u (out.map bV) ∧ out.length ≤ 48 ∧ Hid (TxAt wr base t { x with at' := a } lv) ∧ Hid (Tch base txOnly w wr) ∧ Hid (bareG (x.s.drop a) out a = R)) (fun _ wr => x.s.length - atOf wr t)
  case atStart => exact ⟨x.at', [], HF.out.2.2.1, ORow.nil _ _ _, Nat.zero_le _, start, Lib.hid (Tch.refl _ _ _), HR⟩
  case round =>
    obtain ⟨a, out, hal, hown, hol, HX, HT, HG⟩ := hrel
    obtain ⟨c0, c1, _, _, _, _⟩ := HX.out.cells
    have c0' : wr.cell? ⟨t, 0, none⟩ = some (.string ⟨x.s.toArray⟩) := c0
    have c1' : wr.cell? ⟨t, 1, none⟩ = some (.int .i64 (a : Int)) := c1
    have f1 := HX.out.blk.frozen 1
    have hlt := HX.out.blk.lt
    have hbr : w.heap.size ≤ wr.heap.size := HT.out.size
    obtain ⟨A, cp, rfl⟩ := hown.shape
    rw [List.length_map] at hown ⊢
    clear c0 c1 start
    have hz : (⟨x.s.toArray⟩ : ByteArray).size = x.s.length := by show x.s.toArray.size = _; simp
    have hz6 : (⟨x.s.toArray⟩ : ByteArray).size ≤ 1000 := by have := HF.out.2.1; omega
    by_cases hl : a < x.s.length
    · have hg := HG.out
      rw [List.drop_eq_getElem_cons hl] at hg
      unfold bareG at hg
      have hlt' : a < (⟨x.s.toArray⟩ : ByteArray).size := by rw [hz]; exact hl
      have hi44 : isX { x with at' := a } 44 = decide (((x.s[a]).toNat : Int) = 44) := isX_in (x := { x with at' := a }) hl 44
      have hi10 : isX { x with at' := a } 10 = decide (((x.s[a]).toNat : Int) = 10) := isX_in (x := { x with at' := a }) hl 10
      have hj : (⟨x.s.toArray⟩ : ByteArray)[a]? = some x.s[a] := getElem?_pos (⟨x.s.toArray⟩ : ByteArray) a hlt'
      have hle := byte_le x.s[a]
      have hIs := fun (c : Int) (q : Bool) (hq : isX { x with at' := a } c = q) (n : Nat) => is_drew wr base t { x with at' := a } lv c HX.out HF.out.2.1 (by have := HF.out.2.1; show a ≤ 1000; omega) q hq n
      obtain ⟨qq, hqq⟩ : ∃ qq : Int → Bool, ∀ c, isX { x with at' := a } c = qq c := ⟨_, fun _ => rfl⟩
      have HIs := Lib.hid (fun (c : Int) (n : Nat) => hIs c (qq c) (hqq c) n)
      rw [hqq] at hi44 hi10
      clear hIs hqq
      generalize x.s[a] = b at *
      have HLa := Lib.hid hl
      have hd : decide ((a : Int) < ((⟨x.s.toArray⟩ : ByteArray).size : Int)) = true := by simp; omega
      have hd2 : decide (a < (⟨x.s.toArray⟩ : ByteArray).size) = true := by simpa using hlt'
      clear hl
      generalize (⟨x.s.toArray⟩ : ByteArray) = s at *
      by_cases h44 : b.toNat = 44
      · have z44 : qq 44 = true := by rw [hi44]; simp; omega
        rw [if_pos (.inl h44)] at hg
        have HG2 := Lib.hid hg
        have hstr := fun n => str_of_read (P := Tryz.prog) (w := wr.drewN n) 22 9 5 Tryz.underlying22 Tryz.underlying5 Tryz.underlying9 ((BRead.of_row hown).below (below_drewN (Below.refl _ _) n))
        clear hg HG hi44 hi10 hz hj
        go_wp2
        go_quiet (exact HIs.out _ _)
        go_wp2
        go_ret2
        unfold CPost
        rw [← HG2.out]
        exact ⟨fun _ => ⟨rfl, HX.out.drewN _⟩, fun h => absurd rfl h, HT.out.drewN _⟩
      have z44 : qq 44 = false := by rw [hi44]; simp; omega
      by_cases h10 : b.toNat = 10
      · have z10 : qq 10 = true := by rw [hi10]; simp; omega
        rw [if_pos (.inr h10)] at hg
        have HG2 := Lib.hid hg
        have hstr := fun n => str_of_read (P := Tryz.prog) (w := wr.drewN n) 22 9 5 Tryz.underlying22 Tryz.underlying5 Tryz.underlying9 ((BRead.of_row hown).below (below_drewN (Below.refl _ _) n))
        clear hg HG hi44 hi10 hz hj
        go_wp2
        go_quiet (exact HIs.out _ _)
        go_wp2
        go_ret2
        unfold CPost
        rw [← HG2.out]
        exact ⟨fun _ => ⟨rfl, HX.out.drewN _⟩, fun h => absurd rfl h, HT.out.drewN _⟩
      have z10 : qq 10 = false := by rw [hi10]; simp; omega
      rw [if_neg (by rintro (h | h); exact h44 h; exact h10 h)] at hg
      clear hi44 hi10
      obtain ⟨bi, hbi⟩ : ∃ bi : Int, (b.toNat : Int) = bi := ⟨_, rfl⟩
      have hsb : s[a] = b := Option.some.inj ((getElem?_pos s a hlt').symm.trans hj)
      have hbi2 : ((s[a]).toNat : Int) = bi := by rw [hsb]; exact hbi
      have hj2 : s[a]? = some s[a] := getElem?_pos s a hlt'
      have HBi := Lib.hid hbi
      have HSb := Lib.hid hsb
      clear hj hsb
      by_cases h32 : b.toNat < 32
      · rw [if_pos (.inl h32)] at hg
        have z32 : decide (bi < 32) = true := by simp; omega
        have HE := Lib.hid (fun (W : World) (hW : TxAt W base t { x with at' := a } lv) => bad_any W base t { x with at' := a } lv 2 (a : Int) hW HF.out.1)
        have HG2 := Lib.hid hg
        clear hg HG hz
        go_wp2
        go_quiet (exact HIs.out _ _)
        go_wp2
        go_quiet (fail)
        go_wp2_with fail
        refine (HE.out _ (by first | exact HX.out.drewN _ | exact (HX.out.drewN _).drewN _)).mono ?_
        rintro f w2 ⟨rfl, hX2, hT2⟩
        have HX2 := Lib.hid (And.intro hX2 (((HT.out.drewN _).trans (by first | exact hT2 | exact (Tch.refl _ _ _).trans hT2))))
        clear hX2 hT2
        go_wp2
        go_ret2
        unfold CPost
        rw [← HG2.out]
        exact ⟨fun h => absurd h (show ¬ _ by intro h'; cases h'), fun _ => ⟨rfl, HX2.out.1⟩, HX2.out.2⟩
      have z32 : decide (bi < 32) = false := by simp; omega
      by_cases h34 : b.toNat = 34
      · rw [if_pos (.inr h34)] at hg
        have e34 : bi = 34 := by omega
        subst e34
        have HE := Lib.hid (fun (W : World) (hW : TxAt W base t { x with at' := a } lv) => bad_any W base t { x with at' := a } lv 2 (a : Int) hW HF.out.1)
        have HG2 := Lib.hid hg
        clear hg HG hz hbi
        go_wp2
        go_quiet (exact HIs.out _ _)
        go_wp2
        go_quiet (fail)
        go_wp2_with fail
        refine (HE.out _ (by first | exact HX.out.drewN _ | exact (HX.out.drewN _).drewN _)).mono ?_
        rintro f w2 ⟨rfl, hX2, hT2⟩
        have HX2 := Lib.hid (And.intro hX2 ((by first | exact (HT.out.drewN _).trans hT2 | exact ((HT.out.drewN _).drewN _).trans hT2) : Tch base txOnly w w2))
        clear hX2 hT2
        go_wp2
        go_ret2
        unfold CPost
        rw [← HG2.out]
        exact ⟨fun h => absurd h (show ¬ _ by intro h'; cases h'), fun _ => ⟨rfl, HX2.out.1⟩, HX2.out.2⟩
      have n34 : ¬ bi = 34 := by omega
      have z34 : (bi == 34) = false := by rw [beq_eq_false_iff_ne]; exact n34
      rw [if_neg (by rintro (h | h); exact h32 h; exact h34 h)] at hg
      by_cases h48 : 48 ≤ out.length
      · rw [if_pos h48] at hg
        have z48 : decide ((48 : Int) ≤ (out.length : Int)) = true := by simp; omega
        have HE := Lib.hid (fun (W : World) (hW : TxAt W base t { x with at' := a } lv) => bad_any W base t { x with at' := a } lv 4 (a : Int) hW HF.out.1)
        have HG2 := Lib.hid hg
        clear hg HG hz hbi
        go_wp2
        go_quiet (exact HIs.out _ _)
        go_wp2
        go_quiet (fail)
        go_wp2_with fail
        refine (HE.out _ (by first | exact HX.out.drewN _ | exact (HX.out.drewN _).drewN _)).mono ?_
        rintro f w2 ⟨rfl, hX2, hT2⟩
        have HX2 := Lib.hid (And.intro hX2 ((by first | exact (HT.out.drewN _).trans hT2 | exact ((HT.out.drewN _).drewN _).trans hT2) : Tch base txOnly w w2))
        clear hX2 hT2
        go_wp2
        go_ret2
        unfold CPost
        rw [← HG2.out]
        exact ⟨fun h => absurd h (show ¬ _ by intro h'; cases h'), fun _ => ⟨rfl, HX2.out.1⟩, HX2.out.2⟩
      · rw [if_neg h48] at hg
        have z48 : decide ((48 : Int) ≤ (out.length : Int)) = false := by simp; omega
        have HG2 := Lib.hid hg
        have HO := Lib.hid hown
        clear hg HG hz hbi
        go_wp2
        go_quiet (exact HIs.out _ _)
        go_wp2
        go_quiet (fail)
        go_wp2_with (first
          | (at_builtin; refine wp_app1b rfl _ _ 22 rfl w.heap.size 5 (.int .u8 0) 1 Tryz.underlying22 Tryz.info5 rfl _ _ _ rfl (by first | exact HO.out.drewN _ | exact (HO.out.drewN _).drewN _) rfl _ rfl (by simp [maxLen] <;> omega) (by simp <;> omega) hbr ?_; intro v2 w2 hown2 hb2; have hX2 : TxAt w2 base t { x with at' := a } lv := TxAt.low (by first | exact HX.out.drewN _ | exact (HX.out.drewN _).drewN _) HLow.out hb2; have hT2 : Tch base txOnly w w2 := tch_low (by first | exact HT.out.drewN _ | exact (HT.out.drewN _).drewN _) hb2; have d1 : w2.cell? ⟨t, 1, none⟩ = some (.int .i64 (a : Int)) := hX2.cells.2.1; have g1 := hX2.blk.frozen 1; have dl := hX2.blk.lt; have HX2 := Lib.hid (And.intro hX2 (And.intro hT2 hown2)); clear hX2 hT2 hown2 hb2))
        have ha1 : (a : Int) + 1 = ((a + 1 : Nat) : Int) := by omega
        go_roundw
        case rel =>
          obtain ⟨hX2, hT2, hown2⟩ := HX2.out
          obtain ⟨hX3, hT3⟩ := hX2.set HF.out.1 1 (.int .i64 ((a : Int) + 1)) (x' := { x with at' := a + 1 }) (by rw [ha1]; rfl) rfl
          have hob : [b].map bV = [.int .u8 bi] := by simp only [List.map_cons, List.map_nil, bV]; rw [HBi.out]
          refine ⟨a + 1, out ++ [b], by have := HLa.out; omega, ?_, by simp; omega, Lib.hid hX3, Lib.hid (hT2.trans hT3), Lib.hid HG2.out⟩
          rw [List.map_append, hob]
          exact row_tch (base := base) (p := txOnly) hown2 hT3 (fun _ _ => by simp only [txOnly]; decide)
        case measure =>
          obtain ⟨hX2, _, _⟩ := HX2.out
          have e1 := (hX2.set HF.out.1 1 (.int .i64 ((a : Int) + 1)) (x' := { x with at' := a + 1 }) (by rw [ha1]; rfl) rfl).1.atOf
          have e2 := HX.out.atOf
          have := HLa.out
          simp only at e1 e2 ⊢
          rw [e1, e2]
          omega
    · have hae : a = x.s.length := by omega
      have hg := HG.out
      rw [List.drop_eq_nil_of_le (by omega)] at hg
      unfold bareG at hg
      have hd : decide ((a : Int) < ((⟨x.s.toArray⟩ : ByteArray).size : Int)) = false := by rw [hz]; simp; omega
      have hd2 : decide (a < (⟨x.s.toArray⟩ : ByteArray).size) = false := by rw [hz]; simp; omega
      have hstr := fun n => str_of_read (P := Tryz.prog) (w := wr.drewN n) 22 9 5 Tryz.underlying22 Tryz.underlying5 Tryz.underlying9 ((BRead.of_row hown).below (below_drewN (Below.refl _ _) n))
      have HG2 := Lib.hid hg
      clear hg HG hae hz
      generalize (⟨x.s.toArray⟩ : ByteArray) = s at *
      go_wp2
      go_quiet (fail)
      go_wp2
      go_ret2
      unfold CPost
      rw [← HG2.out]
      exact ⟨fun _ => ⟨rfl, HX.out.drewN _⟩, fun h => absurd rfl h, HT.out.drewN _⟩
end Go.Proofs.YtfciacigamjfkabGreat

/-
  The reference's cell.
  The reference's header.
-/
import Derived.Test.YtfciacigamjfkabGreatDmS31
import Derived.Test.YtfciacigamjfkabGreatDmS20
namespace Go.Proofs.YtfciacigamjfkabGreat
open Go.RowKit Go.Maps
set_option maxRecDepth 100000
set_option linter.unusedSimpArgs false
set_option linter.unusedVariables false
set_option linter.unusedSectionVars false
variable [Tab] [Fo]

/-- A cell of a text, closed or not. -/
def endR (x : Tx) (r : CellR) : CellR := if r.e = 0 ∧ r.at' = x.s.length ∧ x.cl = false then ⟨r.out, r.at', 2⟩ else r
def cellR (x : Tx) : CellR := endR x (cellG (x.s.drop x.at') x.at')
theorem isX_true {x : Tx} {c : Int} (h : isX x c = true) : ∃ hl : x.at' < x.s.length, ((x.s[x.at']).toNat : Int) = c := by
  by_cases hl : x.at' < x.s.length
  · rw [isX_in hl] at h; exact ⟨hl, by simpa using h⟩
  · rw [isX_out hl] at h; cases h

set_option maxHeartbeats 8000000 in
theorem cell_any (w : World) (base t : Nat) (x : Tx) (lv : Value) (h : TxAt w base t x lv) (hf : ¬ Fo.F t) (hs : x.s.length ≤ 1000) (ha : x.at' ≤ x.s.length) (hb : base ≤ w.heap.size) :
    Calls Tryz.prog 38 #[.pointer (some ⟨t, 0, none⟩)] w (CPost w base t x lv (cellR x)) := by
  obtain ⟨R, hR⟩ : ∃ R, cellR x = R := ⟨_, rfl⟩
  rw [hR]
  have hI := is_any w base t x lv 34 h hs (by omega)
  have hR2 : endR x (cellG (x.s.drop x.at') x.at') = R := hR
  unfold endR at hR2
  have hz : (⟨x.s.toArray⟩ : ByteArray).size = x.s.length := by show x.s.toArray.size = _; simp
  have HF := Lib.hid (And.intro hf (And.intro hs (And.intro ha hb)))
  have HX := Lib.hid h
  cases hq : isX x 34 with
  | true =>
    obtain ⟨hl, h34⟩ := isX_true hq
    rw [hq] at hI
    have hG : cellG (x.s.drop x.at') x.at' = quotG (x.s.drop (x.at' + 1)) [] (x.at' + 1) := by
      rw [List.drop_eq_getElem_cons hl]
      simp only [cellG]
      rw [if_pos (by omega)]
    obtain ⟨r, hr⟩ : ∃ r, cellG (x.s.drop x.at') x.at' = r := ⟨_, rfl⟩
    rw [hr] at hR2
    rw [hr] at hG
    have HG := Lib.hid hG
    have HI := Lib.hid hI
    have HL := Lib.hid hl
    obtain ⟨a, hae⟩ : ∃ a, x.at' = a := ⟨_, rfl⟩
    have HAE := Lib.hid hae
    clear h hf hs ha hb hR hI hq hl h34 hG hr hae
    go_enter Tryz.func38, Tryz.ntmps38
    go_wp2_with fail
    refine HI.out.mono ?_
    rintro e w1 ⟨rfl, n1, rfl⟩
    obtain ⟨h1, t1⟩ := tx_step (HX.out.drewN n1) HF.out.1 a HAE.out
    have hQ := quoted_any _ base t _ lv h1 HF.out.1 HF.out.2.1 (by have := HL.out; have := HAE.out; show a + 1 ≤ x.s.length; omega) (Nat.le_trans HF.out.2.2.2 t1.size)
    have hQ' : Calls Tryz.prog 57 #[.pointer (some ⟨t, 0, none⟩)] ((w.drewN n1).setCell ⟨t, 1, none⟩ (.int .i64 ((a : Int) + 1))) (CPost ((w.drewN n1).setCell ⟨t, 1, none⟩ (.int .i64 ((a : Int) + 1))) base t x lv r) := by
      rw [HG.out, HAE.out]; exact hQ
    have d1 : (w.drewN n1).cell? ⟨t, 1, none⟩ = some (.int .i64 (a : Int)) := by rw [← HAE.out]; exact HX.out.cells.2.1
    have df : (w.drewN n1).frozen? ⟨t, 1, none⟩ = false := HX.out.blk.frozen 1
    have dl : t < (w.drewN n1).heap.size := HX.out.blk.lt
    have ha1000 : a ≤ 1000 := by have := HL.out; have := HAE.out; have := HF.out.2.1; omega
    have HT1 := Lib.hid ((Tch.refl base txOnly w).drewN n1 |>.trans t1)
    obtain ⟨W1, hW1⟩ : ∃ W1, (w.drewN n1).setCell ⟨t, 1, none⟩ (.int .i64 ((a : Int) + 1)) = W1 := ⟨_, rfl⟩
    rw [hW1] at hQ' HT1
    have HC := Lib.hid hQ'
    clear h1 t1 hQ hQ'
    go_wp2_with fail
    refine HC.out.mono ?_
    rintro f w3 ⟨hg, hbd, ht⟩
    have HT3 := Lib.hid (HT1.out.trans ht)
    clear ht HC
    by_cases he : r.e = 0
    · obtain ⟨rfl, hX3⟩ := hg he
      have c1 := hX3.cells.2.1
      have c0 := hX3.cells.1
      have c2 := hX3.cells.2.2.1
      have hlt3 := hX3.blk.lt
      have HX3 := Lib.hid hX3
      clear hg hbd hX3
      simp only at c0 c1 c2
      by_cases hend : r.at' = x.s.length ∧ x.cl = false
      · obtain ⟨h1, h2⟩ := hend
        rw [if_pos ⟨he, h1, h2⟩] at hR2
        have HR2 := Lib.hid hR2
        rw [h2] at c2
        have z1 : ((r.at' : Int) == ((⟨x.s.toArray⟩ : ByteArray).size : Int)) = true := by rw [hz, h1]; simp
        have HE := Lib.hid (fun (W : World) (hW : TxAt W base t { x with at' := r.at' } lv) => bad_any W base t { x with at' := r.at' } lv 2 (r.at' : Int) hW HF.out.1)
        clear h1 h2 hR2 he hz
        generalize (⟨x.s.toArray⟩ : ByteArray) = s at *
        generalize r.at' = ra at *
        generalize r.out = ro at *
        go_wp2
        go_quiet (fail)
        go_wp2_with fail
        refine (HE.out _ (HX3.out.drewN _)).mono ?_
        rintro f w4 ⟨rfl, hX4, hT4⟩
        have HX4 := Lib.hid (And.intro hX4 ((HT3.out.drewN _).trans hT4))
        clear hX4 hT4
        go_wp2
        go_ret2
        unfold CPost
        rw [← HR2.out]
        exact ⟨fun h => absurd h (show ¬ _ by intro h'; cases h'), fun _ => ⟨rfl, HX4.out.1⟩, HX4.out.2⟩
      · rw [if_neg (fun h => hend ⟨h.2.1, h.2.2⟩)] at hR2
        have HR2 := Lib.hid hR2
        have HE0 := Lib.hid he
        have hcase : ((r.at' : Int) == ((⟨x.s.toArray⟩ : ByteArray).size : Int)) = false ∨ (((r.at' : Int) == ((⟨x.s.toArray⟩ : ByteArray).size : Int)) = true ∧ x.cl = true) := by
          by_cases h1 : r.at' = x.s.length
          · right
            refine ⟨by rw [hz, h1]; simp, ?_⟩
            cases hcl : x.cl with
            | true => rfl
            | false => exact absurd ⟨h1, hcl⟩ hend
          · left; rw [hz, beq_eq_false_iff_ne]; omega
        clear hR2 he hend hz
        generalize hsx : (⟨x.s.toArray⟩ : ByteArray) = s at *
        clear hsx
        generalize hra : r.at' = ra at *
        generalize hro : r.out = ro at *
        have HRA := Lib.hid (And.intro hra hro)
        clear hra hro
        rcases hcase with z1 | ⟨z1, zc⟩
        · go_wp2
          go_quiet (fail)
          go_wp2
          go_ret2
          unfold CPost
          rw [← HR2.out, HRA.out.1, HRA.out.2]
          exact ⟨fun _ => ⟨rfl, HX3.out.drewN _⟩, fun h => absurd HE0.out h, HT3.out.drewN _⟩
        · rw [zc] at c2
          go_wp2
          go_quiet (fail)
          go_wp2
          go_ret2
          unfold CPost
          rw [← HR2.out, HRA.out.1, HRA.out.2]
          exact ⟨fun _ => ⟨rfl, HX3.out.drewN _⟩, fun h => absurd HE0.out h, HT3.out.drewN _⟩
    · obtain ⟨rfl, hX3⟩ := hbd he
      rw [if_neg (fun h => he h.1)] at hR2
      have HR2 := Lib.hid hR2
      have HE0 := Lib.hid he
      have HX3 := Lib.hid hX3
      clear hg hbd hX3 hR2 he hz
      go_wp2
      try go_quiet (fail)
      try go_wp2
      go_ret2
      unfold CPost
      rw [← HR2.out]
      exact ⟨fun h => absurd h HE0.out, fun _ => ⟨rfl, by first | exact HX3.out.drewN _ | exact HX3.out⟩, by first | exact HT3.out.drewN _ | exact HT3.out⟩
  | false =>
    rw [hq] at hI
    have hG : cellG (x.s.drop x.at') x.at' = bareG (x.s.drop x.at') [] x.at' := by
      by_cases hl : x.at' < x.s.length
      · rw [isX_in hl] at hq
        rw [List.drop_eq_getElem_cons hl]
        simp only [cellG]
        rw [if_neg (by simp at hq; omega)]
      · rw [List.drop_eq_nil_of_le (by omega)]; rfl
    obtain ⟨r, hr⟩ : ∃ r, cellG (x.s.drop x.at') x.at' = r := ⟨_, rfl⟩
    rw [hr] at hR2
    rw [hr] at hG
    have HG := Lib.hid hG
    have HI := Lib.hid hI
    clear h hf hs ha hb hR hI hq hG hr
    go_enter Tryz.func38, Tryz.ntmps38
    go_wp2_with fail
    refine HI.out.mono ?_
    rintro e w1 ⟨rfl, n1, rfl⟩
    have hQ' : Calls Tryz.prog 58 #[.pointer (some ⟨t, 0, none⟩)] (w.drewN n1) (CPost (w.drewN n1) base t x lv r) := by
      rw [HG.out]; exact bare_any (w.drewN n1) base t x lv (HX.out.drewN n1) HF.out.1 HF.out.2.1 HF.out.2.2.1 HF.out.2.2.2
    have HT1 := Lib.hid ((Tch.refl base txOnly w).drewN n1)
    have HC := Lib.hid hQ'
    clear hQ'
    go_wp2_with fail
    refine HC.out.mono ?_
    rintro f w3 ⟨hg, hbd, ht⟩
    have HT3 := Lib.hid (HT1.out.trans ht)
    clear ht HC
    by_cases he : r.e = 0
    · obtain ⟨rfl, hX3⟩ := hg he
      have c1 := hX3.cells.2.1
      have c0 := hX3.cells.1
      have c2 := hX3.cells.2.2.1
      have hlt3 := hX3.blk.lt
      have HX3 := Lib.hid hX3
      clear hg hbd hX3
      simp only at c0 c1 c2
      by_cases hend : r.at' = x.s.length ∧ x.cl = false
      · obtain ⟨h1, h2⟩ := hend
        rw [if_pos ⟨he, h1, h2⟩] at hR2
        have HR2 := Lib.hid hR2
        rw [h2] at c2
        have z1 : ((r.at' : Int) == ((⟨x.s.toArray⟩ : ByteArray).size : Int)) = true := by rw [hz, h1]; simp
        have HE := Lib.hid (fun (W : World) (hW : TxAt W base t { x with at' := r.at' } lv) => bad_any W base t { x with at' := r.at' } lv 2 (r.at' : Int) hW HF.out.1)
        clear h1 h2 hR2 he hz
        generalize (⟨x.s.toArray⟩ : ByteArray) = s at *
        generalize r.at' = ra at *
        generalize r.out = ro at *
        go_wp2
        go_quiet (fail)
        go_wp2_with fail
        refine (HE.out _ (HX3.out.drewN _)).mono ?_
        rintro f w4 ⟨rfl, hX4, hT4⟩
        have HX4 := Lib.hid (And.intro hX4 ((HT3.out.drewN _).trans hT4))
        clear hX4 hT4
        go_wp2
        go_ret2
        unfold CPost
        rw [← HR2.out]
        exact ⟨fun h => absurd h (show ¬ _ by intro h'; cases h'), fun _ => ⟨rfl, HX4.out.1⟩, HX4.out.2⟩
      · rw [if_neg (fun h => hend ⟨h.2.1, h.2.2⟩)] at hR2
        have HR2 := Lib.hid hR2
        have HE0 := Lib.hid he
        have hcase : ((r.at' : Int) == ((⟨x.s.toArray⟩ : ByteArray).size : Int)) = false ∨ (((r.at' : Int) == ((⟨x.s.toArray⟩ : ByteArray).size : Int)) = true ∧ x.cl = true) := by
          by_cases h1 : r.at' = x.s.length
          · right
            refine ⟨by rw [hz, h1]; simp, ?_⟩
            cases hcl : x.cl with
            | true => rfl
            | false => exact absurd ⟨h1, hcl⟩ hend
          · left; rw [hz, beq_eq_false_iff_ne]; omega
        clear hR2 he hend hz
        generalize hsx : (⟨x.s.toArray⟩ : ByteArray) = s at *
        clear hsx
        generalize hra : r.at' = ra at *
        generalize hro : r.out = ro at *
        have HRA := Lib.hid (And.intro hra hro)
        clear hra hro
        rcases hcase with z1 | ⟨z1, zc⟩
        · go_wp2
          go_quiet (fail)
          go_wp2
          go_ret2
          unfold CPost
          rw [← HR2.out, HRA.out.1, HRA.out.2]
          exact ⟨fun _ => ⟨rfl, HX3.out.drewN _⟩, fun h => absurd HE0.out h, HT3.out.drewN _⟩
        · rw [zc] at c2
          go_wp2
          go_quiet (fail)
          go_wp2
          go_ret2
          unfold CPost
          rw [← HR2.out, HRA.out.1, HRA.out.2]
          exact ⟨fun _ => ⟨rfl, HX3.out.drewN _⟩, fun h => absurd HE0.out h, HT3.out.drewN _⟩
    · obtain ⟨rfl, hX3⟩ := hbd he
      rw [if_neg (fun h => he h.1)] at hR2
      have HR2 := Lib.hid hR2
      have HE0 := Lib.hid he
      have HX3 := Lib.hid hX3
      clear hg hbd hX3 hR2 he hz
      go_wp2
      try go_quiet (fail)
      try go_wp2
      go_ret2
      unfold CPost
      rw [← HR2.out]
      exact ⟨fun h => absurd h HE0.out, fun _ => ⟨rfl, by first | exact HX3.out.drewN _ | exact HX3.out⟩, by first | exact HT3.out.drewN _ | exact HT3.out⟩
end Go.Proofs.YtfciacigamjfkabGreat
namespace Go.Proofs.YtfciacigamjfkabGreat
open Go.RowKit Go.Maps
set_option maxRecDepth 100000
set_option linter.unusedSimpArgs false
set_option linter.unusedVariables false
set_option linter.unusedSectionVars false
variable [Tab] [Fo]

theorem bareG_at : ∀ (l out : List UInt8) (a : Nat), a ≤ (bareG l out a).at' ∧ (bareG l out a).at' ≤ a + l.length
  | [], out, a => ⟨Nat.le_refl _, Nat.le_refl _⟩
  | c :: t, out, a => by
    unfold bareG
    split
    · exact ⟨Nat.le_refl _, by simp only [List.length_cons]; omega⟩
    · split
      · exact ⟨Nat.le_refl _, by simp only [List.length_cons]; omega⟩
      · split
        · exact ⟨Nat.le_refl _, by simp only [List.length_cons]; omega⟩
        · have := bareG_at t (out ++ [c]) (a + 1)
          rw [List.length_cons]
          omega
theorem quotG_at (n : Nat) : ∀ (l out : List UInt8) (a : Nat), l.length ≤ n → a ≤ (quotG l out a).at' ∧ (quotG l out a).at' ≤ a + l.length := by
  induction n using Nat.strongRecOn with
  | _ n ih =>
    intro l out a hn
    match l with
    | [] => exact ⟨Nat.le_refl _, Nat.le_refl _⟩
    | [c] =>
      simp only [quotG]
      split
      · exact ⟨Nat.le_succ _, Nat.le_refl _⟩
      · split
        · exact ⟨Nat.le_refl _, Nat.le_succ _⟩
        · exact ⟨Nat.le_succ _, Nat.le_refl _⟩
    | c :: d :: t =>
      simp only [List.length_cons] at hn ⊢
      rw [quotG]
      split
      · split
        · split
          · simp only; omega
          · have := ih t.length (by omega) t (out ++ [d]) (a + 2) (Nat.le_refl _)
            omega
        · split
          · simp only; omega
          · simp only; omega
      · split
        · simp only; omega
        · have := ih (d :: t).length (by simp only [List.length_cons]; omega) (d :: t) (out ++ [c]) (a + 1) (Nat.le_refl _)
          simp only [List.length_cons] at this
          omega
theorem cellR_at (x : Tx) (h : x.at' ≤ x.s.length) : x.at' ≤ (cellR x).at' ∧ (cellR x).at' ≤ x.s.length := by
  have hG : x.at' ≤ (cellG (x.s.drop x.at') x.at').at' ∧ (cellG (x.s.drop x.at') x.at').at' ≤ x.s.length := by
    by_cases hl : x.at' < x.s.length
    · have hlen : (x.s.drop (x.at' + 1)).length = x.s.length - (x.at' + 1) := List.length_drop
      rw [List.drop_eq_getElem_cons hl]
      simp only [cellG]
      split
      · have := quotG_at _ (x.s.drop (x.at' + 1)) [] (x.at' + 1) (Nat.le_refl _)
        omega
      · have := bareG_at (x.s[x.at'] :: x.s.drop (x.at' + 1)) [] x.at'
        simp only [List.length_cons] at this
        omega
    · rw [List.drop_eq_nil_of_le (by omega)]
      simp only [cellG]
      exact ⟨Nat.le_refl _, h⟩
  unfold cellR endR
  split
  · exact hG
  · exact hG
/-- What reading a header leaves. -/
structure HeadR where
  ns : List (List UInt8)
  at' : Nat
  e : Int
def headF (x : Tx) : Nat → List (List UInt8) → Nat → HeadR
  | 0, ns, a => ⟨ns, a, 16⟩
  | k + 1, ns, a =>
    if (cellR { x with at' := a }).e ≠ 0 then ⟨[], (cellR { x with at' := a }).at', (cellR { x with at' := a }).e⟩
    else if (cellR { x with at' := a }).out ∈ ns then ⟨[], (cellR { x with at' := a }).at', 6⟩
    else if isX { x with at' := (cellR { x with at' := a }).at' } 44 = false then ⟨ns ++ [(cellR { x with at' := a }).out], (cellR { x with at' := a }).at' + 1, 0⟩
    else if 8 ≤ ns.length + 1 then ⟨[], (cellR { x with at' := a }).at', 16⟩
    else headF x k (ns ++ [(cellR { x with at' := a }).out]) ((cellR { x with at' := a }).at' + 1)
def HPost (w : World) (base t : Nat) (x : Tx) (lv : Value) (r : HeadR) (f : Ending) (w' : World) : Prop :=
  (r.e = 0 → ∃ nv, f = .returned (.tuple #[nv, .bool true]) ∧ ORow w' w.heap.size 9 nv (r.ns.map strV) ∧ TxAt w' base t { x with at' := r.at' } lv) ∧
  (r.e ≠ 0 → f = .returned (.tuple #[.slice none 0 0, .bool false]) ∧ TxAt w' base t (badX { x with at' := r.at' } r.e r.at') lv) ∧ Tch base txOnly w w'
def lenV : Value → Nat
  | .slice _ n _ => n
  | _ => 0

set_option maxHeartbeats 8000000 in
theorem header_any (w : World) (base t : Nat) (x : Tx) (lv : Value) (h : TxAt w base t x lv) (hf : ¬ Fo.F t) (hs : x.s.length ≤ 900) (ha : x.at' ≤ x.s.length) (hb : base ≤ w.heap.size) :
    Calls Tryz.prog 37 #[.pointer (some ⟨t, 0, none⟩)] w (HPost w base t x lv (headF x 8 [] x.at')) := by
  obtain ⟨R, hR⟩ : ∃ R, headF x 8 [] x.at' = R := ⟨_, rfl⟩
  rw [hR]
  have HLow := Lib.hid h.lows
  have start : Hid (TxAt w base t { x with at' := x.at' } lv) := Lib.hid h
  have HR := Lib.hid hR
  have HF := Lib.hid (And.intro hf (And.intro hs (And.intro ha hb)))
  clear h hR hf ha hb
  go_enter Tryz.func37, Tryz.ntmps37
  go_wp2
  go_loopw [4] (fun u wr => ∃ (k : Nat) (ns : List (List UInt8)) (a : Nat), ns.length + (k + 1) = 8 ∧ a ≤ x.s.length ∧ ORow wr w.heap.size 9 u (ns.map strV) ∧ Hid (TxAt wr base t { x with at' := a } lv) ∧ Hid (Tch base txOnly w wr) ∧ Hid (headF x (k + 1) ns a = R)) (fun u _ => 8 - lenV u)
  case atStart => exact ⟨7, [], x.at', rfl, HF.out.2.2.1, ORow.nil _ _ _, start, Lib.hid (Tch.refl _ _ _), HR⟩
  case round =>
    obtain ⟨k, ns, a, hk, hal, hown, HX, HT, HG⟩ := hrel
    have hC := cell_any wr base t { x with at' := a } lv HX.out HF.out.1 (by have := HF.out.2.1; show x.s.length ≤ 1000; omega) hal (Nat.le_trans HF.out.2.2.2 HT.out.size)
    have hat := cellR_at { x with at' := a } hal
    have hg := HG.out
    simp only [headF] at hg
    obtain ⟨r, hr⟩ : ∃ r, cellR { x with at' := a } = r := ⟨_, rfl⟩
    rw [hr] at hC hat hg
    obtain ⟨A, cp, rfl⟩ := hown.shape
    rw [List.length_map] at hown ⊢
    have HC := Lib.hid hC
    have HO := Lib.hid hown
    have HAt := Lib.hid hat
    have hbr : w.heap.size ≤ wr.heap.size := HT.out.size
    clear hC hat hr hown start
    go_wp2_with fail
    refine HC.out.mono ?_
    rintro f w3 ⟨hgd, hbd, ht⟩
    have HT3 := Lib.hid (HT.out.trans ht)
    have HO3 := Lib.hid (row_tch (base := base) (p := txOnly) HO.out ht (fun _ _ => by simp only [txOnly]; decide))
    have hb3 : w.heap.size ≤ w3.heap.size := Nat.le_trans hbr ht.size
    clear ht HC hbr
    by_cases he : r.e = 0
    case neg =>
      obtain ⟨rfl, hX3⟩ := hbd he
      rw [if_pos he] at hg
      have HG2 := Lib.hid hg
      have HE0 := Lib.hid he
      have HX3 := Lib.hid hX3
      clear hgd hbd hX3 hg he
      go_wp2
      go_ret2
      unfold HPost
      rw [← HG2.out]
      exact ⟨fun h => absurd h HE0.out, fun _ => ⟨rfl, HX3.out⟩, HT3.out⟩
    case pos =>
      obtain ⟨rfl, hX3⟩ := hgd he
      rw [if_neg (fun h => h he)] at hg
      have HX3 := Lib.hid hX3
      have hsr : SRead w3 (.slice A ns.length cp) ns := by
        have h : ORow w3 w.heap.size 9 (.slice A ns.length cp) (ns.map strV) := HO3.out
        exact h.sread
      have hH := has_any w3 (.slice A ns.length cp) ns r.out hsr (by omega)
      clear hgd hbd hX3 he hsr
      obtain ⟨Q, hQ⟩ : ∃ Q, decide (r.out ∈ ns) = Q := ⟨_, rfl⟩
      rw [hQ] at hH
      have HH := Lib.hid hH
      clear hH
      go_wp2_with fail
      refine HH.out.mono ?_
      rintro f w4 ⟨rfl, n4, rfl⟩
      have HX4 := Lib.hid (HX3.out.drewN n4)
      have HT4 := Lib.hid (HT3.out.drewN n4)
      have HO4 := Lib.hid (ORow.drewN HO3.out n4)
      have hb4 : w.heap.size ≤ (w3.drewN n4).heap.size := hb3
      clear HX3 HT3 HO3 hb3 HH
      generalize w3.drewN n4 = w4 at *
      have c1 : w4.cell? ⟨t, 1, none⟩ = some (.int .i64 (r.at' : Int)) := HX4.out.cells.2.1
      have f1 := HX4.out.blk.frozen 1
      have hl4 := HX4.out.blk.lt
      cases Q with
      | true =>
        rw [if_pos (by simpa using hQ)] at hg
        have HG2 := Lib.hid hg
        have hE := bad_any w4 base t { x with at' := r.at' } lv 6 (r.at' : Int) HX4.out HF.out.1
        have HE := Lib.hid hE
        clear hg hE hQ
        go_wp2_with fail
        refine HE.out.mono ?_
        rintro f w5 ⟨rfl, hX5, hT5⟩
        have HX5 := Lib.hid (And.intro hX5 (HT4.out.trans hT5))
        clear hX5 hT5
        go_wp2
        go_ret2
        unfold HPost
        rw [← HG2.out]
        exact ⟨fun h => absurd h (show ¬ _ by intro h'; cases h'), fun _ => ⟨rfl, HX5.out.1⟩, HX5.out.2⟩
      | false =>
        rw [if_neg (by simpa using hQ)] at hg
        have h63 : (ns.map strV).length + 1 ≤ maxLen := by simp only [maxLen, List.length_map]; omega
        have h16 : ((ns.map strV).length + 1) * 16 ≤ 140737488355328 := by simp only [List.length_map]; omega
        have HQ := Lib.hid hg
        have hlen : (ns.map strV ++ [strV r.out]).length = ns.length + 1 := by simp
        have HLen := Lib.hid hlen
        clear hg hQ hlen
        have hO4 : ORow w4 w.heap.size 9 (.slice A ns.length cp) (ns.map strV) := HO4.out
        go_wp2_with (first
          | (at_builtin; refine wp_app1b rfl _ _ 70 rfl w.heap.size 9 (.string ⟨#[]⟩) 16 Tryz.underlying70 Tryz.infoStr rfl (.slice A ns.length cp) (ns.map strV) (.string ⟨r.out.toArray⟩) rfl (by exact hO4) rfl 1 rfl h63 h16 hb4 ?_; intro v5 w5 hown5 hb5; replace hown5 : ORow w5 w.heap.size 9 v5 (ns.map strV ++ [strV r.out]) := hown5; obtain ⟨A5, c5, e5⟩ := hown5.shape; rw [HLen.out] at e5; subst e5; have hX5 : TxAt w5 base t { x with at' := r.at' } lv := TxAt.low HX4.out HLow.out hb5; have hT5 := tch_low HT4.out hb5; have hI5 := is_any w5 base t { x with at' := r.at' } lv 44 hX5 (by have := HF.out.2.1; show x.s.length ≤ 1000; omega) (by have := HF.out.2.1; have h1 : r.at' ≤ x.s.length := HAt.out.2; show r.at' ≤ 1000; omega); have HI5 := Lib.hid hI5; have HX5 := Lib.hid (And.intro hX5 (And.intro hT5 hown5)); clear hX5 hT5 hI5 hown5 hb5))
        refine HI5.out.mono ?_
        rintro f w6 ⟨rfl, n6, rfl⟩
        have HX6 := Lib.hid (HX5.out.1.drewN n6)
        have HT6 := Lib.hid (HX5.out.2.1.drewN n6)
        have HO6 := Lib.hid (ORow.drewN HX5.out.2.2 n6)
        clear HX5 HI5 hO4 HO4 HX4 HT4 c1 f1 hl4
        generalize w5.drewN n6 = w6 at *
        have d1 : w6.cell? ⟨t, 1, none⟩ = some (.int .i64 (r.at' : Int)) := HX6.out.cells.2.1
        have df := HX6.out.blk.frozen 1
        have dl := HX6.out.blk.lt
        have hra : r.at' ≤ 1000 := by have := HF.out.2.1; have h1 : r.at' ≤ x.s.length := HAt.out.2; omega
        have HS := Lib.hid (tx_step HX6.out HF.out.1 r.at' rfl)
        obtain ⟨q, hq⟩ : ∃ q, isX { x with at' := r.at' } 44 = q := ⟨_, rfl⟩
        rw [hq]
        have hg := HQ.out
        cases q with
        | false =>
          rw [if_pos hq] at hg
          have HG2 := Lib.hid hg
          clear hg hq
          go_wp2
          go_ret2
          unfold HPost
          rw [← HG2.out]
          refine ⟨fun _ => ⟨_, rfl, ?_, HS.out.1⟩, fun h => absurd rfl h, HT6.out.trans HS.out.2⟩
          rw [List.map_append]
          exact row_tch (base := base) (p := txOnly) HO6.out HS.out.2 (fun _ _ => by simp only [txOnly]; decide)
        | true =>
          rw [if_neg (by rw [hq]; decide)] at hg
          have HXl : Hid (r.at' < x.s.length) := Lib.hid (by obtain ⟨hx, _⟩ := isX_true hq; exact hx)
          by_cases h8 : 8 ≤ ns.length + 1
          · rw [if_pos h8] at hg
            have z8 : decide ((8 : Int) ≤ ((ns.length + 1 : Nat) : Int)) = true := by simp; omega
            have z8' : decide ((8 : Int) ≤ (ns.length : Int) + 1) = true := by simp; omega
            have HG2 := Lib.hid hg
            have hE := bad_any w6 base t { x with at' := r.at' } lv 16 (r.at' : Int) HX6.out HF.out.1
            have HE := Lib.hid hE
            clear hg hE hq
            go_wp2_with fail
            refine HE.out.mono ?_
            rintro f w7 ⟨rfl, hX7, hT7⟩
            have HX7 := Lib.hid (And.intro hX7 (HT6.out.trans hT7))
            clear hX7 hT7
            go_wp2
            go_ret2
            unfold HPost
            rw [← HG2.out]
            exact ⟨fun h => absurd h (show ¬ _ by intro h'; cases h'), fun _ => ⟨rfl, HX7.out.1⟩, HX7.out.2⟩
          · rw [if_neg h8] at hg
            have z8 : decide ((8 : Int) ≤ ((ns.length + 1 : Nat) : Int)) = false := by simp; omega
            have z8' : decide ((8 : Int) ≤ (ns.length : Int) + 1) = false := by simp; omega
            have HG2 := Lib.hid hg
            clear hg hq
            go_wp2
            go_roundw
            case rel =>
              obtain ⟨k', hk'⟩ : ∃ k', k = k' + 1 := ⟨k - 1, by omega⟩
              refine ⟨k', ns ++ [r.out], r.at' + 1, by simp; omega, HXl.out, ?_, Lib.hid HS.out.1, Lib.hid (HT6.out.trans HS.out.2), Lib.hid (by rw [← hk']; exact HG2.out)⟩
              rw [List.map_append]
              exact row_tch (base := base) (p := txOnly) HO6.out HS.out.2 (fun _ _ => by simp only [txOnly]; decide)
            case measure => simp only [lenV]; omega
end Go.Proofs.YtfciacigamjfkabGreat

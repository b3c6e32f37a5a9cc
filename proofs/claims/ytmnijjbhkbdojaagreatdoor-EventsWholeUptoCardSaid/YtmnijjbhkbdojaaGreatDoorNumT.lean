/-
  A normal form is read as itself; what follows for the order.
-/
import Derived.Test.YtmnijjbhkbdojaaGreatDoorNumS
namespace Go.Proofs.YtmnijjbhkbdojaaGreatDoor.Nm

theorem allD_dig {l : List UInt8} (h : isB l = true) : (allD l).all dig = true := by
  obtain ⟨pt, et, hs⟩ := shape_of h
  unfold allD
  rw [List.all_append, hs.whole, hs.part]
  rfl
theorem dw_head (l : List UInt8) (c : UInt8) : (l.dropWhile (· == c)).head? ≠ some c := by
  induction l with
  | nil => simp
  | cons b l ih =>
    rw [List.dropWhile_cons]
    by_cases h : b = c
    · simp [h]; simpa using ih
    · have : (b == c) = false := by simpa using h
      rw [this]
      simpa using h
theorem trimR_last (l : List UInt8) (c : UInt8) : (Lib.trimRightB l c).getLast? ≠ some c := by
  unfold Lib.trimRightB
  rw [List.getLast?_reverse]
  exact dw_head _ _
theorem trimL_last (l : List UInt8) (c : UInt8) (h : l.getLast? ≠ some c) : (Lib.trimLeftB l c).getLast? ≠ some c := by
  unfold Lib.trimLeftB
  have hs := List.dropWhile_suffix (l := l) (· == c)
  obtain ⟨t, ht⟩ := hs
  generalize l.dropWhile (· == c) = d at *
  cases d with
  | nil => simp
  | cons x d =>
    rw [← ht, List.getLast?_append] at h
    simpa using h
theorem all_sub {l r : List UInt8} (h : l.all dig = true) (hr : ∀ x ∈ r, x ∈ l) : r.all dig = true :=
  List.all_eq_true.2 fun x hx => List.all_eq_true.1 h x (hr x hx)
theorem digs_can {l : List UInt8} (h : isB l = true) : (digsD l).head? ≠ some 48 ∧ (digsD l).getLast? ≠ some 48 ∧ (digsD l).all dig = true := by
  refine ⟨dw_head _ _, trimL_last _ _ (trimR_last _ _), all_sub (allD_dig h) fun x hx => ?_⟩
  have h1 : x ∈ rightD l := (List.dropWhile_suffix _).sublist.subset hx
  unfold rightD Lib.trimRightB at h1
  have h2 := (List.dropWhile_suffix _).sublist.subset (List.mem_reverse.1 h1)
  simpa using h2
theorem can_of {l : List UInt8} {v : Val} (h : readL l = some v) : CanV v := by
  unfold readL readE at h
  split at h
  · rename_i hc
    split at h
    · injection h with h
      have hd := digs_can hc.1
      rw [← h]
      unfold valE
      split
      · exact ⟨fun _ => ⟨rfl, rfl⟩, by simp, by simp, rfl⟩
      · rename_i hne
        exact ⟨fun hcc => absurd hcc hne, hd.1, hd.2.1, hd.2.2⟩
    · cases h
  · cases h
theorem ok_of {l : List UInt8} {v : Val} (h : readL l = some v) : okV v = true := by
  unfold readL readE at h
  split at h
  · split at h
    · rename_i hk
      injection h with h
      rw [← h]
      exact hk
    · cases h
  · cases h

/-! Numerals. -/
theorem decN_snoc (acc : Nat) (l : List UInt8) (b : UInt8) : decN acc (l ++ [b]) = 10 * decN acc l + (b.toNat - 48) := by
  induction l generalizing acc with
  | nil => rw [List.nil_append, decN_cons, decN_nil, decN_nil]
  | cons c l ih => rw [List.cons_append, decN_cons, ih, decN_cons]
theorem digit_ofNat (n : Nat) (h : n < 10) : (UInt8.ofNat (48 + n)).toNat = 48 + n := UInt8.toNat_ofNat_of_lt' (show 48 + n < 256 by omega)
theorem decDigits_ok (u : Nat) : decN 0 (Lib.decDigits u) = u ∧ (Lib.decDigits u).all dig = true ∧ Lib.decDigits u ≠ [] := by
  induction u using Nat.strongRecOn with
  | _ u ih =>
    by_cases h : u < 10
    · rw [Lib.decDigits, dif_pos h]
      refine ⟨?_, ?_, by simp⟩
      · rw [decN_cons, decN_nil, digit_ofNat u h]; omega
      · rw [List.all_cons, (dig_iff _).2 (by rw [digit_ofNat u h]; omega)]; rfl
    · have i := ih (u / 10) (by omega)
      rw [Lib.decDigits, dif_neg h]
      refine ⟨?_, ?_, by simp⟩
      · rw [decN_snoc, i.1, digit_ofNat (u % 10) (by omega)]; omega
      · rw [List.all_append, i.2.1, List.all_cons, (dig_iff _).2 (by rw [digit_ofNat (u % 10) (by omega)]; omega)]; rfl
theorem sgn_digits {l : List UInt8} (h : l.all dig = true) : sgn l = l := by
  cases l with
  | nil => rfl
  | cons b l =>
    rw [List.all_cons, Bool.and_eq_true] at h
    have := dig_range h.1
    unfold sgn
    have hp : ¬ (isPM b = true) := by rw [isPM_iff]; omega
    simp only [hp]
    rfl
theorem neg_digits {l : List UInt8} (h : l.all dig = true) : negL l = false := by
  cases l with
  | nil => rfl
  | cons b l =>
    rw [List.all_cons, Bool.and_eq_true] at h
    have := dig_range h.1
    exact decide_eq_false (by omega)
theorem itoa_ok (p : Int) : sgn (Lib.itoa p) ≠ [] ∧ (sgn (Lib.itoa p)).all dig = true ∧ eexp (Lib.itoa p) = p := by
  unfold Lib.itoa
  by_cases h : p < 0
  · rw [if_pos h]
    have d := decDigits_ok p.natAbs
    have e1 : sgn (45 :: Lib.decDigits p.natAbs) = Lib.decDigits p.natAbs := rfl
    refine ⟨by rw [e1]; exact d.2.2, by rw [e1]; exact d.2.1, ?_⟩
    unfold eexp
    rw [e1, d.1, show negL (45 :: Lib.decDigits p.natAbs) = true from rfl, if_pos rfl]
    omega
  · rw [if_neg h]
    have d := decDigits_ok p.toNat
    have e1 := sgn_digits d.2.1
    refine ⟨by rw [e1]; exact d.2.2, by rw [e1]; exact d.2.1, ?_⟩
    unfold eexp
    rw [e1, d.1, neg_digits d.2.1, if_neg (by decide)]
    omega

/-! The parts of a normal form. -/
theorem tw_app {D r : List UInt8} (h : D.all dig = true) (hr : ∀ b t, r = b :: t → dig b = false) : (D ++ r).takeWhile dig = D ∧ (D ++ r).dropWhile dig = r := by
  induction D with
  | nil =>
    cases r with
    | nil => exact ⟨rfl, rfl⟩
    | cons b t =>
      have := hr b t rfl
      rw [List.nil_append, List.takeWhile_cons, List.dropWhile_cons, this]
      exact ⟨rfl, rfl⟩
  | cons d D ih =>
    rw [List.all_cons, Bool.and_eq_true] at h
    rw [List.cons_append, List.takeWhile_cons, List.dropWhile_cons, h.1, if_pos rfl, if_pos rfl, (ih h.2).1, (ih h.2).2]
    exact ⟨rfl, rfl⟩
theorem tailI_cases (p : Int) : (p = 0 ∧ tailI p = []) ∨ (p ≠ 0 ∧ tailI p = 101 :: Lib.itoa p) := by
  unfold tailI
  by_cases h : p = 0
  · rw [if_pos h]; exact .inl ⟨h, rfl⟩
  · rw [if_neg h]; exact .inr ⟨h, rfl⟩
theorem parts_form {v : Val} (hc : CanV v) (hd : v.digs ≠ []) :
    negL (formL v) = v.neg ∧ parts (formL v) = ⟨v.digs, [], if v.pow = 0 then [] else Lib.itoa v.pow, true, true⟩ := by
  obtain ⟨n, D, p⟩ := v
  obtain ⟨_, h1, h2, h3⟩ := hc
  simp only at *
  have hf : formL ⟨n, D, p⟩ = (if n then [45] else []) ++ (D ++ tailI p) := by unfold formL; rw [if_neg hd]; simp
  have hneg : negL (formL ⟨n, D, p⟩) = n ∧ unsigned (formL ⟨n, D, p⟩) = D ++ tailI p := by
    rw [hf]
    cases n
    · have hx : negL (D ++ tailI p) = false := by
        cases D with
        | nil => exact absurd rfl hd
        | cons b D =>
          rw [List.all_cons, Bool.and_eq_true] at h3
          have := dig_range h3.1
          exact decide_eq_false (by omega)
      refine ⟨hx, ?_⟩
      unfold unsigned
      simp only [Bool.false_eq_true, if_false, List.nil_append]
      rw [hx]
      rfl
    · exact ⟨rfl, rfl⟩
  refine ⟨hneg.1, ?_⟩
  unfold parts
  rw [hneg.2]
  have htw := tw_app (D := D) (r := tailI p) h3 (by
    intro b t e
    rcases tailI_cases p with ⟨_, h⟩ | ⟨_, h⟩
    · rw [h] at e; cases e
    · rw [h] at e; injection e with e _; subst e; decide)
  unfold partsU
  rw [htw.1, htw.2, if_neg (fun h => hd h.2), if_neg (fun h => h1 h.2)]
  rcases tailI_cases p with ⟨h, e⟩ | ⟨h, e⟩
  · rw [e, if_pos h]
    unfold partsW
    rw [decide_eq_true hd]
  · rw [e, if_neg h]
    have i := itoa_ok p
    have e1 : partsW D (101 :: Lib.itoa p) = partsE D [] (Lib.itoa p) := by
      simp only [partsW, partsX]
      rw [if_neg (by decide), if_pos (by decide)]
    rw [e1]
    unfold partsE
    rw [if_pos i.2.1, decide_eq_true i.1]
theorem trimR_same {l : List UInt8} {c : UInt8} (h : l.getLast? ≠ some c) : Lib.trimRightB l c = l := by
  unfold Lib.trimRightB
  have h2 : l.reverse.head? ≠ some c := by rwa [List.head?_reverse]
  have : l.reverse.dropWhile (· == c) = l.reverse := by
    generalize l.reverse = r at *
    cases r with
    | nil => rfl
    | cons b r =>
      have hb : (b == c) = false := by simpa using h2
      rw [List.dropWhile_cons, hb]
      rfl
  rw [this, List.reverse_reverse]
theorem trimL_same {l : List UInt8} {c : UInt8} (h : l.head? ≠ some c) : Lib.trimLeftB l c = l := by
  unfold Lib.trimLeftB
  cases l with
  | nil => rfl
  | cons b r =>
    have hb : (b == c) = false := by simpa using h
    rw [List.dropWhile_cons, hb]
    rfl
/-- A normal form is read as the value that it is the form of. -/
theorem read_form {v : Val} (hc : CanV v) (hk : okV v = true) : readL (formL v) = some v := by
  by_cases hd : v.digs = []
  · have h0 := hc.1 hd
    obtain ⟨n, D, p⟩ := v
    simp only at hd h0
    obtain ⟨rfl, rfl⟩ := h0
    subst hd
    decide +kernel
  · obtain ⟨h1, h2⟩ := parts_form hc hd
    have his : isB (formL v) = true := by rw [← parts_is, h2]
    have hlen : (formL v).length ≤ 30 := (of_decide_eq_true hk).2.2
    have hall : allD (formL v) = v.digs := by unfold allD; rw [h2]; simp
    have hr : rightD (formL v) = v.digs := by unfold rightD; rw [hall]; exact trimR_same hc.2.2.1
    have hdg : digsD (formL v) = v.digs := by unfold digsD; rw [hr]; exact trimL_same hc.2.1
    have hexp : eexp (parts (formL v)).tail = v.pow := by
      rw [h2]
      simp only
      by_cases hz : v.pow = 0
      · rw [if_pos hz, hz]; decide
      · rw [if_neg hz]; exact (itoa_ok _).2.2
    have hval : valE (formL v) (eexp (parts (formL v)).tail) = v := by
      unfold valE
      rw [hdg, if_neg hd, h1]
      have : powD (formL v) (eexp (parts (formL v)).tail) = v.pow := by
        unfold powD
        rw [hall, hr, hexp, h2]
        simp
      rw [this]
    unfold readL readE
    rw [if_pos ⟨his, hlen⟩, hval, hk]
    rfl
theorem form_is {v : Val} (hc : CanV v) (hk : okV v = true) : isB (formL v) = true := by
  have h := read_form hc hk
  unfold readL readE at h
  split at h
  · rename_i h2; exact h2.1
  · cases h
theorem form_inj {x y : Val} (hx : CanV x) (kx : okV x = true) (hy : CanV y) (ky : okV y = true) : formL x = formL y ↔ x = y := by
  constructor
  · intro h
    have a := read_form hx kx
    rw [h, read_form hy ky] at a
    injection a with a
    exact a.symm
  · intro h; rw [h]
theorem cmp_form {x y : Val} (hx : CanV x) (kx : okV x = true) (hy : CanV y) (ky : okV y = true) : cmpV x y = 0 ↔ formL x = formL y := by
  rw [form_inj hx kx hy ky]
  constructor
  · exact cmpV_zero hx hy
  · intro h; rw [h]; exact cmpV_self y
end Go.Proofs.YtmnijjbhkbdojaaGreatDoor.Nm

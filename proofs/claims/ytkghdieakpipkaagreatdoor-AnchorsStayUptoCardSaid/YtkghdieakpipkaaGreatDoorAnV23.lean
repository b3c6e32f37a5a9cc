/-
  A normal form is read as itself; what follows for the order.
  The reference's digits and Form: their contracts.
  The reference's Form: its contract.
-/
import Derived.Test.YtkghdieakpipkaaGreatDoorAnV08
import Derived.Test.YtkghdieakpipkaaGreatDoorAnV09
import Derived.Test.YtkghdieakpipkaaGreatDoorAnV05
import Derived.Stop.LaidErr
namespace Go.Proofs.YtkghdieakpipkaaGreatDoor.Nm

theorem allD_dig {l : List UInt8} (h : isB l = true) : (allD l).all dig = true := by
  obtain ⟨pt, et, hs⟩ := shape_of h
  unfold allD
  rw [List.all_append, hs.whole, hs.part]
  rfl
theorem dw_head (l : List UInt8) (c : UInt8) : (l.dropWhile (· == c)).head? ≠ some c := by
  induction l with
  | nil => simp
  | cons b l ih =>
    rw [List.dropWhile_cons]
    by_cases h : b = c
    · simp [h]; simpa using ih
    · have : (b == c) = false := by simpa using h
      rw [this]
      simpa using h
theorem trimR_last (l : List UInt8) (c : UInt8) : (Lib.trimRightB l c).getLast? ≠ some c := by
  unfold Lib.trimRightB
  rw [List.getLast?_reverse]
  exact dw_head _ _
theorem trimL_last (l : List UInt8) (c : UInt8) (h : l.getLast? ≠ some c) : (Lib.trimLeftB l c).getLast? ≠ some c := by
  unfold Lib.trimLeftB
  have hs := List.dropWhile_suffix (l := l) (· == c)
  obtain ⟨t, ht⟩ := hs
  generalize l.dropWhile (· == c) = d at *
  cases d with
  | nil => simp
  | cons x d =>
    rw [← ht, List.getLast?_append] at h
    simpa using h
theorem all_sub {l r : List UInt8} (h : l.all dig = true) (hr : ∀ x ∈ r, x ∈ l) : r.all dig = true :=
  List.all_eq_true.2 fun x hx => List.all_eq_true.1 h x (hr x hx)
theorem digs_can {l : List UInt8} (h : isB l = true) : (digsD l).head? ≠ some 48 ∧ (digsD l).getLast? ≠ some 48 ∧ (digsD l).all dig = true := by
  refine ⟨dw_head _ _, trimL_last _ _ (trimR_last _ _), all_sub (allD_dig h) fun x hx => ?_⟩
  have h1 : x ∈ rightD l := (List.dropWhile_suffix _).sublist.subset hx
  unfold rightD Lib.trimRightB at h1
  have h2 := (List.dropWhile_suffix _).sublist.subset (List.mem_reverse.1 h1)
  simpa using h2
theorem can_of {l : List UInt8} {v : Val} (h : readL l = some v) : CanV v := by
  unfold readL readE at h
  split at h
  · rename_i hc
    split at h
    · injection h with h
      have hd := digs_can hc.1
      rw [← h]
      unfold valE
      split
      · exact ⟨fun _ => ⟨rfl, rfl⟩, by simp, by simp, rfl⟩
      · rename_i hne
        exact ⟨fun hcc => absurd hcc hne, hd.1, hd.2.1, hd.2.2⟩
    · cases h
  · cases h
theorem ok_of {l : List UInt8} {v : Val} (h : readL l = some v) : okV v = true := by
  unfold readL readE at h
  split at h
  · split at h
    · rename_i hk
      injection h with h
      rw [← h]
      exact hk
    · cases h
  · cases h

/-! Numerals. -/
theorem decN_snoc (acc : Nat) (l : List UInt8) (b : UInt8) : decN acc (l ++ [b]) = 10 * decN acc l + (b.toNat - 48) := by
  induction l generalizing acc with
  | nil => rw [List.nil_append, decN_cons, decN_nil, decN_nil]
  | cons c l ih => rw [List.cons_append, decN_cons, ih, decN_cons]
theorem digit_ofNat (n : Nat) (h : n < 10) : (UInt8.ofNat (48 + n)).toNat = 48 + n := UInt8.toNat_ofNat_of_lt' (show 48 + n < 256 by omega)
theorem decDigits_ok (u : Nat) : decN 0 (Lib.decDigits u) = u ∧ (Lib.decDigits u).all dig = true ∧ Lib.decDigits u ≠ [] := by
  induction u using Nat.strongRecOn with
  | _ u ih =>
    by_cases h : u < 10
    · rw [Lib.decDigits, dif_pos h]
      refine ⟨?_, ?_, by simp⟩
      · rw [decN_cons, decN_nil, digit_ofNat u h]; omega
      · rw [List.all_cons, (dig_iff _).2 (by rw [digit_ofNat u h]; omega)]; rfl
    · have i := ih (u / 10) (by omega)
      rw [Lib.decDigits, dif_neg h]
      refine ⟨?_, ?_, by simp⟩
      · rw [decN_snoc, i.1, digit_ofNat (u % 10) (by omega)]; omega
      · rw [List.all_append, i.2.1, List.all_cons, (dig_iff _).2 (by rw [digit_ofNat (u % 10) (by omega)]; omega)]; rfl
theorem sgn_digits {l : List UInt8} (h : l.all dig = true) : sgn l = l := by
  cases l with
  | nil => rfl
  | cons b l =>
    rw [List.all_cons, Bool.and_eq_true] at h
    have := dig_range h.1
    unfold sgn
    have hp : ¬ (isPM b = true) := by rw [isPM_iff]; omega
    simp only [hp]
    rfl
theorem neg_digits {l : List UInt8} (h : l.all dig = true) : negL l = false := by
  cases l with
  | nil => rfl
  | cons b l =>
    rw [List.all_cons, Bool.and_eq_true] at h
    have := dig_range h.1
    exact decide_eq_false (by omega)
theorem itoa_ok (p : Int) : sgn (Lib.itoa p) ≠ [] ∧ (sgn (Lib.itoa p)).all dig = true ∧ eexp (Lib.itoa p) = p := by
  unfold Lib.itoa
  by_cases h : p < 0
  · rw [if_pos h]
    have d := decDigits_ok p.natAbs
    have e1 : sgn (45 :: Lib.decDigits p.natAbs) = Lib.decDigits p.natAbs := rfl
    refine ⟨by rw [e1]; exact d.2.2, by rw [e1]; exact d.2.1, ?_⟩
    unfold eexp
    rw [e1, d.1, show negL (45 :: Lib.decDigits p.natAbs) = true from rfl, if_pos rfl]
    omega
  · rw [if_neg h]
    have d := decDigits_ok p.toNat
    have e1 := sgn_digits d.2.1
    refine ⟨by rw [e1]; exact d.2.2, by rw [e1]; exact d.2.1, ?_⟩
    unfold eexp
    rw [e1, d.1, neg_digits d.2.1, if_neg (by decide)]
    omega

/-! The parts of a normal form. -/
theorem tw_app {D r : List UInt8} (h : D.all dig = true) (hr : ∀ b t, r = b :: t → dig b = false) : (D ++ r).takeWhile dig = D ∧ (D ++ r).dropWhile dig = r := by
  induction D with
  | nil =>
    cases r with
    | nil => exact ⟨rfl, rfl⟩
    | cons b t =>
      have := hr b t rfl
      rw [List.nil_append, List.takeWhile_cons, List.dropWhile_cons, this]
      exact ⟨rfl, rfl⟩
  | cons d D ih =>
    rw [List.all_cons, Bool.and_eq_true] at h
    rw [List.cons_append, List.takeWhile_cons, List.dropWhile_cons, h.1, if_pos rfl, if_pos rfl, (ih h.2).1, (ih h.2).2]
    exact ⟨rfl, rfl⟩
theorem tailI_cases (p : Int) : (p = 0 ∧ tailI p = []) ∨ (p ≠ 0 ∧ tailI p = 101 :: Lib.itoa p) := by
  unfold tailI
  by_cases h : p = 0
  · rw [if_pos h]; exact .inl ⟨h, rfl⟩
  · rw [if_neg h]; exact .inr ⟨h, rfl⟩
theorem parts_form {v : Val} (hc : CanV v) (hd : v.digs ≠ []) :
    negL (formL v) = v.neg ∧ parts (formL v) = ⟨v.digs, [], if v.pow = 0 then [] else Lib.itoa v.pow, true, true⟩ := by
  obtain ⟨n, D, p⟩ := v
  obtain ⟨_, h1, h2, h3⟩ := hc
  simp only at *
  have hf : formL ⟨n, D, p⟩ = (if n then [45] else []) ++ (D ++ tailI p) := by unfold formL; rw [if_neg hd]; simp
  have hneg : negL (formL ⟨n, D, p⟩) = n ∧ unsigned (formL ⟨n, D, p⟩) = D ++ tailI p := by
    rw [hf]
    cases n
    · have hx : negL (D ++ tailI p) = false := by
        cases D with
        | nil => exact absurd rfl hd
        | cons b D =>
          rw [List.all_cons, Bool.and_eq_true] at h3
          have := dig_range h3.1
          exact decide_eq_false (by omega)
      refine ⟨hx, ?_⟩
      unfold unsigned
      simp only [Bool.false_eq_true, if_false, List.nil_append]
      rw [hx]
      rfl
    · exact ⟨rfl, rfl⟩
  refine ⟨hneg.1, ?_⟩
  unfold parts
  rw [hneg.2]
  have htw := tw_app (D := D) (r := tailI p) h3 (by
    intro b t e
    rcases tailI_cases p with ⟨_, h⟩ | ⟨_, h⟩
    · rw [h] at e; cases e
    · rw [h] at e; injection e with e _; subst e; decide)
  unfold partsU
  rw [htw.1, htw.2, if_neg (fun h => hd h.2), if_neg (fun h => h1 h.2)]
  rcases tailI_cases p with ⟨h, e⟩ | ⟨h, e⟩
  · rw [e, if_pos h]
    unfold partsW
    rw [decide_eq_true hd]
  · rw [e, if_neg h]
    have i := itoa_ok p
    have e1 : partsW D (101 :: Lib.itoa p) = partsE D [] (Lib.itoa p) := by
      simp only [partsW, partsX]
      rw [if_neg (by decide), if_pos (by decide)]
    rw [e1]
    unfold partsE
    rw [if_pos i.2.1, decide_eq_true i.1]
theorem trimR_same {l : List UInt8} {c : UInt8} (h : l.getLast? ≠ some c) : Lib.trimRightB l c = l := by
  unfold Lib.trimRightB
  have h2 : l.reverse.head? ≠ some c := by rwa [List.head?_reverse]
  have : l.reverse.dropWhile (· == c) = l.reverse := by
    generalize l.reverse = r at *
    cases r with
    | nil => rfl
    | cons b r =>
      have hb : (b == c) = false := by simpa using h2
      rw [List.dropWhile_cons, hb]
      rfl
  rw [this, List.reverse_reverse]
theorem trimL_same {l : List UInt8} {c : UInt8} (h : l.head? ≠ some c) : Lib.trimLeftB l c = l := by
  unfold Lib.trimLeftB
  cases l with
  | nil => rfl
  | cons b r =>
    have hb : (b == c) = false := by simpa using h
    rw [List.dropWhile_cons, hb]
    rfl
/-- A normal form is read as the value that it is the form of. -/
theorem read_form {v : Val} (hc : CanV v) (hk : okV v = true) : readL (formL v) = some v := by
  by_cases hd : v.digs = []
  · have h0 := hc.1 hd
    obtain ⟨n, D, p⟩ := v
    simp only at hd h0
    obtain ⟨rfl, rfl⟩ := h0
    subst hd
    decide +kernel
  · obtain ⟨h1, h2⟩ := parts_form hc hd
    have his : isB (formL v) = true := by rw [← parts_is, h2]
    have hlen : (formL v).length ≤ 30 := (of_decide_eq_true hk).2.2
    have hall : allD (formL v) = v.digs := by unfold allD; rw [h2]; simp
    have hr : rightD (formL v) = v.digs := by unfold rightD; rw [hall]; exact trimR_same hc.2.2.1
    have hdg : digsD (formL v) = v.digs := by unfold digsD; rw [hr]; exact trimL_same hc.2.1
    have hexp : eexp (parts (formL v)).tail = v.pow := by
      rw [h2]
      simp only
      by_cases hz : v.pow = 0
      · rw [if_pos hz, hz]; decide
      · rw [if_neg hz]; exact (itoa_ok _).2.2
    have hval : valE (formL v) (eexp (parts (formL v)).tail) = v := by
      unfold valE
      rw [hdg, if_neg hd, h1]
      have : powD (formL v) (eexp (parts (formL v)).tail) = v.pow := by
        unfold powD
        rw [hall, hr, hexp, h2]
        simp
      rw [this]
    unfold readL readE
    rw [if_pos ⟨his, hlen⟩, hval, hk]
    rfl
theorem form_is {v : Val} (hc : CanV v) (hk : okV v = true) : isB (formL v) = true := by
  have h := read_form hc hk
  unfold readL readE at h
  split at h
  · rename_i h2; exact h2.1
  · cases h
theorem form_inj {x y : Val} (hx : CanV x) (kx : okV x = true) (hy : CanV y) (ky : okV y = true) : formL x = formL y ↔ x = y := by
  constructor
  · intro h
    have a := read_form hx kx
    rw [h, read_form hy ky] at a
    injection a with a
    exact a.symm
  · intro h; rw [h]
theorem cmp_form {x y : Val} (hx : CanV x) (kx : okV x = true) (hy : CanV y) (ky : okV y = true) : cmpV x y = 0 ↔ formL x = formL y := by
  rw [form_inj hx kx hy ky]
  constructor
  · exact cmpV_zero hx hy
  · intro h; rw [h]; exact cmpV_self y
end Go.Proofs.YtkghdieakpipkaaGreatDoor.Nm
namespace Go.Proofs.YtkghdieakpipkaaGreatDoor.Nm
open Go.RowKit
set_option maxRecDepth 100000

theorem size_of (l : List UInt8) : (⟨l.toArray⟩ : ByteArray).size = l.length := by simp [ByteArray.size]
def strSize : Value → Nat | .string s => s.size | _ => 0
/-- What digits has laid before l. -/
def preD (u : Nat) (l : List UInt8) : List UInt8 := if u = 0 ∧ l ≠ [] then l else Lib.decDigits u ++ l
theorem preD_step (u : Nat) (l : List UInt8) (h : 0 < u ∨ l = []) : preD u l = preD (u / 10) (UInt8.ofNat (48 + u % 10) :: l) := by
  unfold preD
  rw [if_neg (by rintro ⟨h1, h2⟩; rcases h with h | h; omega; exact h2 h)]
  by_cases hu : u < 10
  · rw [if_pos ⟨by omega, by simp⟩, Lib.decDigits, dif_pos hu, Nat.mod_eq_of_lt hu]
    rfl
  · rw [if_neg (by rintro ⟨h1, _⟩; omega), Lib.decDigits, dif_neg hu]
    simp

theorem one_app (a : UInt8) (l : List UInt8) : (⟨#[a]⟩ ++ ⟨l.toArray⟩ : ByteArray) = ⟨(a :: l).toArray⟩ := by
  apply ByteArray.ext
  simp [ByteArray.data_append]
theorem ofNat_48 (k : Nat) : 48 + UInt8.ofNat k = UInt8.ofNat (48 + k) := by
  rw [UInt8.ofNat_add]
  rfl
theorem app_48 (k : Nat) (l : List UInt8) : (⟨#[48 + UInt8.ofNat k]⟩ ++ ⟨l.toArray⟩ : ByteArray) = ⟨(UInt8.ofNat (48 + k) :: l).toArray⟩ := by
  rw [ofNat_48, one_app]

set_option maxHeartbeats 1000000 in
theorem rdigits_any (N : Nat) (i : Int) (hi : i = (N : Int)) (w : World) (hN : N ≤ 4611686018427387904) :
    Calls Tryz.prog 105 #[.int .i64 i] w fun e w' => e = .returned (.string ⟨(Lib.decDigits N).toArray⟩) ∧ Below w.heap.size w w' := by
  subst hi
  go_enter Tryz.func105, Tryz.ntmps105
  go_wp2
  go_loopw [0, 3] (fun n o wr => ∃ (u : Nat) (l : List UInt8), n = .int .i64 u ∧ o = .string ⟨l.toArray⟩ ∧ u ≤ N ∧ l.length + u ≤ N + 1 ∧ Below w.heap.size w wr ∧ Hid (Lib.decDigits N = preD u l)) (fun n o _ => 2 * (intOf n).toNat + (1 - strSize o))
  case atStart => exact ⟨N, [], rfl, rfl, Nat.le_refl _, by simp, Below.refl _ _, Lib.hid (by unfold preD; simp)⟩
  case round =>
    obtain ⟨u, l, rfl, rfl, hu, hlu, hb, HP⟩ := hrel
    have hlen := size_of l
    have hl1 : l.length ≤ N + 1 := by omega
    have hsz : (⟨l.toArray⟩ : ByteArray).size ≤ N + 1 := by omega
    by_cases hc : 0 < u ∨ l = []
    · have hst := preD_step u l hc
      have HS := Lib.hid hst
      have hd0 : 0 ≤ (u : Int) % 10 := by omega
      have hd1 : (u : Int) % 10 < 10 := by omega
      have hrow : ORow (wr.alloc (.cells #[.int .u8 (48 + (u : Int) % 10)] 5)) wr.heap.size 5 (.slice (some ⟨wr.heap.size, 0, none⟩) 1 1) ([UInt8.ofNat (48 + u % 10)].map bV) := by
        have e : ([UInt8.ofNat (48 + u % 10)].map bV) = [.int .u8 (48 + (u : Int) % 10)] := by
          simp only [List.map_cons, List.map_nil, bV]
          rw [digit_ofNat (u % 10) (by omega)]
          push_cast
          rfl
        rw [e]
        exact ORow.lit wr _ _ _ (Nat.le_refl _) (by simp [maxLen])
      have hstr := put_str _ hrow
      have hbs := hb.size
      clear hst hrow
      by_cases hu0 : 0 < u
      · have hc2 : 0 < (u : Int) := by omega
        have hnil : ¬ ((⟨l.toArray⟩ : ByteArray).size < 0) := by omega
        clear hc
        go_wp2
        refine ⟨⟨u / 10, UInt8.ofNat (48 + u % 10) :: l, by go_num, by rw [app_48], by omega, by simp; omega, hb.alloc hbs _, Lib.hid (HP.out.trans HS.out)⟩, ?_⟩
        simp [intOf, strSize] <;> omega
      · have hl : l = [] := by
          rcases hc with hc | hc
          · exact absurd hc hu0
          · exact hc
        subst hl
        have hz : u = 0 := by omega
        have hrow0 : ORow (wr.alloc (.cells #[.int .u8 48] 5)) wr.heap.size 5 (.slice (some ⟨wr.heap.size, 0, none⟩) 1 1) ([48].map bV) := ORow.lit wr _ _ #[.int .u8 48] (Nat.le_refl _) (by simp [maxLen])
        clear hstr
        have hstr := put_str _ hrow0
        subst hz
        clear hc hrow0
        go_wp2
        refine ⟨⟨0, [48], by go_num, rfl, by omega, by simp, hb.alloc hbs _, Lib.hid (HP.out.trans HS.out)⟩, ?_⟩
        decide
    · have hu0 : u = 0 := by omega
      have hl0 : l ≠ [] := fun h => hc (.inr h)
      subst hu0
      have hfin : Lib.decDigits N = l := by rw [HP.out]; unfold preD; rw [if_pos ⟨rfl, hl0⟩]
      have HF := Lib.hid hfin
      have hn1 : (⟨l.toArray⟩ : ByteArray).toList.isEmpty = false := by rw [Lib.toList_data]; cases l with
        | nil => exact absurd rfl hl0
        | cons a l => rfl
      have hn2 : ((⟨l.toArray⟩ : ByteArray).toList == []) = false := by rw [Lib.toList_data]; cases l with
        | nil => exact absurd rfl hl0
        | cons a l => rfl
      have hn3 : l.isEmpty = false := by cases l with
        | nil => exact absurd rfl hl0
        | cons a l => rfl
      have hn4 : (l == []) = false := by cases l with
        | nil => exact absurd rfl hl0
        | cons a l => rfl
      clear hc hfin
      go_wp2
      go_ret
      exact ⟨ret_str HF.out.symm, hb⟩
end Go.Proofs.YtkghdieakpipkaaGreatDoor.Nm
namespace Go.Proofs.YtkghdieakpipkaaGreatDoor.Nm
open Go.RowKit
set_option maxRecDepth 100000

/-- A digit's byte as the number that the reference holds. -/
def dI (b : UInt8) : Int := (b.toNat : Int) - 48
def dIs (l : List UInt8) : List Int := l.map dI
theorem dig_dec (b : UInt8) (h : dig b = true) : Lib.decDigits (b.toNat - 48) = [b] := by
  have := dig_range h
  rw [Lib.decDigits, dif_pos (by omega)]
  congr 1
  apply UInt8.toNat_inj.1
  rw [digit_ofNat _ (by omega)]
  omega
theorem app_list (a b : List UInt8) : (⟨a.toArray⟩ ++ ⟨b.toArray⟩ : ByteArray) = ⟨(a ++ b).toArray⟩ := by
  apply ByteArray.ext
  simp [ByteArray.data_append]

theorem iread_d {w : World} {slv : Value} {D : List UInt8} (h : IRead w slv (dIs D)) : ∃ A cp, slv = .slice A D.length cp ∧ (0 < D.length → ∃ ad : Addr, A = some ad ∧ ∀ j (hj : j < D.length), w.cell? (ad.add j) = some (.int .i64 (dI D[j]))) := by
  obtain ⟨A, cp, hv, hA⟩ := h
  have hl : (dIs D).length = D.length := by unfold dIs; simp
  refine ⟨A, cp, by rw [hv, hl], fun hp => ?_⟩
  obtain ⟨ad, h1, h2⟩ := hA (by omega)
  refine ⟨ad, h1, fun j hj => ?_⟩
  rw [h2 j (by omega)]
  simp [dIs]

set_option maxHeartbeats 1000000 in
theorem rform_any (v : Val) (slv : Value) (w : World) (hp : -2147483648 ≤ v.pow ∧ v.pow ≤ 2147483648) (hd : v.digs.length ≤ 1000) (hdig : v.digs.all dig = true) (hr : IRead w slv (dIs v.digs)) :
    Calls Tryz.prog 97 #[.agg #[.bool v.neg, slv, .int .i64 v.pow]] w fun e w' => e = .returned (.string ⟨(formL v).toArray⟩) ∧ Below w.heap.size w w' := by
  obtain ⟨n, D, p⟩ := v
  simp only at hp hd hdig hr ⊢
  obtain ⟨p1, p2⟩ := hp
  obtain ⟨A, cp, rfl, hA⟩ := iread_d hr
  by_cases h0 : D = []
  · subst h0
    go_enter Tryz.func97, Tryz.ntmps97
    go_wp2
    go_ret
    exact ⟨rfl, (Below.refl _ _).alloc (Nat.le_refl _) _⟩
  · have hF : formL ⟨n, D, p⟩ = (if n then [45] else []) ++ D ++ tailI p := by unfold formL; rw [if_neg h0]
    have hpos : 0 < D.length := List.length_pos_iff.2 h0
    obtain ⟨ad, rfl, hcell⟩ := hA hpos
    have HF := Lib.hid hF
    have HC := Lib.hid hcell
    have HB := Blk.new w 130 #[.bool n, .slice (some ad) D.length cp, .int .i64 p]
    have hzb : ((D.length : Int) == 0) = false := by rw [beq_eq_false_iff_ne]; omega
    have hdl : (D.length : Int) ≤ 1000 := by omega
    clear h0 hF hcell hA
    obtain ⟨sg, hsg, hsl⟩ : ∃ sg : List UInt8, (if n then [45] else []) = sg ∧ sg.length ≤ 1 := ⟨_, rfl, by cases n <;> simp⟩
    cases n
    case false =>
      have HSG := Lib.hid hsg
      have HSL := Lib.hid hsl
      clear hsg hsl
      go_enter Tryz.func97, Tryz.ntmps97
      go_wp2
      go_loopw [3, 4] (fun o i wr => ∃ k : Nat, k ≤ D.length ∧ i = .int .i64 k ∧ o = .string ⟨(sg ++ D.take k).toArray⟩ ∧ Hid (Below (w.heap.size + 1) (w.alloc (.cells #[.bool false, .slice (some ad) D.length cp, .int .i64 p] 130)) wr)) (fun _ i _ => D.length - (intOf i).toNat)
      case atStart => exact ⟨0, Nat.zero_le _, rfl, by rw [← HSG.out]; rfl, Lib.hid (Below.refl _ _)⟩
      case round =>
        obtain ⟨k, hk, rfl, rfl, HBL⟩ := hrel
        have HBr := HB.below HBL.out (by simp)
        have c0 : wr.cell? ⟨w.heap.size, 0, none⟩ = some (.bool false) := HBr.cell 0
        have c1 : wr.cell? ⟨w.heap.size, 1, none⟩ = some (.slice (some ad) D.length cp) := HBr.cell 1
        have c2 : wr.cell? ⟨w.heap.size, 2, none⟩ = some (.int .i64 p) := HBr.cell 2
        have hsr := HBL.out.size
        simp at hsr
        have hbw : Below w.heap.size w wr := ((Below.refl w.heap.size w).alloc (Nat.le_refl _) _).trans (HBL.out.mono (by simp))
        have HBW := Lib.hid hbw
        have hol : (⟨(sg ++ D.take k).toArray⟩ : ByteArray).size ≤ 1001 := by
          have := HSL.out
          rw [size_of, List.length_append, List.length_take]; omega
        clear hbw
        by_cases hlt : k < D.length
        · have hck : wr.cell? (ad.add k) = some (.int .i64 (dI D[k])) := by
            have h1 := HC.out k hlt
            have h2 := cell?_alloc_old (.cells #[.bool false, .slice (some ad) D.length cp, .int .i64 p] 130) h1
            have h3 := cell_lt h1
            exact (HBL.out.cell (p := ad.add k) (by omega)).trans h2
          have hdk := List.all_eq_true.1 hdig D[k] (List.getElem_mem hlt)
          have hrg := dig_range hdk
          have hdd := dig_dec D[k] hdk
          have HDD := Lib.hid hdd
          have hdi : dI D[k] = ((D[k].toNat - 48 : Nat) : Int) := by unfold dI; omega
          have HDI := Lib.hid hdi
          have htk : sg ++ D.take (k + 1) = sg ++ D.take k ++ [D[k]] := by
            rw [List.take_succ_eq_append_getElem hlt, List.append_assoc]
          have HTK := Lib.hid htk
          have hki : (k : Int) < D.length := by omega
          have hka : (⟨[D[k]].toArray⟩ : ByteArray).size ≤ 1 := by rw [size_of]; simp
          clear hdk hrg hdd hdi htk
          go_wp2_with (fail)
          refine (rdigits_any _ _ HDI.out _ (by have := D[k].toNat_lt; omega)).mono ?_
          rintro e w2 ⟨rfl, hb2⟩
          rw [HDD.out]
          go_wp2
          go_roundw
          case rel =>
            refine ⟨k + 1, by omega, by go_num, ?_, Lib.hid (HBL.out.trans (hb2.mono (by omega)))⟩
            rw [HTK.out, app_list]
          case measure => simp [intOf]; omega
        · have hdt : D.take k = D := List.take_of_length_le (by omega)
          rw [hdt] at hol ⊢
          have hki : (D.length : Int) ≤ k := by omega
          have hsgl := HSL.out
          clear hdt
          rcases Int.lt_trichotomy p 0 with hp0 | hp0 | hp0
          · have hT : formL ⟨false, D, p⟩ = sg ++ D ++ [101, 45] ++ Lib.decDigits p.natAbs := by
              rw [HF.out, HSG.out]
              unfold tailI Lib.itoa
              rw [if_neg (by omega), if_pos hp0]
              simp
            have HT := Lib.hid hT
            have hnp : -p = ((p.natAbs : Nat) : Int) := by omega
            have HNP := Lib.hid hnp
            have hpn : ¬ 0 < p := by omega
            clear hT hnp
            go_wp2_with (fail)
            refine (rdigits_any p.natAbs _ HNP.out _ (by omega)).mono ?_
            rintro e w2 ⟨rfl, hb2⟩
            have hdl2 : (Lib.decDigits p.natAbs).length ≤ 100 := by
              have := itoa_len p ⟨by omega, by omega⟩
              unfold Lib.itoa at this
              rw [if_pos hp0] at this
              simp at this
              omega
            go_wp2
            go_ret
            refine ⟨?_, HBW.out.trans (hb2.mono HBW.out.size)⟩
            rw [HT.out]
            simp only [← app_list]
            rfl
          · have hT : formL ⟨false, D, p⟩ = sg ++ D := by
              rw [HF.out, HSG.out]
              unfold tailI
              rw [if_pos hp0]
              simp
            have HT := Lib.hid hT
            have hpn : ¬ 0 < p := by omega
            have hpm : ¬ p < 0 := by omega
            clear hT hp0
            go_wp2
            go_ret
            exact ⟨ret_str HT.out.symm, HBW.out⟩
          · have hT : formL ⟨false, D, p⟩ = sg ++ D ++ [101] ++ Lib.decDigits p.toNat := by
              rw [HF.out, HSG.out]
              unfold tailI Lib.itoa
              rw [if_neg (by omega), if_neg (by omega)]
              simp
            have HT := Lib.hid hT
            have hnp : p = ((p.toNat : Nat) : Int) := by omega
            have HNP := Lib.hid hnp
            have hpm : ¬ p < 0 := by omega
            have hdl2 : (Lib.decDigits p.toNat).length ≤ 100 := by
              have := itoa_len p ⟨by omega, by omega⟩
              unfold Lib.itoa at this
              rw [if_neg (by omega)] at this
              omega
            clear hT hnp
            go_wp2_with (fail)
            refine (rdigits_any p.toNat _ HNP.out _ (by omega)).mono ?_
            rintro e w2 ⟨rfl, hb2⟩
            have HBR2 := HBr.below hb2 (by omega)
            have e2 : w2.cell? ⟨w.heap.size, 2, none⟩ = some (.int .i64 p) := HBR2.cell 2
            go_wp2
            go_ret
            refine ⟨?_, HBW.out.trans (hb2.mono HBW.out.size)⟩
            rw [HT.out]
            simp only [← app_list]
            rfl
    case true =>
      have HSG := Lib.hid hsg
      have HSL := Lib.hid hsl
      clear hsg hsl
      go_enter Tryz.func97, Tryz.ntmps97
      go_wp2
      go_loopw [3, 4] (fun o i wr => ∃ k : Nat, k ≤ D.length ∧ i = .int .i64 k ∧ o = .string ⟨(sg ++ D.take k).toArray⟩ ∧ Hid (Below (w.heap.size + 1) (w.alloc (.cells #[.bool true, .slice (some ad) D.length cp, .int .i64 p] 130)) wr)) (fun _ i _ => D.length - (intOf i).toNat)
      case atStart => exact ⟨0, Nat.zero_le _, rfl, by rw [← HSG.out]; rfl, Lib.hid (Below.refl _ _)⟩
      case round =>
        obtain ⟨k, hk, rfl, rfl, HBL⟩ := hrel
        have HBr := HB.below HBL.out (by simp)
        have c0 : wr.cell? ⟨w.heap.size, 0, none⟩ = some (.bool true) := HBr.cell 0
        have c1 : wr.cell? ⟨w.heap.size, 1, none⟩ = some (.slice (some ad) D.length cp) := HBr.cell 1
        have c2 : wr.cell? ⟨w.heap.size, 2, none⟩ = some (.int .i64 p) := HBr.cell 2
        have hsr := HBL.out.size
        simp at hsr
        have hbw : Below w.heap.size w wr := ((Below.refl w.heap.size w).alloc (Nat.le_refl _) _).trans (HBL.out.mono (by simp))
        have HBW := Lib.hid hbw
        have hol : (⟨(sg ++ D.take k).toArray⟩ : ByteArray).size ≤ 1001 := by
          have := HSL.out
          rw [size_of, List.length_append, List.length_take]; omega
        clear hbw
        by_cases hlt : k < D.length
        · have hck : wr.cell? (ad.add k) = some (.int .i64 (dI D[k])) := by
            have h1 := HC.out k hlt
            have h2 := cell?_alloc_old (.cells #[.bool true, .slice (some ad) D.length cp, .int .i64 p] 130) h1
            have h3 := cell_lt h1
            exact (HBL.out.cell (p := ad.add k) (by omega)).trans h2
          have hdk := List.all_eq_true.1 hdig D[k] (List.getElem_mem hlt)
          have hrg := dig_range hdk
          have hdd := dig_dec D[k] hdk
          have HDD := Lib.hid hdd
          have hdi : dI D[k] = ((D[k].toNat - 48 : Nat) : Int) := by unfold dI; omega
          have HDI := Lib.hid hdi
          have htk : sg ++ D.take (k + 1) = sg ++ D.take k ++ [D[k]] := by
            rw [List.take_succ_eq_append_getElem hlt, List.append_assoc]
          have HTK := Lib.hid htk
          have hki : (k : Int) < D.length := by omega
          have hka : (⟨[D[k]].toArray⟩ : ByteArray).size ≤ 1 := by rw [size_of]; simp
          clear hdk hrg hdd hdi htk
          go_wp2_with (fail)
          refine (rdigits_any _ _ HDI.out _ (by have := D[k].toNat_lt; omega)).mono ?_
          rintro e w2 ⟨rfl, hb2⟩
          rw [HDD.out]
          go_wp2
          go_roundw
          case rel =>
            refine ⟨k + 1, by omega, by go_num, ?_, Lib.hid (HBL.out.trans (hb2.mono (by omega)))⟩
            rw [HTK.out, app_list]
          case measure => simp [intOf]; omega
        · have hdt : D.take k = D := List.take_of_length_le (by omega)
          rw [hdt] at hol ⊢
          have hki : (D.length : Int) ≤ k := by omega
          have hsgl := HSL.out
          clear hdt
          rcases Int.lt_trichotomy p 0 with hp0 | hp0 | hp0
          · have hT : formL ⟨true, D, p⟩ = sg ++ D ++ [101, 45] ++ Lib.decDigits p.natAbs := by
              rw [HF.out, HSG.out]
              unfold tailI Lib.itoa
              rw [if_neg (by omega), if_pos hp0]
              simp
            have HT := Lib.hid hT
            have hnp : -p = ((p.natAbs : Nat) : Int) := by omega
            have HNP := Lib.hid hnp
            have hpn : ¬ 0 < p := by omega
            clear hT hnp
            go_wp2_with (fail)
            refine (rdigits_any p.natAbs _ HNP.out _ (by omega)).mono ?_
            rintro e w2 ⟨rfl, hb2⟩
            have hdl2 : (Lib.decDigits p.natAbs).length ≤ 100 := by
              have := itoa_len p ⟨by omega, by omega⟩
              unfold Lib.itoa at this
              rw [if_pos hp0] at this
              simp at this
              omega
            go_wp2
            go_ret
            refine ⟨?_, HBW.out.trans (hb2.mono HBW.out.size)⟩
            rw [HT.out]
            simp only [← app_list]
            rfl
          · have hT : formL ⟨true, D, p⟩ = sg ++ D := by
              rw [HF.out, HSG.out]
              unfold tailI
              rw [if_pos hp0]
              simp
            have HT := Lib.hid hT
            have hpn : ¬ 0 < p := by omega
            have hpm : ¬ p < 0 := by omega
            clear hT hp0
            go_wp2
            go_ret
            exact ⟨ret_str HT.out.symm, HBW.out⟩
          · have hT : formL ⟨true, D, p⟩ = sg ++ D ++ [101] ++ Lib.decDigits p.toNat := by
              rw [HF.out, HSG.out]
              unfold tailI Lib.itoa
              rw [if_neg (by omega), if_neg (by omega)]
              simp
            have HT := Lib.hid hT
            have hnp : p = ((p.toNat : Nat) : Int) := by omega
            have HNP := Lib.hid hnp
            have hpm : ¬ p < 0 := by omega
            have hdl2 : (Lib.decDigits p.toNat).length ≤ 100 := by
              have := itoa_len p ⟨by omega, by omega⟩
              unfold Lib.itoa at this
              rw [if_neg (by omega)] at this
              omega
            clear hT hnp
            go_wp2_with (fail)
            refine (rdigits_any p.toNat _ HNP.out _ (by omega)).mono ?_
            rintro e w2 ⟨rfl, hb2⟩
            have HBR2 := HBr.below hb2 (by omega)
            have e2 : w2.cell? ⟨w.heap.size, 2, none⟩ = some (.int .i64 p) := HBR2.cell 2
            go_wp2
            go_ret
            refine ⟨?_, HBW.out.trans (hb2.mono HBW.out.size)⟩
            rw [HT.out]
            simp only [← app_list]
            rfl
end Go.Proofs.YtkghdieakpipkaaGreatDoor.Nm

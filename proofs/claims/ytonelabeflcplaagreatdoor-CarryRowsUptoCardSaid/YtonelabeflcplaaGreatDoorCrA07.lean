/-
  carry, pure: a key as a word, the one-line form, elements within a node.
  The reference's One: the character at the beginning.
  The reference's One where the character has two bytes by its first.
  The reference's One where the character has three bytes by its first.
  The reference's One where the character has four bytes by its first.
  The reference's One and Runes, whole; 'same' of two lists.
  The reference's Valid (hexaplaref01): whether a text has characters.
-/
import Derived.Test.YtonelabeflcplaaGreatDoorCrA04
import Derived.Test.YtonelabeflcplaaGreatDoorCrA06
import Derived.Test.YtonelabeflcplaaGreatDoorCrA01
import Derived.Test.YtonelabeflcplaaGreatDoorCrA05
import Derived.Lib.Strings
import Derived.BigQuiet
import Derived.Deep.QuietTactic
namespace Go.Proofs.YtonelabeflcplaaGreatDoor

def dNd : Nd := .mk 0 ⟨#[]⟩ ⟨#[]⟩ []
theorem getDn {l : List Nd} {j : Nat} (h : j < l.length) : l.getD j dNd = l[j] := by simp [List.getD_eq_getElem?_getD, List.getElem?_eq_getElem h]

def wordL (L : List UInt8) : List UInt8 := if localL L = true ∧ (46 : UInt8) ∉ L then L else Qt.prText L
mutual
def rowN : Nd → List UInt8
  | .mk k t _ kids => if k = 1 then [110, 117, 108, 108] else if k = 4 then Qt.prText t.data.toList else if k = 5 then 91 :: (seqN true kids ++ [93]) else if k = 7 then 123 :: (seqN true kids ++ [125])
    else if k = 8 then wordL t.data.toList ++ ([32, 61, 32] ++ seqN true kids) else t.data.toList
def seqN : Bool → List Nd → List UInt8
  | _, [] => []
  | b, n :: r => (if b = true then [] else [44, 32]) ++ (rowN n ++ seqN false r)
end
theorem seqN_snoc : ∀ (l : List Nd) (b : Bool) (m : Nd), seqN b (l ++ [m]) = seqN b l ++ ((if b = true ∧ l = [] then [] else [44, 32]) ++ rowN m)
  | [], b, m => by cases b <;> simp [seqN]
  | n :: r, b, m => by
    simp only [List.cons_append, seqN, seqN_snoc r false m]
    simp [List.append_assoc]
theorem shapedL_mem : ∀ {l : List Nd}, shapedL l = true ↔ ∀ n ∈ l, shaped n = true
  | [] => by simp [shapedL]
  | n :: r => by simp only [shapedL, Bool.and_eq_true, shapedL_mem (l := r), List.mem_cons, forall_eq_or_imp]
mutual
def elemN : Nd → Bool
  | .mk k _ _ kids => decide (k = 10) || elemL kids
def elemL : List Nd → Bool
  | [] => false
  | n :: r => elemN n || elemL r
end
theorem elemL_any (l : List Nd) : elemL l = l.any elemN := by
  induction l with
  | nil => rfl
  | cons n r ih => simp [elemL, ih]

theorem prText_len (L : List UInt8) : (Qt.prText L).length ≤ 290 := by
  unfold Qt.prText
  split
  · split
    · simp
    · have h1 := Qt.printL_len L
      have h2 := (Qt.prAll_len L).2
      omega
  · simp
theorem wordL_len (L : List UInt8) : (wordL L).length ≤ L.length + 290 := by
  unfold wordL
  split
  · omega
  · have := prText_len L; omega
mutual
theorem rowN_len : ∀ n : Nd, smallT n → (rowN n).length + 2 ≤ sizeN n * 1048900
  | .mk k t v kids, h => by
    obtain ⟨h1, _, h3⟩ := h
    have hl := seqN_len kids h3 true
    have h5 : t.data.toList.length = t.size := by simp
    have hp := prText_len t.data.toList
    have hw := wordL_len t.data.toList
    simp only [rowN, sizeN]
    repeat' split
    all_goals ((try simp only [List.length_cons, List.length_append, List.length_nil]); omega)
theorem seqN_len : ∀ l : List Nd, smallL l → ∀ b, (seqN b l).length ≤ sizeL l * 1048900
  | [], _, b => by simp [seqN]
  | n :: r, h, b => by
    have h1 := rowN_len n h.1
    have h2 := seqN_len r h.2 false
    simp only [seqN, sizeL, List.length_append]
    have h3 : (if b = true then ([] : List UInt8) else [44, 32]).length ≤ 2 := by split <;> simp
    omega
end
end Go.Proofs.YtonelabeflcplaaGreatDoor
namespace Go.Proofs.YtonelabeflcplaaGreatDoor
open Go.RowKit
set_option maxRecDepth 100000

theorem bytes_cons (s : ByteArray) (h : 0 < s.size) : s.data.toList = s[0] :: s.data.toList.drop 1 := by
  have : s.data.toList = s.data.toList.drop 0 := rfl
  rw [this, List.drop_eq_getElem_cons (by simpa using h)]
  rfl
theorem bytes_take (s : ByteArray) (k : Nat) (h1 : 1 ≤ k) (h : k < s.size) : (s.data.toList.drop 1).take k = (s.data.toList.drop 1).take (k - 1) ++ [s[k]] := by
  obtain ⟨j, rfl⟩ : ∃ j, k = j + 1 := ⟨k - 1, by omega⟩
  simp only [Nat.add_sub_cancel]
  rw [List.take_succ_eq_append_getElem (by simp; omega)]
  congr 1
  simp [ByteArray.getElem_eq_getElem_data]

def OneEnd (l : List UInt8) (e : Ending) : Prop := e = .returned (.tuple #[.int .i64 (oneL l).1, .int .i64 (oneL l).2])
theorem oneEnd_of {l : List UInt8} {r n : Int} (h : oneL l = (r, n)) : OneEnd l (.returned (.tuple #[.int .i64 r, .int .i64 n])) := by unfold OneEnd; rw [h]

theorem one_0 (s : ByteArray) (w : World) (h : s.size = 0) :
    Calls Tryz.prog 86 #[.string s] w fun e w' => OneEnd s.data.toList e ∧ w = w' := by
  have hl : s.data.toList = [] := List.eq_nil_of_length_eq_zero (by simpa using h)
  have hb : ((s.size : Int) == 0) = true := by simp [h]
  rw [hl]
  clear h hl
  go_enter Tryz.func86, Tryz.ntmps86
  go_wp2
  go_ret2
  exact ⟨oneEnd_of rfl, rfl⟩

theorem one_1 (s : ByteArray) (w : World) (hm : s.size ≤ 140737488355328) (h : 0 < s.size) (hc : (s[0].toNat : Int) < 128) :
    Calls Tryz.prog 86 #[.string s] w fun e w' => OneEnd s.data.toList e ∧ w = w' := by
  have hb : ((s.size : Int) == 0) = false := beq_eq_false_iff_ne.2 (by omega)
  have hone : oneL s.data.toList = ((s[0].toNat : Int), 1) := by rw [bytes_cons s h, oneL, if_pos hc]
  have HO := Lib.hid hone
  clear hone
  go_enter Tryz.func86, Tryz.ntmps86
  go_wp2
  go_ret2
  exact ⟨oneEnd_of HO.out, rfl⟩

theorem one_bad (s : ByteArray) (w : World) (hm : s.size ≤ 140737488355328) (h : 0 < s.size) (hc : 128 ≤ (s[0].toNat : Int)) (hn : (s[0].toNat : Int) < 192 ∨ 248 ≤ (s[0].toNat : Int)) :
    Calls Tryz.prog 86 #[.string s] w fun e w' => OneEnd s.data.toList e ∧ w = w' := by
  have hb : ((s.size : Int) == 0) = false := beq_eq_false_iff_ne.2 (by omega)
  have hone : oneL s.data.toList = (0, 0) := by
    have : leadN (s[0].toNat : Int) = 0 := by unfold leadN; rw [if_neg (by omega), if_neg (by omega), if_neg (by omega)]
    rw [bytes_cons s h, oneL, if_neg (by omega), if_pos (.inl this)]
  have HO := Lib.hid hone
  clear hone
  have hle := byte_le s[0]
  rcases hn with hn | hn
  all_goals
    go_enter Tryz.func86, Tryz.ntmps86
    go_wp2
    go_ret2
    exact ⟨oneEnd_of HO.out, rfl⟩

theorem one_short (s : ByteArray) (w : World) (hm : s.size ≤ 140737488355328) (h : 0 < s.size) (hc : 192 ≤ (s[0].toNat : Int)) (hn : (s[0].toNat : Int) < 248) (hs : (s.size : Int) < leadN s[0].toNat) :
    Calls Tryz.prog 86 #[.string s] w fun e w' => OneEnd s.data.toList e ∧ w = w' := by
  have hb : ((s.size : Int) == 0) = false := beq_eq_false_iff_ne.2 (by omega)
  have hone : oneL s.data.toList = (0, 0) := by
    have hz : ((s.data.toList.drop 1).length : Int) + 1 = s.size := by simp; omega
    rw [bytes_cons s h, oneL, if_neg (by omega), if_pos (.inr (by omega))]
  have HO := Lib.hid hone
  clear hone
  rcases (show ((s[0].toNat : Int) < 224 ∧ (s.size : Int) < 2) ∨ (224 ≤ (s[0].toNat : Int) ∧ (s[0].toNat : Int) < 240 ∧ (s.size : Int) < 3) ∨ (240 ≤ (s[0].toNat : Int) ∧ (s.size : Int) < 4) by
    unfold leadN at hs
    split at hs
    · omega
    · split at hs
      · omega
      · split at hs <;> omega) with ⟨g1, g2⟩ | ⟨g1, g2, g3⟩ | ⟨g1, g2⟩
  all_goals
    clear hs
    go_enter Tryz.func86, Tryz.ntmps86
    go_wp2
    go_ret2
    exact ⟨oneEnd_of HO.out, rfl⟩

end Go.Proofs.YtonelabeflcplaaGreatDoor
namespace Go.Proofs.YtonelabeflcplaaGreatDoor
open Go.RowKit
set_option maxRecDepth 100000

set_option maxHeartbeats 1000000 in
theorem one_2b (s : ByteArray) (w : World) (hm : s.size ≤ 140737488355328) (h : 0 < s.size) (a : 192 ≤ (s[0].toNat : Int)) (b : (s[0].toNat : Int) < 224) (hs : 2 ≤ s.size)
    (hone : oneL s.data.toList = oneFin 2 (tails ((s[0].toNat : Int) - 192) ((s.data.toList.drop 1).take 1))) :
    Calls Tryz.prog 86 #[.string s] w fun e w' => OneEnd s.data.toList e ∧ w = w' := by
  have hb : ((s.size : Int) == 0) = false := beq_eq_false_iff_ne.2 (by omega)
  have HO := Lib.hid hone
  clear hone
  go_enter Tryz.func86, Tryz.ntmps86
  go_wp2
  generalize hV : (s[0].toNat : Int) - 192 = V at *
  have hV0 : 0 ≤ V ∧ V < 64 := by omega
  have HV := Lib.hid hV
  clear hV
  go_loop [6, 7] (fun u i => ∃ (k : Nat) (x : Int), 1 ≤ k ∧ k ≤ 2 ∧ i = .int .i64 k ∧ u = .int .i64 x ∧ 0 ≤ x ∧ x < ((64 ^ k : Nat) : Int) ∧ Hid (tails V ((s.data.toList.drop 1).take (k - 1)) = some x)) (fun _ i => 2 - (intOf i).toNat)
  case atStart => exact ⟨1, V, by omega, by omega, rfl, rfl, hV0.1, hV0.2, Lib.hid rfl⟩
  case round =>
    obtain ⟨k, x, hk1, hk, rfl, rfl, hx0, hx1, HT⟩ := hrel
    by_cases hlt : k < 2
    · have hbt := bytes_take s k hk1 (by omega)
      have hsn := tails_snoc V ((s.data.toList.drop 1).take (k - 1)) s[k]
      rw [← hbt, HT.out] at hsn
      simp only [Option.bind_some] at hsn
      have HS := Lib.hid hsn
      clear hsn hbt
      have hpow : ((64 ^ (k + 1) : Nat) : Int) = 64 * ((64 ^ k : Nat) : Int) := by rw [Nat.pow_succ]; omega
      have hpw := Lib.hid hpow
      clear hpow
      have hp4 : ((64 ^ k : Nat) : Int) ≤ 262144 := by
        have : 64 ^ k ≤ 64 ^ 3 := Nat.pow_le_pow_right (by decide) (by omega)
        omega
      have hle := byte_le s[k]
      by_cases hd : (s[k].toNat : Int) < 128
      · go_wp2
        go_ret2
        have hnone : tails V ((s.data.toList.drop 1).take 1) = none := tails_none_take _ _ k _ (by omega) (by rw [HS.out, if_pos (.inl hd)])
        refine ⟨oneEnd_of ?_, rfl⟩
        rw [HO.out, hnone]; rfl
      by_cases hd2 : (s[k].toNat : Int) < 192
      · have hx2 : x ≤ 262143 := by omega
        go_wp2
        go_round
        case rel => exact ⟨k + 1, 64 * x + (s[k].toNat : Int) - 128, by omega, by omega, by go_num, by first | rfl | go_num, by omega, by rw [hpw.out]; omega, Lib.hid (by rw [Nat.add_sub_cancel, HS.out, if_neg (by omega)])⟩
        case measure => simp [intOf]; omega
      · have hd3 : 192 ≤ (s[k].toNat : Int) := by omega
        go_wp2
        go_ret2
        have hnone : tails V ((s.data.toList.drop 1).take 1) = none := tails_none_take _ _ k _ (by omega) (by rw [HS.out, if_pos (.inr hd3)])
        refine ⟨oneEnd_of ?_, rfl⟩
        rw [HO.out, hnone]; rfl
    · have hkN : k = 2 := by omega
      subst hkN
      have hfin : oneL s.data.toList = oneFin 2 (some x) := by rw [HO.out]; exact congrArg _ HT.out
      clear HO HT
      have HF := Lib.hid hfin
      clear hfin
      by_cases hmy : mayB x = true
      · have HM := Lib.hid hmy
        clear hmy
        by_cases hlg : longI x = 2
        · have hne : (longI x != 2) = false := by simp [hlg]
          have HL := Lib.hid hlg
          clear hlg
          go_wp2_with (first
            | (go_at_call 118; refine (may_any _ _).mono ?_; rintro e w' ⟨rfl, rfl⟩; rw [HM.out])
            | (go_at_call 119; refine (long_any _ _).mono ?_; rintro e w' ⟨rfl, rfl⟩))
          go_ret2
          exact ⟨oneEnd_of (by rw [HF.out]; exact if_pos ⟨HM.out, HL.out⟩), rfl⟩
        · have hne : (longI x != 2) = true := bne_iff_ne.2 hlg
          go_wp2_with (first
            | (go_at_call 118; refine (may_any _ _).mono ?_; rintro e w' ⟨rfl, rfl⟩; rw [HM.out])
            | (go_at_call 119; refine (long_any _ _).mono ?_; rintro e w' ⟨rfl, rfl⟩))
          go_ret2
          exact ⟨oneEnd_of (by rw [HF.out]; exact if_neg (fun h => hlg h.2)), rfl⟩
      · have hmf : mayB x = false := by simpa using hmy
        have HM := Lib.hid hmf
        clear hmf
        have HM2 := Lib.hid hmy
        clear hmy
        go_wp2_with (first
          | (go_at_call 118; refine (may_any _ _).mono ?_; rintro e w' ⟨rfl, rfl⟩; rw [HM.out]))
        go_ret2
        exact ⟨oneEnd_of (by rw [HF.out]; exact if_neg (fun h => HM2.out h.1)), rfl⟩

end Go.Proofs.YtonelabeflcplaaGreatDoor
namespace Go.Proofs.YtonelabeflcplaaGreatDoor
open Go.RowKit
set_option maxRecDepth 100000

set_option maxHeartbeats 1000000 in
theorem one_3b (s : ByteArray) (w : World) (hm : s.size ≤ 140737488355328) (h : 0 < s.size) (a : 224 ≤ (s[0].toNat : Int)) (b : (s[0].toNat : Int) < 240) (hs : 3 ≤ s.size)
    (hone : oneL s.data.toList = oneFin 3 (tails ((s[0].toNat : Int) - 224) ((s.data.toList.drop 1).take 2))) :
    Calls Tryz.prog 86 #[.string s] w fun e w' => OneEnd s.data.toList e ∧ w = w' := by
  have hb : ((s.size : Int) == 0) = false := beq_eq_false_iff_ne.2 (by omega)
  have HO := Lib.hid hone
  clear hone
  go_enter Tryz.func86, Tryz.ntmps86
  go_wp2
  generalize hV : (s[0].toNat : Int) - 224 = V at *
  have hV0 : 0 ≤ V ∧ V < 64 := by omega
  have HV := Lib.hid hV
  clear hV
  go_loop [6, 7] (fun u i => ∃ (k : Nat) (x : Int), 1 ≤ k ∧ k ≤ 3 ∧ i = .int .i64 k ∧ u = .int .i64 x ∧ 0 ≤ x ∧ x < ((64 ^ k : Nat) : Int) ∧ Hid (tails V ((s.data.toList.drop 1).take (k - 1)) = some x)) (fun _ i => 3 - (intOf i).toNat)
  case atStart => exact ⟨1, V, by omega, by omega, rfl, rfl, hV0.1, hV0.2, Lib.hid rfl⟩
  case round =>
    obtain ⟨k, x, hk1, hk, rfl, rfl, hx0, hx1, HT⟩ := hrel
    by_cases hlt : k < 3
    · have hbt := bytes_take s k hk1 (by omega)
      have hsn := tails_snoc V ((s.data.toList.drop 1).take (k - 1)) s[k]
      rw [← hbt, HT.out] at hsn
      simp only [Option.bind_some] at hsn
      have HS := Lib.hid hsn
      clear hsn hbt
      have hpow : ((64 ^ (k + 1) : Nat) : Int) = 64 * ((64 ^ k : Nat) : Int) := by rw [Nat.pow_succ]; omega
      have hpw := Lib.hid hpow
      clear hpow
      have hp4 : ((64 ^ k : Nat) : Int) ≤ 262144 := by
        have : 64 ^ k ≤ 64 ^ 3 := Nat.pow_le_pow_right (by decide) (by omega)
        omega
      have hle := byte_le s[k]
      by_cases hd : (s[k].toNat : Int) < 128
      · go_wp2
        go_ret2
        have hnone : tails V ((s.data.toList.drop 1).take 2) = none := tails_none_take _ _ k _ (by omega) (by rw [HS.out, if_pos (.inl hd)])
        refine ⟨oneEnd_of ?_, rfl⟩
        rw [HO.out, hnone]; rfl
      by_cases hd2 : (s[k].toNat : Int) < 192
      · have hx2 : x ≤ 262143 := by omega
        go_wp2
        go_round
        case rel => exact ⟨k + 1, 64 * x + (s[k].toNat : Int) - 128, by omega, by omega, by go_num, by first | rfl | go_num, by omega, by rw [hpw.out]; omega, Lib.hid (by rw [Nat.add_sub_cancel, HS.out, if_neg (by omega)])⟩
        case measure => simp [intOf]; omega
      · have hd3 : 192 ≤ (s[k].toNat : Int) := by omega
        go_wp2
        go_ret2
        have hnone : tails V ((s.data.toList.drop 1).take 2) = none := tails_none_take _ _ k _ (by omega) (by rw [HS.out, if_pos (.inr hd3)])
        refine ⟨oneEnd_of ?_, rfl⟩
        rw [HO.out, hnone]; rfl
    · have hkN : k = 3 := by omega
      subst hkN
      have hfin : oneL s.data.toList = oneFin 3 (some x) := by rw [HO.out]; exact congrArg _ HT.out
      clear HO HT
      have HF := Lib.hid hfin
      clear hfin
      by_cases hmy : mayB x = true
      · have HM := Lib.hid hmy
        clear hmy
        by_cases hlg : longI x = 3
        · have hne : (longI x != 3) = false := by simp [hlg]
          have HL := Lib.hid hlg
          clear hlg
          go_wp2_with (first
            | (go_at_call 118; refine (may_any _ _).mono ?_; rintro e w' ⟨rfl, rfl⟩; rw [HM.out])
            | (go_at_call 119; refine (long_any _ _).mono ?_; rintro e w' ⟨rfl, rfl⟩))
          go_ret2
          exact ⟨oneEnd_of (by rw [HF.out]; exact if_pos ⟨HM.out, HL.out⟩), rfl⟩
        · have hne : (longI x != 3) = true := bne_iff_ne.2 hlg
          go_wp2_with (first
            | (go_at_call 118; refine (may_any _ _).mono ?_; rintro e w' ⟨rfl, rfl⟩; rw [HM.out])
            | (go_at_call 119; refine (long_any _ _).mono ?_; rintro e w' ⟨rfl, rfl⟩))
          go_ret2
          exact ⟨oneEnd_of (by rw [HF.out]; exact if_neg (fun h => hlg h.2)), rfl⟩
      · have hmf : mayB x = false := by simpa using hmy
        have HM := Lib.hid hmf
        clear hmf
        have HM2 := Lib.hid hmy
        clear hmy
        go_wp2_with (first
          | (go_at_call 118; refine (may_any _ _).mono ?_; rintro e w' ⟨rfl, rfl⟩; rw [HM.out]))
        go_ret2
        exact ⟨oneEnd_of (by rw [HF.out]; exact if_neg (fun h => HM2.out h.1)), rfl⟩

end Go.Proofs.YtonelabeflcplaaGreatDoor
namespace Go.Proofs.YtonelabeflcplaaGreatDoor
open Go.RowKit
set_option maxRecDepth 100000

set_option maxHeartbeats 1000000 in
theorem one_4b (s : ByteArray) (w : World) (hm : s.size ≤ 140737488355328) (h : 0 < s.size) (a : 240 ≤ (s[0].toNat : Int)) (b : (s[0].toNat : Int) < 248) (hs : 4 ≤ s.size)
    (hone : oneL s.data.toList = oneFin 4 (tails ((s[0].toNat : Int) - 240) ((s.data.toList.drop 1).take 3))) :
    Calls Tryz.prog 86 #[.string s] w fun e w' => OneEnd s.data.toList e ∧ w = w' := by
  have hb : ((s.size : Int) == 0) = false := beq_eq_false_iff_ne.2 (by omega)
  have HO := Lib.hid hone
  clear hone
  go_enter Tryz.func86, Tryz.ntmps86
  go_wp2
  generalize hV : (s[0].toNat : Int) - 240 = V at *
  have hV0 : 0 ≤ V ∧ V < 64 := by omega
  have HV := Lib.hid hV
  clear hV
  go_loop [6, 7] (fun u i => ∃ (k : Nat) (x : Int), 1 ≤ k ∧ k ≤ 4 ∧ i = .int .i64 k ∧ u = .int .i64 x ∧ 0 ≤ x ∧ x < ((64 ^ k : Nat) : Int) ∧ Hid (tails V ((s.data.toList.drop 1).take (k - 1)) = some x)) (fun _ i => 4 - (intOf i).toNat)
  case atStart => exact ⟨1, V, by omega, by omega, rfl, rfl, hV0.1, hV0.2, Lib.hid rfl⟩
  case round =>
    obtain ⟨k, x, hk1, hk, rfl, rfl, hx0, hx1, HT⟩ := hrel
    by_cases hlt : k < 4
    · have hbt := bytes_take s k hk1 (by omega)
      have hsn := tails_snoc V ((s.data.toList.drop 1).take (k - 1)) s[k]
      rw [← hbt, HT.out] at hsn
      simp only [Option.bind_some] at hsn
      have HS := Lib.hid hsn
      clear hsn hbt
      have hpow : ((64 ^ (k + 1) : Nat) : Int) = 64 * ((64 ^ k : Nat) : Int) := by rw [Nat.pow_succ]; omega
      have hpw := Lib.hid hpow
      clear hpow
      have hp4 : ((64 ^ k : Nat) : Int) ≤ 262144 := by
        have : 64 ^ k ≤ 64 ^ 3 := Nat.pow_le_pow_right (by decide) (by omega)
        omega
      have hle := byte_le s[k]
      by_cases hd : (s[k].toNat : Int) < 128
      · go_wp2
        go_ret2
        have hnone : tails V ((s.data.toList.drop 1).take 3) = none := tails_none_take _ _ k _ (by omega) (by rw [HS.out, if_pos (.inl hd)])
        refine ⟨oneEnd_of ?_, rfl⟩
        rw [HO.out, hnone]; rfl
      by_cases hd2 : (s[k].toNat : Int) < 192
      · have hx2 : x ≤ 262143 := by omega
        go_wp2
        go_round
        case rel => exact ⟨k + 1, 64 * x + (s[k].toNat : Int) - 128, by omega, by omega, by go_num, by first | rfl | go_num, by omega, by rw [hpw.out]; omega, Lib.hid (by rw [Nat.add_sub_cancel, HS.out, if_neg (by omega)])⟩
        case measure => simp [intOf]; omega
      · have hd3 : 192 ≤ (s[k].toNat : Int) := by omega
        go_wp2
        go_ret2
        have hnone : tails V ((s.data.toList.drop 1).take 3) = none := tails_none_take _ _ k _ (by omega) (by rw [HS.out, if_pos (.inr hd3)])
        refine ⟨oneEnd_of ?_, rfl⟩
        rw [HO.out, hnone]; rfl
    · have hkN : k = 4 := by omega
      subst hkN
      have hfin : oneL s.data.toList = oneFin 4 (some x) := by rw [HO.out]; exact congrArg _ HT.out
      clear HO HT
      have HF := Lib.hid hfin
      clear hfin
      by_cases hmy : mayB x = true
      · have HM := Lib.hid hmy
        clear hmy
        by_cases hlg : longI x = 4
        · have hne : (longI x != 4) = false := by simp [hlg]
          have HL := Lib.hid hlg
          clear hlg
          go_wp2_with (first
            | (go_at_call 118; refine (may_any _ _).mono ?_; rintro e w' ⟨rfl, rfl⟩; rw [HM.out])
            | (go_at_call 119; refine (long_any _ _).mono ?_; rintro e w' ⟨rfl, rfl⟩))
          go_ret2
          exact ⟨oneEnd_of (by rw [HF.out]; exact if_pos ⟨HM.out, HL.out⟩), rfl⟩
        · have hne : (longI x != 4) = true := bne_iff_ne.2 hlg
          go_wp2_with (first
            | (go_at_call 118; refine (may_any _ _).mono ?_; rintro e w' ⟨rfl, rfl⟩; rw [HM.out])
            | (go_at_call 119; refine (long_any _ _).mono ?_; rintro e w' ⟨rfl, rfl⟩))
          go_ret2
          exact ⟨oneEnd_of (by rw [HF.out]; exact if_neg (fun h => hlg h.2)), rfl⟩
      · have hmf : mayB x = false := by simpa using hmy
        have HM := Lib.hid hmf
        clear hmf
        have HM2 := Lib.hid hmy
        clear hmy
        go_wp2_with (first
          | (go_at_call 118; refine (may_any _ _).mono ?_; rintro e w' ⟨rfl, rfl⟩; rw [HM.out]))
        go_ret2
        exact ⟨oneEnd_of (by rw [HF.out]; exact if_neg (fun h => HM2.out h.1)), rfl⟩

end Go.Proofs.YtonelabeflcplaaGreatDoor
namespace Go.Proofs.YtonelabeflcplaaGreatDoor
open Go.RowKit
set_option maxRecDepth 100000

theorem one_lead (s : ByteArray) (h : 0 < s.size) (n : Nat) (v : Int) (e1 : leadN s[0].toNat = n) (e2 : leadV s[0].toNat = v) (h0 : 128 ≤ (s[0].toNat : Int)) (hn : 1 ≤ n) (hs : n ≤ s.size) :
    oneL s.data.toList = oneFin n (tails v ((s.data.toList.drop 1).take (n - 1))) := by
  have hz : ((s.data.toList.drop 1).length : Int) + 1 = s.size := by simp; omega
  have e0 := bytes_cons s h
  generalize s.data.toList.drop 1 = T at *
  rw [e0, oneL, if_neg (by omega), e1, e2, if_neg (by omega), show ((n : Int) - 1).toNat = n - 1 from by omega]
  cases tails v (T.take (n - 1)) <;> rfl

theorem one_end (s : ByteArray) (w : World) (hm : s.size ≤ 140737488355328) :
    Calls Tryz.prog 86 #[.string s] w fun e w' => OneEnd s.data.toList e ∧ w = w' := by
  by_cases h : s.size = 0
  · exact one_0 s w h
  have h : 0 < s.size := by omega
  by_cases h1 : (s[0].toNat : Int) < 128
  · exact one_1 s w hm h h1
  by_cases h2 : (s[0].toNat : Int) < 192 ∨ 248 ≤ (s[0].toNat : Int)
  · exact one_bad s w hm h (by omega) h2
  by_cases h3 : (s.size : Int) < leadN s[0].toNat
  · exact one_short s w hm h (by omega) (by omega) h3
  by_cases c2 : (s[0].toNat : Int) < 224
  · have e1 : leadN s[0].toNat = 2 := by unfold leadN; rw [if_pos (by omega)]
    have e2 : leadV s[0].toNat = s[0].toNat - 192 := by unfold leadV; rw [if_pos (by omega)]
    exact one_2b s w hm h (by omega) c2 (by omega) (one_lead s h 2 _ e1 e2 (by omega) (by omega) (by omega))
  by_cases c3 : (s[0].toNat : Int) < 240
  · have e1 : leadN s[0].toNat = 3 := by unfold leadN; rw [if_neg (by omega), if_pos (by omega)]
    have e2 : leadV s[0].toNat = s[0].toNat - 224 := by unfold leadV; rw [if_neg (by omega), if_pos (by omega)]
    exact one_3b s w hm h (by omega) c3 (by omega) (one_lead s h 3 _ e1 e2 (by omega) (by omega) (by omega))
  · have e1 : leadN s[0].toNat = 4 := by unfold leadN; rw [if_neg (by omega), if_neg (by omega), if_pos (by omega)]
    have e2 : leadV s[0].toNat = s[0].toNat - 240 := by unfold leadV; rw [if_neg (by omega), if_neg (by omega), if_pos (by omega)]
    exact one_4b s w hm h (by omega) (by omega) (by omega) (one_lead s h 4 _ e1 e2 (by omega) (by omega) (by omega))
theorem one_any (s : ByteArray) (w : World) (hm : s.size ≤ 140737488355328) :
    Calls Tryz.prog 86 #[.string s] w fun e w' => e = .returned (.tuple #[.int .i64 (oneL s.data.toList).1, .int .i64 (oneL s.data.toList).2]) ∧ w = w' := one_end s w hm

/-- What Runes leaves, by what the bytes are. -/
def RunesPost (w : World) (l : List UInt8) (e : Ending) (w' : World) : Prop :=
  ∃ v, e = .returned (.tuple #[v, .bool (runesL l).isSome]) ∧ ORow w' w.heap.size 3 v (((runesL l).getD []).map iV) ∧ Below w.heap.size w w'

theorem runesPost_some {w wr : World} {v : Value} {out : List Int} {l : List UInt8} (h : runesL l = some out) (ho : ORow wr w.heap.size 3 v (out.map iV)) (hb : Below w.heap.size w wr) : RunesPost w l (.returned (.tuple #[v, .bool true])) wr :=
  ⟨v, by rw [h]; rfl, by rw [h]; exact ho, hb⟩
theorem runesPost_none {w wr : World} {l : List UInt8} (h : runesL l = none) (hb : Below w.heap.size w wr) : RunesPost w l (.returned (.tuple #[.slice none 0 0, .bool false])) wr :=
  ⟨_, by rw [h]; rfl, by rw [h]; exact ORow.nil _ _ _, hb⟩

def strSize : Value → Nat | .string s => s.size | _ => 0
set_option maxHeartbeats 1000000 in
theorem rrunes_any (s : ByteArray) (w : World) (hm : s.size ≤ 1099511627776) :
    Calls Tryz.prog 51 #[.string s] w (RunesPost w s.data.toList) := by
  go_enter Tryz.func51, Tryz.ntmps51
  go_wp2
  go_loopw [0, 4] (fun t v wr => ∃ (s' : ByteArray) (out : List Int), t = .string s' ∧ s'.size + out.length ≤ s.size ∧ ORow wr w.heap.size 3 v (out.map iV) ∧ Below w.heap.size w wr ∧ Hid (runesL s.data.toList = runesGo (rn0 out) s'.data.toList)) (fun t _ _ => strSize t)
  case atStart => exact ⟨s, [], rfl, by simp, ORow.nil _ _ _, Below.refl _ _, Lib.hid rfl⟩
  case round =>
    obtain ⟨s', out, rfl, hsz, hown, hbel, HR⟩ := hrel
    by_cases hpos : 0 < s'.size
    · have hcs := charStep out s'[0] (s'.data.toList.drop 1)
      rw [← bytes_cons s' hpos] at hcs
      unfold CharStep at hcs
      by_cases hz : (oneL s'.data.toList).2 = 0
      · rw [if_pos hz] at hcs
        have hnone : runesL s.data.toList = none := by rw [HR.out, hcs]
        have HN := Lib.hid hnone
        clear hnone hcs
        have hbz : ((oneL s'.data.toList).2 == 0) = true := beq_iff_eq.2 hz
        have HZ := Lib.hid hz
        clear hz
        go_wp2_with (first
          | (go_at_call 86; refine (one_any _ _ (by omega)).mono ?_; rintro e w' ⟨rfl, rfl⟩))
        go_ret2
        exact runesPost_none HN.out hbel
      · rw [if_neg hz] at hcs
        obtain ⟨h1, h2, h3⟩ := hcs
        have HC := Lib.hid h3
        clear h3
        have hbz : ((oneL s'.data.toList).2 == 0) = false := beq_eq_false_iff_ne.2 hz
        clear hz
        generalize hO : oneL s'.data.toList = O at *
        have HOO := Lib.hid hO
        clear hO
        rw [show s'.data.toList.length = s'.size from by simp] at h2
        have hbs := hbel.size
        go_wp2_with (first
          | (go_at_call 86; refine (one_any _ _ (by omega)).mono ?_; rintro e w' ⟨rfl, rfl⟩; rw [HOO.out])
          | (at_builtin; refine wp_app1b rfl _ _ 27 rfl w.heap.size 3 (.int .i64 0) 8 Tryz.underlying27 Tryz.info3 rfl _ _ _ rfl (by exact hown) rfl _ rfl (by simp [maxLen]; omega) (by simp; omega) hbs ?_; intro v1 w1 hown1 hb1))
        have hrow : ORow w1 w.heap.size 3 v1 ((out ++ [O.1]).map iV) := by simpa [iV] using hown1
        have hbel1 := hbel.trans (hb1.mono (Nat.le_refl _))
        clear hown hown1 hb1
        go_roundw
        case rel =>
          refine ⟨_, out ++ [O.1], rfl, ?_, hrow, hbel1, Lib.hid ?_⟩
          · simp
            omega
          · rw [HR.out, HC.out, extract_all]
        case measure => simp [strSize]; omega
    · have hz : s'.size = 0 := by omega
      have hl : s'.data.toList = [] := List.eq_nil_of_length_eq_zero (by simpa using hz)
      have hsome : runesL s.data.toList = some out := by rw [HR.out, hl]; rfl
      have HN := Lib.hid hsome
      clear hsome hl hz
      go_wp2
      go_ret2
      exact runesPost_some HN.out hown hbel

end Go.Proofs.YtonelabeflcplaaGreatDoor
namespace Go.Proofs.YtonelabeflcplaaGreatDoor
open Go.RowKit
set_option maxRecDepth 100000

theorem valid_any (s : ByteArray) (w : World) (hm : s.size ≤ 1099511627776) :
    Calls Tryz.prog 29 #[.string s] w fun e w' => e = .returned (.bool (runesL s.data.toList).isSome) ∧ Below w.heap.size w w' := by
  go_enter Tryz.func29, Tryz.ntmps29
  go_wp2_with (first
    | (go_at_call 51; refine (rrunes_any s _ hm).mono ?_; rintro e w1 ⟨v, rfl, _, hb1⟩))
  go_ret
  exact ⟨rfl, hb1⟩

end Go.Proofs.YtonelabeflcplaaGreatDoor

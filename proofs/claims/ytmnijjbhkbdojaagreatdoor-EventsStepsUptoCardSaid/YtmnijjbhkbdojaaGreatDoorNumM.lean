/-
  The reference's digits and Form: their contracts.
-/
import Derived.Test.YtmnijjbhkbdojaaGreatDoorNumD
import Derived.Test.YtmnijjbhkbdojaaGreatDoorNumT
namespace Go.Proofs.YtmnijjbhkbdojaaGreatDoor.Nm
open Go.RowKit
set_option maxRecDepth 100000

theorem size_of (l : List UInt8) : (⟨l.toArray⟩ : ByteArray).size = l.length := by simp [ByteArray.size]
def strSize : Value → Nat | .string s => s.size | _ => 0
/-- What digits has laid before l. -/
def preD (u : Nat) (l : List UInt8) : List UInt8 := if u = 0 ∧ l ≠ [] then l else Lib.decDigits u ++ l
theorem preD_step (u : Nat) (l : List UInt8) (h : 0 < u ∨ l = []) : preD u l = preD (u / 10) (UInt8.ofNat (48 + u % 10) :: l) := by
  unfold preD
  rw [if_neg (by rintro ⟨h1, h2⟩; rcases h with h | h; omega; exact h2 h)]
  by_cases hu : u < 10
  · rw [if_pos ⟨by omega, by simp⟩, Lib.decDigits, dif_pos hu, Nat.mod_eq_of_lt hu]
    rfl
  · rw [if_neg (by rintro ⟨h1, _⟩; omega), Lib.decDigits, dif_neg hu]
    simp

theorem one_app (a : UInt8) (l : List UInt8) : (⟨#[a]⟩ ++ ⟨l.toArray⟩ : ByteArray) = ⟨(a :: l).toArray⟩ := by
  apply ByteArray.ext
  simp [ByteArray.data_append]
theorem ofNat_48 (k : Nat) : 48 + UInt8.ofNat k = UInt8.ofNat (48 + k) := by
  rw [UInt8.ofNat_add]
  rfl
theorem app_48 (k : Nat) (l : List UInt8) : (⟨#[48 + UInt8.ofNat k]⟩ ++ ⟨l.toArray⟩ : ByteArray) = ⟨(UInt8.ofNat (48 + k) :: l).toArray⟩ := by
  rw [ofNat_48, one_app]

set_option maxHeartbeats 1000000 in
theorem rdigits_any (N : Nat) (i : Int) (hi : i = (N : Int)) (w : World) (hN : N ≤ 4611686018427387904) :
    Calls Tryz.prog 60 #[.int .i64 i] w fun e w' => e = .returned (.string ⟨(Lib.decDigits N).toArray⟩) ∧ Below w.heap.size w w' := by
  subst hi
  go_enter Tryz.func60, Tryz.ntmps60
  go_wp2
  go_loopw [0, 3] (fun n o wr => ∃ (u : Nat) (l : List UInt8), n = .int .i64 u ∧ o = .string ⟨l.toArray⟩ ∧ u ≤ N ∧ l.length + u ≤ N + 1 ∧ Below w.heap.size w wr ∧ Hid (Lib.decDigits N = preD u l)) (fun n o _ => 2 * (intOf n).toNat + (1 - strSize o))
  case atStart => exact ⟨N, [], rfl, rfl, Nat.le_refl _, by simp, Below.refl _ _, Lib.hid (by unfold preD; simp)⟩
  case round =>
    obtain ⟨u, l, rfl, rfl, hu, hlu, hb, HP⟩ := hrel
    have hlen := size_of l
    have hl1 : l.length ≤ N + 1 := by omega
    have hsz : (⟨l.toArray⟩ : ByteArray).size ≤ N + 1 := by omega
    by_cases hc : 0 < u ∨ l = []
    · have hst := preD_step u l hc
      have HS := Lib.hid hst
      have hd0 : 0 ≤ (u : Int) % 10 := by omega
      have hd1 : (u : Int) % 10 < 10 := by omega
      have hrow : ORow (wr.alloc (.cells #[.int .u8 (48 + (u : Int) % 10)] 5)) wr.heap.size 5 (.slice (some ⟨wr.heap.size, 0, none⟩) 1 1) ([UInt8.ofNat (48 + u % 10)].map bV) := by
        have e : ([UInt8.ofNat (48 + u % 10)].map bV) = [.int .u8 (48 + (u : Int) % 10)] := by
          simp only [List.map_cons, List.map_nil, bV]
          rw [digit_ofNat (u % 10) (by omega)]
          push_cast
          rfl
        rw [e]
        exact ORow.lit wr _ _ _ (Nat.le_refl _) (by simp [maxLen])
      have hstr := put_str _ hrow
      have hbs := hb.size
      clear hst hrow
      by_cases hu0 : 0 < u
      · have hc2 : 0 < (u : Int) := by omega
        have hnil : ¬ ((⟨l.toArray⟩ : ByteArray).size < 0) := by omega
        clear hc
        go_wp2
        refine ⟨⟨u / 10, UInt8.ofNat (48 + u % 10) :: l, by go_num, by rw [app_48], by omega, by simp; omega, hb.alloc hbs _, Lib.hid (HP.out.trans HS.out)⟩, ?_⟩
        simp [intOf, strSize] <;> omega
      · have hl : l = [] := by
          rcases hc with hc | hc
          · exact absurd hc hu0
          · exact hc
        subst hl
        have hz : u = 0 := by omega
        have hrow0 : ORow (wr.alloc (.cells #[.int .u8 48] 5)) wr.heap.size 5 (.slice (some ⟨wr.heap.size, 0, none⟩) 1 1) ([48].map bV) := ORow.lit wr _ _ #[.int .u8 48] (Nat.le_refl _) (by simp [maxLen])
        clear hstr
        have hstr := put_str _ hrow0
        subst hz
        clear hc hrow0
        go_wp2
        refine ⟨⟨0, [48], by go_num, rfl, by omega, by simp, hb.alloc hbs _, Lib.hid (HP.out.trans HS.out)⟩, ?_⟩
        decide
    · have hu0 : u = 0 := by omega
      have hl0 : l ≠ [] := fun h => hc (.inr h)
      subst hu0
      have hfin : Lib.decDigits N = l := by rw [HP.out]; unfold preD; rw [if_pos ⟨rfl, hl0⟩]
      have HF := Lib.hid hfin
      have hn1 : (⟨l.toArray⟩ : ByteArray).toList.isEmpty = false := by rw [Lib.toList_data]; cases l with
        | nil => exact absurd rfl hl0
        | cons a l => rfl
      have hn2 : ((⟨l.toArray⟩ : ByteArray).toList == []) = false := by rw [Lib.toList_data]; cases l with
        | nil => exact absurd rfl hl0
        | cons a l => rfl
      have hn3 : l.isEmpty = false := by cases l with
        | nil => exact absurd rfl hl0
        | cons a l => rfl
      have hn4 : (l == []) = false := by cases l with
        | nil => exact absurd rfl hl0
        | cons a l => rfl
      clear hc hfin
      go_wp2
      go_ret
      exact ⟨ret_str HF.out.symm, hb⟩
end Go.Proofs.YtmnijjbhkbdojaaGreatDoor.Nm

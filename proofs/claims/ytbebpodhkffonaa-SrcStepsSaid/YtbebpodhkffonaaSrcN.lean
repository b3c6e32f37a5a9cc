/-
  The reference's begins and Begins.
-/
import Derived.Test.YtbebpodhkffonaaSrcB
import Derived.Test.YtbebpodhkffonaaSrcG
import Derived.Test.YtbebpodhkffonaaBeg
namespace Go.Proofs.Ytbebpodhkffonaa
open Go.RowKit
set_option maxRecDepth 100000

def BegSaid (f : Nat) : Prop := ∀ (t : ByteArray) (w : World), t.size + f = 4 → 0 < t.size →
  Calls Try.prog 24 #[.string t] w fun e w' => e = .returned (.bool (begL f t.data.toList)) ∧ Below w.heap.size w w'

theorem fstI_of (t : ByteArray) (h : 0 < t.size) : fstI t.data.toList = t[0].toNat := by rw [bytes_cons t h]; rfl

theorem begins_whole (f : Nat) (t : ByteArray) (w : World) (hf : t.size ≤ 4) (h : (oneL t.data.toList).2 = (t.size : Int)) :
    Calls Try.prog 24 #[.string t] w fun e w' => e = .returned (.bool (begL f t.data.toList)) ∧ Below w.heap.size w w' := by
  have hb : begL f t.data.toList = true := by
    have e : (oneL t.data.toList).2 = (t.data.toList.length : Int) := by rw [h]; simp
    cases f <;> simp [begL, e]
  have HB := Lib.hid hb
  clear hb
  have hq : ((oneL t.data.toList).2 == (t.size : Int)) = true := beq_iff_eq.2 h
  clear h
  go_enter Try.func24, Try.ntmps24
  go_wp2_with (first
    | (go_at_call 13; refine (one_any _ _ (by omega)).mono ?_; rintro e w' ⟨rfl, rfl⟩))
  go_ret
  exact ⟨by rw [HB.out]; rfl, Below.refl _ _⟩

theorem begins_zero : BegSaid 0 := by
  intro t w hf hp
  by_cases h : (oneL t.data.toList).2 = (t.size : Int)
  · exact begins_whole 0 t w (by omega) h
  · have hb : begL 0 t.data.toList = false := by
      simp only [begL]
      exact decide_eq_false (by simpa using h)
    have HB := Lib.hid hb
    clear hb
    have hq : ((oneL t.data.toList).2 == (t.size : Int)) = false := beq_eq_false_iff_ne.2 h
    clear h
    have h4 : 4 ≤ (t.size : Int) := by omega
    go_enter Try.func24, Try.ntmps24
    go_wp2_with (first
      | (go_at_call 13; refine (one_any _ _ (by omega)).mono ?_; rintro e w' ⟨rfl, rfl⟩))
    go_ret
    exact ⟨by rw [HB.out]; rfl, Below.refl _ _⟩

set_option maxHeartbeats 1000000 in
theorem begins_succ (f : Nat) (ih : BegSaid f) : BegSaid (f + 1) := by
  intro t w hf hp
  by_cases h : (oneL t.data.toList).2 = (t.size : Int)
  · exact begins_whole (f + 1) t w (by omega) h
  have hd : decide ((oneL t.data.toList).2 = (t.data.toList.length : Int)) = false := decide_eq_false (by simpa using h)
  have hq : ((oneL t.data.toList).2 == (t.size : Int)) = false := beq_eq_false_iff_ne.2 h
  clear h
  have h4 : (t.size : Int) < 4 := by omega
  have hle := byte_le t[0]
  by_cases hc : (t[0].toNat : Int) < 192
  · have hb : begL (f + 1) t.data.toList = false := by
      simp only [begL, hd, Bool.false_or, fstI_of t hp]
      rw [decide_eq_false (by omega)]; rfl
    have HB := Lib.hid hb
    clear hb hd
    go_enter Try.func24, Try.ntmps24
    go_wp2_with (first
      | (go_at_call 13; refine (one_any _ _ (by omega)).mono ?_; rintro e w' ⟨rfl, rfl⟩))
    go_ret
    exact ⟨by rw [HB.out]; rfl, Below.refl _ _⟩
  · have hb : begL (f + 1) t.data.toList = (List.range 64).any fun d => begL f (t.data.toList ++ [bt d]) := by
      simp only [begL, hd, Bool.false_or, fstI_of t hp]
      rw [decide_eq_true (by omega)]; rfl
    have HB := Lib.hid hb
    have IH := Lib.hid ih
    clear hb hd ih
    have hc' : 192 ≤ (t[0].toNat : Int) := by omega
    clear hc
    go_enter Try.func24, Try.ntmps24
    go_wp2_with (first
      | (go_at_call 13; refine (one_any _ _ (by omega)).mono ?_; rintro e w' ⟨rfl, rfl⟩))
    go_loopw [5] (fun d wr => ∃ k : Nat, k ≤ 64 ∧ d = .int .i64 (128 + (k : Int)) ∧ Below w.heap.size w wr ∧ Hid (∀ j, j < k → begL f (t.data.toList ++ [bt j]) = false)) (fun d _ => (192 - intOf d).toNat)
    case atStart => exact ⟨0, by omega, rfl, Below.refl _ _, Lib.hid (fun j hj => absurd hj (by omega))⟩
    case round =>
      obtain ⟨k, hk, rfl, hbel, HN⟩ := hrel
      by_cases hlt : k < 64
      · have hrow : ORow (wr.alloc (.cells #[.int .u8 (128 + (k : Int))] 5)) wr.heap.size 5 (.slice (some ⟨wr.heap.size, 0, none⟩) 1 1) ([bt k].map bV) := by
          have e1 : bV (bt k) = .int .u8 (128 + (k : Int)) := by unfold bV; rw [bt_nat hlt]; simp
          simp only [List.map_cons, List.map_nil]
          rw [e1]
          exact ORow.lit wr _ _ _ (Nat.le_refl _) (by simp [maxLen])
        have hstr := put_str _ hrow
        have hk2 : (k : Int) < 64 := by omega
        have hbs := hbel.size
        clear hrow
        have hdat : (t ++ ⟨#[bt k]⟩ : ByteArray).data.toList = t.data.toList ++ [bt k] := by simp
        have hsz : (t ++ ⟨#[bt k]⟩ : ByteArray).size = t.size + 1 := by rw [ByteArray.size_append]; rfl
        have HD := Lib.hid hdat
        have HZ := Lib.hid hsz
        clear hdat hsz
        have hbel' : Below w.heap.size w (wr.alloc (.cells #[.int .u8 (128 + (k : Int))] 5)) := hbel.alloc hbs _
        go_wp2_with fail
        refine (IH.out _ _ (by rw [HZ.out]; omega) (by rw [HZ.out]; omega)).mono ?_
        rintro e w1 ⟨rfl, hb1⟩
        rw [HD.out]
        have hbel1 := hbel'.trans (hb1.mono (by simp; omega))
        clear hb1 hbel' hbel hstr
        generalize hR : begL f (t.data.toList ++ [bt k]) = R
        have HR := Lib.hid hR
        clear hR
        cases R
        · go_wp2
          go_roundw
          case rel =>
            refine ⟨k + 1, by omega, by go_num, hbel1, Lib.hid (fun j hj => ?_)⟩
            rcases Nat.lt_or_ge j k with h' | h'
            · exact HN.out j h'
            · have : j = k := by omega
              subst this
              exact HR.out
          case measure => simp [intOf]; omega
        · have htrue : begL (f + 1) t.data.toList = true := by
            rw [HB.out, List.any_eq_true]
            exact ⟨k, by simpa using hlt, HR.out⟩
          have HT := Lib.hid htrue
          clear htrue
          go_wp2
          go_ret
          exact ⟨by rw [HT.out]; rfl, hbel1⟩
      · have hk64 : k = 64 := by omega
        subst hk64
        have hfalse : begL (f + 1) t.data.toList = false := by
          rw [HB.out, List.any_eq_false]
          intro d hd
          rw [HN.out d (by simpa using hd)]
          decide
        have HT := Lib.hid hfalse
        clear hfalse
        go_wp2
        go_ret
        exact ⟨by rw [HT.out]; rfl, hbel⟩

theorem begins_any : ∀ f, BegSaid f
  | 0 => begins_zero
  | f + 1 => begins_succ f (begins_any f)

/-- Begins of what is open of a character and one byte more. -/
theorem Begins_whole (t : ByteArray) (w : World) (hp : 0 < t.size) (h4 : t.size ≤ 4) (h : (oneL t.data.toList).2 = (t.size : Int)) :
    Calls Try.prog 11 #[.string t] w fun e w' => e = .returned (.bool true) ∧ Below w.heap.size w w' := by
  have hq : ((t.size : Int) == 0) = false := beq_eq_false_iff_ne.2 (by omega)
  generalize hO : oneL t.data.toList = O at *
  obtain ⟨r, n⟩ := O
  simp only at h
  subst h
  have HO := Lib.hid hO
  clear hO
  go_enter Try.func11, Try.ntmps11
  go_wp2
  go_loopw [0] (fun s wr => ((s = .string t) ∨ ∃ u : ByteArray, s = .string u ∧ u.size = 0) ∧ Below w.heap.size w wr) (fun s _ => strSize s)
  case atStart => exact ⟨.inl rfl, Below.refl _ _⟩
  case round =>
    obtain ⟨hs, hbel⟩ := hrel
    rcases hs with rfl | ⟨u, rfl, hu⟩
    · go_wp2_with (first
        | (go_at_call 13; refine (one_any _ _ (by omega)).mono ?_; rintro e w' ⟨rfl, rfl⟩; rw [HO.out]))
      go_roundw
      case rel => exact ⟨.inr ⟨_, rfl, by simp⟩, hbel⟩
      case measure => simp [strSize]; omega
    · have hu' : ¬ 0 < (u.size : Int) := by omega
      clear hu
      go_wp2
      go_ret
      exact ⟨rfl, hbel⟩
theorem Begins_open (f : Nat) (t : ByteArray) (w : World) (hp : 0 < t.size) (h4 : t.size + f = 4) (h : (oneL t.data.toList).2 = 0) :
    Calls Try.prog 11 #[.string t] w fun e w' => e = .returned (.bool (begL f t.data.toList)) ∧ Below w.heap.size w w' := by
  generalize hO : oneL t.data.toList = O at *
  obtain ⟨r, n⟩ := O
  simp only at h
  subst h
  have HO := Lib.hid hO
  have H4 := Lib.hid h4
  have h5 : t.size ≤ 4 := by omega
  clear hO h4
  go_enter Try.func11, Try.ntmps11
  go_wp2
  go_loopw [0] (fun s wr => s = .string t ∧ wr = w) (fun s _ => strSize s)
  case atStart => exact ⟨rfl, rfl⟩
  case round =>
    obtain ⟨rfl, rfl⟩ := hrel
    go_wp2_with (first
      | (go_at_call 13; refine (one_any _ _ (by omega)).mono ?_; rintro e w' ⟨rfl, rfl⟩; rw [HO.out])
      | (go_at_call 24; refine (begins_any f t _ H4.out hp).mono ?_; rintro e w' ⟨rfl, hb1⟩))
    go_ret
    exact ⟨rfl, hb1⟩
end Go.Proofs.Ytbebpodhkffonaa

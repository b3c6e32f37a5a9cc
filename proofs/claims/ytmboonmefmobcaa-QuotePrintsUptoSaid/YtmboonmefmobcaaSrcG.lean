/-
  The reference's One and Runes, whole; 'same' of two lists.
-/
import Derived.Test.YtmboonmefmobcaaRead
import Derived.Test.YtmboonmefmobcaaSrcF2
import Derived.Test.YtmboonmefmobcaaSrcF3
import Derived.Test.YtmboonmefmobcaaSrcF4
import Derived.Test.YtmboonmefmobcaaUtf
import Derived.Lib.Strings
import Derived.BigQuiet
import Derived.Deep.QuietTactic
namespace Go.Proofs.Ytmboonmefmobcaa
open Go.RowKit
set_option maxRecDepth 100000

theorem one_lead (s : ByteArray) (h : 0 < s.size) (n : Nat) (v : Int) (e1 : leadN s[0].toNat = n) (e2 : leadV s[0].toNat = v) (h0 : 128 ≤ (s[0].toNat : Int)) (hn : 1 ≤ n) (hs : n ≤ s.size) :
    oneL s.data.toList = oneFin n (tails v ((s.data.toList.drop 1).take (n - 1))) := by
  have hz : ((s.data.toList.drop 1).length : Int) + 1 = s.size := by simp; omega
  have e0 := bytes_cons s h
  generalize s.data.toList.drop 1 = T at *
  rw [e0, oneL, if_neg (by omega), e1, e2, if_neg (by omega), show ((n : Int) - 1).toNat = n - 1 from by omega]
  cases tails v (T.take (n - 1)) <;> rfl

theorem one_end (s : ByteArray) (w : World) (hm : s.size ≤ 140737488355328) :
    Calls Try.prog 23 #[.string s] w fun e w' => OneEnd s.data.toList e ∧ w = w' := by
  by_cases h : s.size = 0
  · exact one_0 s w h
  have h : 0 < s.size := by omega
  by_cases h1 : (s[0].toNat : Int) < 128
  · exact one_1 s w hm h h1
  by_cases h2 : (s[0].toNat : Int) < 192 ∨ 248 ≤ (s[0].toNat : Int)
  · exact one_bad s w hm h (by omega) h2
  by_cases h3 : (s.size : Int) < leadN s[0].toNat
  · exact one_short s w hm h (by omega) (by omega) h3
  by_cases c2 : (s[0].toNat : Int) < 224
  · have e1 : leadN s[0].toNat = 2 := by unfold leadN; rw [if_pos (by omega)]
    have e2 : leadV s[0].toNat = s[0].toNat - 192 := by unfold leadV; rw [if_pos (by omega)]
    exact one_2b s w hm h (by omega) c2 (by omega) (one_lead s h 2 _ e1 e2 (by omega) (by omega) (by omega))
  by_cases c3 : (s[0].toNat : Int) < 240
  · have e1 : leadN s[0].toNat = 3 := by unfold leadN; rw [if_neg (by omega), if_pos (by omega)]
    have e2 : leadV s[0].toNat = s[0].toNat - 224 := by unfold leadV; rw [if_neg (by omega), if_pos (by omega)]
    exact one_3b s w hm h (by omega) c3 (by omega) (one_lead s h 3 _ e1 e2 (by omega) (by omega) (by omega))
  · have e1 : leadN s[0].toNat = 4 := by unfold leadN; rw [if_neg (by omega), if_neg (by omega), if_pos (by omega)]
    have e2 : leadV s[0].toNat = s[0].toNat - 240 := by unfold leadV; rw [if_neg (by omega), if_neg (by omega), if_pos (by omega)]
    exact one_4b s w hm h (by omega) (by omega) (by omega) (one_lead s h 4 _ e1 e2 (by omega) (by omega) (by omega))
theorem one_any (s : ByteArray) (w : World) (hm : s.size ≤ 140737488355328) :
    Calls Try.prog 23 #[.string s] w fun e w' => e = .returned (.tuple #[.int .i64 (oneL s.data.toList).1, .int .i64 (oneL s.data.toList).2]) ∧ w = w' := one_end s w hm

/-- What Runes leaves, by what the bytes are. -/
def RunesPost (w : World) (l : List UInt8) (e : Ending) (w' : World) : Prop :=
  ∃ v, e = .returned (.tuple #[v, .bool (runesL l).isSome]) ∧ ORow w' w.heap.size 3 v (((runesL l).getD []).map iV) ∧ Below w.heap.size w w'

theorem runesPost_some {w wr : World} {v : Value} {out : List Int} {l : List UInt8} (h : runesL l = some out) (ho : ORow wr w.heap.size 3 v (out.map iV)) (hb : Below w.heap.size w wr) : RunesPost w l (.returned (.tuple #[v, .bool true])) wr :=
  ⟨v, by rw [h]; rfl, by rw [h]; exact ho, hb⟩
theorem runesPost_none {w wr : World} {l : List UInt8} (h : runesL l = none) (hb : Below w.heap.size w wr) : RunesPost w l (.returned (.tuple #[.slice none 0 0, .bool false])) wr :=
  ⟨_, by rw [h]; rfl, by rw [h]; exact ORow.nil _ _ _, hb⟩

def strSize : Value → Nat | .string s => s.size | _ => 0
set_option maxHeartbeats 1000000 in
theorem rrunes_any (s : ByteArray) (w : World) (hm : s.size ≤ 1099511627776) :
    Calls Try.prog 19 #[.string s] w (RunesPost w s.data.toList) := by
  go_enter Try.func19, Try.ntmps19
  go_wp2
  go_loopw [0, 4] (fun t v wr => ∃ (s' : ByteArray) (out : List Int), t = .string s' ∧ s'.size + out.length ≤ s.size ∧ ORow wr w.heap.size 3 v (out.map iV) ∧ Below w.heap.size w wr ∧ Hid (runesL s.data.toList = runesGo (rn0 out) s'.data.toList)) (fun t _ _ => strSize t)
  case atStart => exact ⟨s, [], rfl, by simp, ORow.nil _ _ _, Below.refl _ _, Lib.hid rfl⟩
  case round =>
    obtain ⟨s', out, rfl, hsz, hown, hbel, HR⟩ := hrel
    by_cases hpos : 0 < s'.size
    · have hcs := charStep out s'[0] (s'.data.toList.drop 1)
      rw [← bytes_cons s' hpos] at hcs
      unfold CharStep at hcs
      by_cases hz : (oneL s'.data.toList).2 = 0
      · rw [if_pos hz] at hcs
        have hnone : runesL s.data.toList = none := by rw [HR.out, hcs]
        have HN := Lib.hid hnone
        clear hnone hcs
        have hbz : ((oneL s'.data.toList).2 == 0) = true := beq_iff_eq.2 hz
        have HZ := Lib.hid hz
        clear hz
        go_wp2_with (first
          | (go_at_call 23; refine (one_any _ _ (by omega)).mono ?_; rintro e w' ⟨rfl, rfl⟩))
        go_ret2
        exact runesPost_none HN.out hbel
      · rw [if_neg hz] at hcs
        obtain ⟨h1, h2, h3⟩ := hcs
        have HC := Lib.hid h3
        clear h3
        have hbz : ((oneL s'.data.toList).2 == 0) = false := beq_eq_false_iff_ne.2 hz
        clear hz
        generalize hO : oneL s'.data.toList = O at *
        have HOO := Lib.hid hO
        clear hO
        rw [show s'.data.toList.length = s'.size from by simp] at h2
        have hbs := hbel.size
        go_wp2_with (first
          | (go_at_call 23; refine (one_any _ _ (by omega)).mono ?_; rintro e w' ⟨rfl, rfl⟩; rw [HOO.out])
          | (at_builtin; refine wp_app1b rfl _ _ 46 rfl w.heap.size 3 (.int .i64 0) 8 Try.underlying46 Try.info3 rfl _ _ _ rfl (by exact hown) rfl _ rfl (by simp [maxLen]; omega) (by simp; omega) hbs ?_; intro v1 w1 hown1 hb1))
        have hrow : ORow w1 w.heap.size 3 v1 ((out ++ [O.1]).map iV) := by simpa [iV] using hown1
        have hbel1 := hbel.trans (hb1.mono (Nat.le_refl _))
        clear hown hown1 hb1
        go_roundw
        case rel =>
          refine ⟨_, out ++ [O.1], rfl, ?_, hrow, hbel1, Lib.hid ?_⟩
          · simp
            omega
          · rw [HR.out, HC.out, extract_all]
        case measure => simp [strSize]; omega
    · have hz : s'.size = 0 := by omega
      have hl : s'.data.toList = [] := List.eq_nil_of_length_eq_zero (by simpa using hz)
      have hsome : runesL s.data.toList = some out := by rw [HR.out, hl]; rfl
      have HN := Lib.hid hsome
      clear hsome hl hz
      go_wp2
      go_ret2
      exact runesPost_some HN.out hown hbel

end Go.Proofs.Ytmboonmefmobcaa

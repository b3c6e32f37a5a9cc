/-
  An Anchors and all that its calls ask: as the laws use it.
-/
import Derived.Test.YtkghdieakpipkaaGreatDoorAnQ36
namespace Go.Proofs.YtkghdieakpipkaaGreatDoor
open Go.RowKit Go.Maps
set_option maxRecDepth 100000
set_option linter.unusedSimpArgs false
set_option linter.unusedVariables false

structure AIs (B : Nat) (w : World) (S : Nat → Prop) (a : Nat) (s : Am) : Prop where
  lies : AAt w S a s
  inv : AInv s
  lo : ∀ k, S k → B ≤ k
  sz : B ≤ w.heap.size
  std : SWB B w
/-- What a call gives: the Anchors behind it, of blocks that it had or that are new. -/
def AnPo (B : Nat) (w : World) (S : Nat → Prop) (a : Nat) (s : Am) (w' : World) : Prop := ∃ S', AIs B w' S' a s ∧ TS S anyO w w' ∧ Below B w w' ∧ ∀ k, S' k → S k ∨ w.heap.size ≤ k
section
variable {B : Nat} {w w' : World} {S : Nat → Prop} {a : Nat} {s s' : Am}
theorem AIs.post (h : AIs B w S a s) (hA : AAt w' (Ext S w w') a s') (hI : AInv s') (ht : TS S anyO w w') : AnPo B w S a s' w' := by
  have hb := ht.below h.sz h.lo
  refine ⟨Ext S w w', ⟨hA, hI, ?_, Nat.le_trans h.sz ht.size, h.std.below hb⟩, ht, hb, ?_⟩
  · rintro k (h1 | ⟨h1, _⟩)
    · exact h.lo k h1
    · have := h.sz; omega
  · rintro k (h1 | ⟨h1, _⟩)
    · exact .inl h1
    · exact .inr h1
theorem AIs.off {T : Nat → Prop} {p : Obj → Prop} (h : AIs B w S a s) (ht : TS T p w w') (hd : ∀ k, S k → ¬ T k) (hT : ∀ k, T k → B ≤ k) : AIs B w' S a s :=
  ⟨h.lies.off ht hd, h.inv, h.lo, Nat.le_trans h.sz ht.size, h.std.ts ht h.sz hT⟩
theorem AIs.below (h : AIs B w S a s) (hb : Below w.heap.size w w') : AIs B w' S a s :=
  h.off (T := fun _ => False) (p := anyO) (TS.of_below hb) (fun _ _ h => h) (fun _ h => h.elim)
end
theorem new_is (B : Nat) (w : World) (hB : B ≤ w.heap.size) (hw : SWB B w) : Calls Tryz.prog 7 #[] w fun e w' => ∃ a, e = .returned (.pointer (some ⟨a, 0, none⟩)) ∧ Below w.heap.size w w' ∧ ∃ S, AIs B w' S a ⟨[], 0⟩ ∧ ∀ k, S k → w.heap.size ≤ k := by
  refine (anew_any w).mono ?_
  rintro e w' ⟨a, rfl, hA, hb⟩
  refine ⟨a, rfl, hb, _, ⟨hA, ainv0, ?_, Nat.le_trans hB hb.size, hw.below (hb.mono hB)⟩, ?_⟩
  · rintro k (h | ⟨h, _⟩)
    · exact h.elim
    · omega
  · rintro k (h | ⟨h, _⟩)
    · exact h.elim
    · exact h
theorem open_is {B : Nat} {w : World} {S : Nat → Prop} {a : Nat} {s : Am} (h : AIs B w S a s) (n : ByteArray) (hn : n.size ≤ 140737488355328) :
    Calls Tryz.prog 14 #[.pointer (some ⟨a, 0, none⟩), .string n] w fun e w' => e = .returned (.int .i64 (openE s n.data.toList)) ∧ AnPo B w S a (openM s n.data.toList) w' := by
  refine (aopen_any w S a s n h.lies h.inv hn).mono ?_
  rintro e w' ⟨rfl, hA, ht⟩
  exact ⟨rfl, h.post hA (ainv_open h.inv _) ht⟩
theorem step_is {B : Nat} {w : World} {S : Nat → Prop} {a : Nat} {s : Am} (h : AIs B w S a s) (x : Ev) (hx : okE x) :
    Calls Tryz.prog 15 #[.pointer (some ⟨a, 0, none⟩), .agg #[.int .i64 x.k, .string x.t, .string x.v]] w fun e w' => e = .returned (.int .i64 (stepAE s x)) ∧ AnPo B w S a (stepAM s x) w' := by
  refine (astep_any w S a s x B h.lies h.inv hx h.lo h.sz h.std).mono ?_
  rintro e w' ⟨rfl, hA, ht⟩
  exact ⟨rfl, h.post hA (ainv_step h.inv _) ht⟩
theorem get_is {B : Nat} {w : World} {S : Nat → Prop} {a : Nat} {s : Am} (h : AIs B w S a s) (n : ByteArray) (hn : n.size ≤ 140737488355328) :
    Calls Tryz.prog 17 #[.pointer (some ⟨a, 0, none⟩), .string n] w fun e w' => ∃ lv, e = .returned (.tuple #[lv, .int .i64 (getE s n.data.toList)]) ∧ ERow w' w.heap.size lv (getL s n.data.toList) ∧ AIs B w' S a (getM s n.data.toList) ∧ TS S anyO w w' ∧ Below B w w' := by
  refine (aget_any w S a s n h.lies h.inv hn).mono ?_
  rintro e w' ⟨lv, rfl, hr, hA, ht⟩
  have hb := ht.below h.sz h.lo
  exact ⟨lv, rfl, hr, ⟨hA, ainv_get h.inv _, h.lo, Nat.le_trans h.sz ht.size, h.std.below hb⟩, ht, hb⟩
theorem size_is {B : Nat} {w : World} {S : Nat → Prop} {a : Nat} {s : Am} (h : AIs B w S a s) : Calls Tryz.prog 9 #[.pointer (some ⟨a, 0, none⟩)] w fun e w' => e = .returned (.int .i64 (sizeA s.m : Int)) ∧ w = w' := asize_any w S a s h.lies
theorem told_is {B : Nat} {w : World} {S : Nat → Prop} {a : Nat} {s : Am} (h : AIs B w S a s) : Calls Tryz.prog 11 #[.pointer (some ⟨a, 0, none⟩)] w fun e w' => e = .returned (.int .i64 (s.told : Int)) ∧ w = w' := atold_any w S a s h.lies
/-! Neither the size nor what was told ever falls. -/
theorem open_up (s : Am) (n : List UInt8) : sizeA s.m ≤ sizeA (openM s n).m ∧ (openM s n).told = s.told := by
  unfold openM
  split
  · exact ⟨by show _ ≤ sizeA (s.m ++ [(n, [])]); rw [sizeA_append]; omega, rfl⟩
  · exact ⟨Nat.le_refl _, rfl⟩
theorem step_up (s : Am) (x : Ev) : sizeA s.m ≤ sizeA (stepAM s x).m ∧ (stepAM s x).told = s.told := by
  unfold stepAM
  split
  · exact ⟨by show _ ≤ sizeA (s.m.map (pushA x)); rw [sizeA_push]; omega, rfl⟩
  · exact ⟨Nat.le_refl _, rfl⟩
theorem get_up (s : Am) (n : List UInt8) : sizeA (getM s n).m = sizeA s.m ∧ s.told ≤ (getM s n).told := by
  unfold getM
  split
  · exact ⟨rfl, Nat.le_add_right _ _⟩
  · exact ⟨rfl, Nat.le_refl _⟩

/-! One of three; the document's example. -/
def pick3 (c : Int) : Int := if c < 0 then (-(c + 1)) % 3 else c % 3
theorem pick3_range (c : Int) : pick3 c = 0 ∨ pick3 c = 1 ∨ pick3 c = 2 := by unfold pick3; split <;> omega
theorem pick3_any (c : Int) (w : World) (h0 : -9223372036854775808 ≤ c) (h1 : c ≤ 9223372036854775807) :
    Calls Tryz.prog 16 #[.int .i64 c, .int .i64 3] w fun e w' => e = .returned (.int .i64 (pick3 c)) ∧ w = w' := by
  unfold pick3
  by_cases hc : c < 0
  · rw [if_pos hc]
    have e1 : IntKind.i64.wrap (-(c + 1)) = -(c + 1) := IntWalk.i64_in _ (by omega)
    have e2 : (0 : Int) ≤ -(c + 1) := by omega
    have e3 : (-(c + 1)).tmod 3 = -(c + 1) % 3 := Int.tmod_eq_emod_of_nonneg e2
    go_enter Tryz.func16, Tryz.ntmps16
    go_wp2
    go_ret
    exact ⟨rfl, rfl⟩
  · rw [if_neg hc]
    have e2 : 0 ≤ c := by omega
    have e3 : c.tmod 3 = c % 3 := Int.tmod_eq_emod_of_nonneg e2
    go_enter Tryz.func16, Tryz.ntmps16
    go_wp2
    go_ret
    exact ⟨rfl, rfl⟩
def liveX : Ev := ⟨3, ⟨#[49]⟩, ⟨#[]⟩⟩
def live0 : Am := ⟨[], 0⟩
def live1 : Am := openM live0 [97]
def live2 : Am := stepAM live1 liveX
def live3 : Am := getM live2 [97]
theorem live_facts : openE live0 [97] = 0 ∧ stepAE live1 liveX = 0 ∧ getE live2 [97] = 0 ∧ getL live2 [97] = [liveX] ∧ sizeA live3.m = 3 ∧ live3.told = 1 := ⟨by kernel_rfl, by kernel_rfl, by kernel_rfl, by kernel_rfl, by kernel_rfl, by kernel_rfl⟩

set_option maxHeartbeats 4000000 in
theorem lives10_any (B : Nat) (w : World) (hB : B ≤ w.heap.size) (hw : SWB B w) : Calls Tryz.prog 12 #[] w fun e w' => e = .returned (.bool true) ∧ Below w.heap.size w w' := by
  obtain ⟨f1, f2, f3, f4, f5, f6⟩ := live_facts
  have hw' : SWB w.heap.size w := SWB.of hw.std
  have HN := Lib.hid (new_is w.heap.size w (Nat.le_refl _) hw')
  have HF := Lib.hid (And.intro f4 (And.intro f5 f6))
  clear hw hw' f4 f5 f6
  go_enter Tryz.func12, Tryz.ntmps12
  go_wp2_with fail
  refine HN.out.mono ?_
  rintro e w1 ⟨a, rfl, hb1, S1, hA1, _⟩
  have hO := open_is hA1 ⟨#[97]⟩ (by decide)
  have e0 : (⟨#[97]⟩ : ByteArray).data.toList = [97] := rfl
  rw [e0, show openE ⟨[], 0⟩ [97] = 0 from f1, show openM ⟨[], 0⟩ [97] = live1 from rfl] at hO
  have HO := Lib.hid hO
  have HB1 := Lib.hid hb1
  clear hO hA1 hb1 f1 HN e0
  go_wp2_with fail
  refine HO.out.mono ?_
  rintro e w2 ⟨rfl, S2, hA2, _, hb2, _⟩
  have hSt := step_is hA2 liveX ⟨by decide, by decide, by decide, by decide⟩
  rw [f2, show stepAM live1 liveX = live2 from rfl] at hSt
  have HSt := Lib.hid hSt
  have HB2 := Lib.hid (HB1.out.trans (hb2.mono (Nat.le_refl _)))
  unfold liveX at HSt
  clear hSt hA2 hb2 f2 HO
  go_wp2_with fail
  refine HSt.out.mono ?_
  rintro e w3 ⟨rfl, S3, hA3, _, hb3, _⟩
  have hG := get_is hA3 ⟨#[97]⟩ (by decide)
  rw [show (⟨#[97]⟩ : ByteArray).data.toList = [97] from rfl, f3, HF.out.1, show getM live2 [97] = live3 from rfl] at hG
  have HG := Lib.hid hG
  have HB3 := Lib.hid (HB2.out.trans hb3)
  clear hG hA3 hb3 f3 HSt
  go_wp2_with fail
  refine HG.out.mono ?_
  rintro e w4 ⟨lv, rfl, hr, hA4, _, hb4⟩
  obtain ⟨A, c, hlv⟩ := hr.shape
  have hlv' : lv = .slice A 1 c := hlv
  subst hlv'
  have hSz := size_is hA4
  have hTo := told_is hA4
  rw [HF.out.2.1] at hSz
  rw [HF.out.2.2] at hTo
  have HSz := Lib.hid hSz
  have HTo := Lib.hid hTo
  have HB4 := Lib.hid (HB3.out.trans hb4)
  clear hSz hTo hr hA4 hb4 hlv HG
  go_wp2_with (first
    | (go_at_call 9; refine HSz.out.mono ?_; rintro e w5 ⟨rfl, rfl⟩)
    | (go_at_call 11; refine HTo.out.mono ?_; rintro e w5 ⟨rfl, rfl⟩))
  go_ret
  exact ⟨rfl, HB4.out⟩
end Go.Proofs.YtkghdieakpipkaaGreatDoor

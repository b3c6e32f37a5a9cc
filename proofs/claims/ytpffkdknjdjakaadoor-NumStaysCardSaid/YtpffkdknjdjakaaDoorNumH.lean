/-
  The walks of NumStays and NumOrder.
-/
import Derived.Test.YtpffkdknjdjakaaDoorNumF
import Derived.Test.YtpffkdknjdjakaaDoorNumT
namespace Go.Proofs.YtpffkdknjdjakaaDoor
open Go.RowKit
set_option maxRecDepth 100000

set_option maxHeartbeats 1000000 in
theorem walk_NumStays (s : ByteArray) (hs : s.size ≤ 140737488355328) (w : World) (hw : StdW w) :
    Calls Tryd.prog 6 #[.string s] w fun e w' => e = .returned (.bool true) ∧ Below w.heap.size w w' := by
  cases hr : readL s.data.toList with
  | none =>
    have hS := readS_none hr
    have hC := readC_none hr
    have HS := Lib.hid hS
    have HC := Lib.hid hC
    clear hr hS hC
    go_enter Tryd.func6, Tryd.ntmps6
    go_wp2_with (fail)
    refine (read_any s _ hw (by omega)).mono ?_
    rintro e w1 ⟨rfl, hb1⟩
    rw [HS.out, HC.out]
    go_wp2_with (go_at_call 11; refine (lives_any _ (hw.below hb1)).mono ?_; rintro e w2 ⟨rfl, hb2⟩)
    go_ret
    exact ⟨rfl, hb1.trans (hb2.mono hb1.size)⟩
  | some v =>
    have hS := readS_some hr
    have hC := readC_some hr
    have hc := can_of hr
    have hk := ok_of hr
    have hr2 := read_form hc hk
    have hS2 := readS_some hr2
    have hC2 := readC_some hr2
    have his := form_is hc hk
    have hl := (okV_of hr).2.2.1
    have hsz : (⟨(formL v).toArray⟩ : ByteArray).size ≤ 30 := by rw [len_of]; exact hl
    have HS := Lib.hid hS
    have HC := Lib.hid hC
    have HS2 := Lib.hid hS2
    have HC2 := Lib.hid hC2
    have HI := Lib.hid his
    clear hr hS hC hc hk hr2 hS2 hC2 his
    go_enter Tryd.func6, Tryd.ntmps6
    go_wp2_with (fail)
    refine (read_any s _ hw (by omega)).mono ?_
    rintro e w1 ⟨rfl, hb1⟩
    rw [HS.out, HC.out]
    generalize hX : (⟨(formL v).toArray⟩ : ByteArray) = X
    have hXl : X.data.toList = formL v := by rw [← hX]
    rw [hX] at hsz
    have HX := Lib.hid hX
    have HXL := Lib.hid hXl
    clear hX hXl
    go_wp2_with (fail)
    refine (read_any X _ (hw.below hb1) (by omega)).mono ?_
    rintro e w2 ⟨rfl, hb2⟩
    rw [HXL.out, HS2.out, HC2.out, HX.out]
    go_wp2_with (fail)
    refine (may_any X _ (by omega)).mono ?_
    rintro e w' ⟨rfl, rfl⟩
    rw [HXL.out, HI.out]
    generalize begB (formL v) = B
    have hb := hb1.trans (hb2.mono hb1.size)
    have hXX : (X.toList == X.toList) = true := by simp
    go_wp2_with (go_at_call 11; refine (lives_any _ (hw.below hb)).mono ?_; rintro e w2 ⟨rfl, hb3⟩)
    go_ret
    exact ⟨rfl, hb.trans (hb3.mono hb.size)⟩

theorem cmpV_01 (x y : Val) : -1 ≤ cmpV x y ∧ cmpV x y ≤ 1 := by
  unfold cmpV
  split
  · have := cmpI_01 (sgI x) (sgI y); omega
  · have h1 := sg_01 x
    have h2 := cmpSz_01 x y
    rcases h1 with h1 | h1 | h1 <;> rcases h2 with h2 | h2 | h2 <;> rw [h1, h2] <;> decide

set_option maxHeartbeats 1000000 in
theorem order_no (a b c : ByteArray) (ha : a.size ≤ 140737488355328) (hb : b.size ≤ 140737488355328) (hc : c.size ≤ 140737488355328) (w : World) (hw : StdW w)
    (h : cmpC a.data.toList b.data.toList = 8 ∨ (cmpC a.data.toList b.data.toList = 0 ∧ cmpC b.data.toList c.data.toList = 8)) :
    Calls Tryd.prog 8 #[.string a, .string b, .string c] w fun e w' => e = .returned (.bool true) ∧ Below w.heap.size w w' := by
  generalize hE : cmpC a.data.toList b.data.toList = E at h
  generalize hF : cmpC b.data.toList c.data.toList = F at h
  have HE := Lib.hid hE
  have HF := Lib.hid hF
  clear hE hF
  rcases h with h | ⟨h, h2⟩
  · subst h
    go_enter Tryd.func8, Tryd.ntmps8
    go_wp2_with (fail)
    refine (compare_any a b _ hw (by omega) (by omega)).mono ?_
    rintro e w1 ⟨rfl, hb1⟩
    rw [HE.out]
    go_wp2_with (fail)
    refine (compare_any b c _ (hw.below hb1) (by omega) (by omega)).mono ?_
    rintro e w2 ⟨rfl, hb2⟩
    have hb12 := hb1.trans (hb2.mono hb1.size)
    go_wp2_with (fail)
    refine (compare_any a c _ (hw.below hb12) (by omega) (by omega)).mono ?_
    rintro e w3 ⟨rfl, hb3⟩
    have hb13 := hb12.trans (hb3.mono hb12.size)
    go_wp2_with (go_at_call 11; refine (lives_any _ (hw.below hb13)).mono ?_; rintro e w4 ⟨rfl, hb4⟩)
    go_ret
    exact ⟨rfl, hb13.trans (hb4.mono hb13.size)⟩
  · subst h
    subst h2
    go_enter Tryd.func8, Tryd.ntmps8
    go_wp2_with (fail)
    refine (compare_any a b _ hw (by omega) (by omega)).mono ?_
    rintro e w1 ⟨rfl, hb1⟩
    rw [HE.out]
    go_wp2_with (fail)
    refine (compare_any b c _ (hw.below hb1) (by omega) (by omega)).mono ?_
    rintro e w2 ⟨rfl, hb2⟩
    rw [HF.out]
    have hb12 := hb1.trans (hb2.mono hb1.size)
    go_wp2_with (fail)
    refine (compare_any a c _ (hw.below hb12) (by omega) (by omega)).mono ?_
    rintro e w3 ⟨rfl, hb3⟩
    have hb13 := hb12.trans (hb3.mono hb12.size)
    go_wp2_with (go_at_call 11; refine (lives_any _ (hw.below hb13)).mono ?_; rintro e w4 ⟨rfl, hb4⟩)
    go_ret
    exact ⟨rfl, hb13.trans (hb4.mono hb13.size)⟩

set_option maxHeartbeats 2000000 in
theorem order_yes (a b c : ByteArray) (ha : a.size ≤ 140737488355328) (hb : b.size ≤ 140737488355328) (hc : c.size ≤ 140737488355328) (w : World) (hw : StdW w)
    (x y z : Val) (hx : readL a.data.toList = some x) (hy : readL b.data.toList = some y) (hz : readL c.data.toList = some z) :
    Calls Tryd.prog 8 #[.string a, .string b, .string c] w fun e w' => e = .returned (.bool true) ∧ Below w.heap.size w w' := by
  have f1 := cmpN_some hx hy
  have f2 := cmpN_some hy hz
  have f3 := cmpN_some hx hz
  have f4 := (cmpN_some hy hx).trans (cmpV_swap x y)
  have f5 := (cmpN_some hx hx).trans (cmpV_self x)
  have g1 := cmpC_some hx hy
  have g2 := cmpC_some hy hz
  have g3 := cmpC_some hx hz
  have r1 := readS_some hx
  have r2 := readS_some hy
  have ht := @cmpV_trans x y z
  have hform := cmp_form (can_of hx) (ok_of hx) (can_of hy) (ok_of hy)
  have b1 := cmpV_01 x y
  have hz1 := cmpV_01 x z
  have hy1 := cmpV_01 y z
  have hbl : ((cmpV x y == 0) == ((⟨(formL x).toArray⟩ : ByteArray).toList == (⟨(formL y).toArray⟩ : ByteArray).toList)) = true := by
    rw [Lib.toList_data, Lib.toList_data]
    show ((cmpV x y == 0) == (formL x == formL y)) = true
    by_cases h : cmpV x y = 0
    · have h2 := hform.1 h
      rw [h, h2]; simp
    · have h2 : ¬ formL x = formL y := fun hc => h (hform.2 hc)
      have e1 : (cmpV x y == 0) = false := by simpa using h
      have e2 : (formL x == formL y) = false := by simpa using h2
      rw [e1, e2]; rfl
  generalize cmpV x y = X at *
  generalize cmpV y z = Y at *
  generalize cmpV x z = Z at *
  generalize (⟨(formL x).toArray⟩ : ByteArray) = P at *
  generalize (⟨(formL y).toArray⟩ : ByteArray) = Q at *
  have F1 := Lib.hid f1; have F2 := Lib.hid f2; have F3 := Lib.hid f3; have F4 := Lib.hid f4; have F5 := Lib.hid f5
  have G1 := Lib.hid g1; have G2 := Lib.hid g2; have G3 := Lib.hid g3; have R1 := Lib.hid r1; have R2 := Lib.hid r2
  obtain ⟨b1, b2⟩ := b1
  have hcase : (0 < X) ∨ (X ≤ 0 ∧ 0 < Y) ∨ (X ≤ 0 ∧ Y ≤ 0 ∧ Z ≤ 0) := by omega
  have hXX : (-X == -X) = true := by simp
  clear f1 f2 f3 f4 f5 g1 g2 g3 r1 r2 ht hform hx hy hz
  obtain ⟨y1, y2⟩ := hy1
  obtain ⟨z1, z2⟩ := hz1
  rcases hcase with h | ⟨h, h2⟩ | ⟨h, h2, h3⟩
  all_goals
    go_enter Tryd.func8, Tryd.ntmps8
    go_wp2_with (fail)
    refine (compare_any a b _ hw (by omega) (by omega)).mono ?_
    rintro e w1 ⟨rfl, hb1⟩
    rw [F1.out, G1.out]
    go_wp2_with (fail)
    refine (compare_any b c _ (hw.below hb1) (by omega) (by omega)).mono ?_
    rintro e w2 ⟨rfl, hb2⟩
    rw [F2.out, G2.out]
    have hb12 := hb1.trans (hb2.mono hb1.size)
    clear hb1 hb2
    go_wp2_with (fail)
    refine (compare_any a c _ (hw.below hb12) (by omega) (by omega)).mono ?_
    rintro e w3 ⟨rfl, hb3⟩
    rw [F3.out, G3.out]
    have hb13 := hb12.trans (hb3.mono hb12.size)
    clear hb12 hb3
    go_wp2_with (fail)
    refine (compare_any b a _ (hw.below hb13) (by omega) (by omega)).mono ?_
    rintro e w4 ⟨rfl, hb4⟩
    rw [F4.out]
    have hb14 := hb13.trans (hb4.mono hb13.size)
    clear hb13 hb4
    go_wp2_with (fail)
    refine (compare_any a a _ (hw.below hb14) (by omega) (by omega)).mono ?_
    rintro e w5 ⟨rfl, hb5⟩
    rw [F5.out]
    have hb15 := hb14.trans (hb5.mono hb14.size)
    clear hb14 hb5
    go_wp2_with (fail)
    refine (read_any a _ (hw.below hb15) (by omega)).mono ?_
    rintro e w6 ⟨rfl, hb6⟩
    rw [R1.out]
    have hb16 := hb15.trans (hb6.mono hb15.size)
    clear hb15 hb6
    go_wp2_with (fail)
    refine (read_any b _ (hw.below hb16) (by omega)).mono ?_
    rintro e w7 ⟨rfl, hb7⟩
    rw [R2.out]
    have hb17 := hb16.trans (hb7.mono hb16.size)
    clear hb16 hb7
    go_wp2_with (fail)
    refine (lives_any _ (hw.below hb17)).mono ?_
    rintro e w8 ⟨rfl, hb8⟩
    go_wp2
    go_ret
    exact ⟨rfl, hb17.trans (hb8.mono hb17.size)⟩

theorem walk_NumOrder (a : ByteArray) (ha : a.size ≤ 140737488355328) (b : ByteArray) (hb : b.size ≤ 140737488355328) (c : ByteArray) (hc : c.size ≤ 140737488355328) (w : World) (hw : StdW w) :
    Calls Tryd.prog 8 #[.string a, .string b, .string c] w fun e w' => e = .returned (.bool true) ∧ Below w.heap.size w w' := by
  cases hx : readL a.data.toList with
  | none => exact order_no a b c ha hb hc w hw (.inl (cmpC_none (.inl hx)))
  | some x =>
    cases hy : readL b.data.toList with
    | none => exact order_no a b c ha hb hc w hw (.inl (cmpC_none (.inr hy)))
    | some y =>
      cases hz : readL c.data.toList with
      | none => exact order_no a b c ha hb hc w hw (.inr ⟨cmpC_some hx hy, cmpC_none (.inr hz)⟩)
      | some z => exact order_yes a b c ha hb hc w hw x y z hx hy hz
end Go.Proofs.YtpffkdknjdjakaaDoor

/-
  The reference's Read on every text, its Norm; the walk of NumReads.
-/
import Derived.Test.YtpffkdknjdjakaaDoorNumR
import Derived.Test.YtpffkdknjdjakaaDoorNumF
import Derived.Test.YtpffkdknjdjakaaDoorNumT
namespace Go.Proofs.YtpffkdknjdjakaaDoor
open Go.RowKit
set_option maxRecDepth 100000

set_option maxHeartbeats 1000000 in
theorem rread_no (s : ByteArray) (w : World) (hs : s.size ≤ 140737488355328) (h : ¬ (isB s.data.toList = true ∧ s.data.toList.length ≤ 30)) :
    Calls Tryd.prog 20 #[.string s] w (RPost s.data.toList w) := by
  have hps := parts_any s
  unfold partsA at hps
  rw [parts_begins, parts_is] at hps
  have HN := Lib.hid h
  have hcase : isB s.data.toList = false ∨ (isB s.data.toList = true ∧ 30 < (s.size : Int)) := by
    rw [show s.data.toList.length = s.size from by simp] at h
    cases hi : isB s.data.toList
    · exact .inl rfl
    · refine .inr ⟨rfl, ?_⟩
      have : ¬ s.size ≤ 30 := fun hc => h ⟨hi, hc⟩
      omega
  clear h
  rcases hcase with hi | ⟨hi, h30⟩
  all_goals
    rw [hi] at hps
    have HPS := Lib.hid hps
    clear hps hi
    go_enter Tryd.func20, Tryd.ntmps20
    go_wp2_with (fail)
    refine (HPS.out _ hs).mono ?_
    rintro e w1 ⟨rfl, n, rfl⟩
    have hr : Blk ((w.alloc (.cells #[.bool false, .slice none 0 0, .int .i64 0] 44)).drewN n) w.heap.size 44 #[.bool false, .slice none 0 0, .int .i64 0] := (Blk.new w _ _).drewN n
    have hb : Below w.heap.size w ((w.alloc (.cells #[.bool false, .slice none 0 0, .int .i64 0] 44)).drewN n) := below_drewN ((Below.refl _ _).alloc (Nat.le_refl _) _) n
    generalize (w.alloc (.cells #[.bool false, .slice none 0 0, .int .i64 0] 44)).drewN n = w2 at hr hb ⊢
    have r0 : w2.cell? ⟨w.heap.size, 0, none⟩ = some (.bool false) := hr.cell 0
    have r1 : w2.cell? ⟨w.heap.size, 1, none⟩ = some (.slice none 0 0) := hr.cell 1
    have r2 : w2.cell? ⟨w.heap.size, 2, none⟩ = some (.int .i64 0) := hr.cell 2
    have g0 : w2.frozen? ⟨w.heap.size, 0, none⟩ = false := hr.frozen 0
    have g1 : w2.frozen? ⟨w.heap.size, 1, none⟩ = false := hr.frozen 1
    have g2 : w2.frozen? ⟨w.heap.size, 2, none⟩ = false := hr.frozen 2
    go_wp2
    (try simp only [Exit.inBlock, Exit.then])
    refine bodyPost_ret (v := .tuple #[.agg #[.bool false, .slice none 0 0, .int .i64 0], .bool false]) (by simp [results, Tryd.results20, go_sem, r0, r1, r2]) rfl (rpost_none HN.out ?_ rfl)
    repeat (first | exact hb | refine Below.setCell ?_ (by simp) _)

theorem rread_any (s : ByteArray) (w : World) (hs : s.size ≤ 140737488355328) :
    Calls Tryd.prog 20 #[.string s] w (RPost s.data.toList w) := by
  by_cases h : isB s.data.toList = true ∧ s.data.toList.length ≤ 30
  · exact rread_is s w (by have := h.2; simpa using this) h.1
  · exact rread_no s w hs h

set_option maxHeartbeats 1000000 in
theorem rnorm_any (s : ByteArray) (w : World) (hs : s.size ≤ 140737488355328) :
    Calls Tryd.prog 13 #[.string s] w fun e w' => e = .returned (.tuple #[.string (readS s.data.toList), .int .i64 (readC s.data.toList)]) ∧ Below w.heap.size w w' := by
  cases h : readL s.data.toList with
  | none =>
    rw [readS_none h, readC_none h]
    have H := Lib.hid h
    clear h
    go_enter Tryd.func13, Tryd.ntmps13
    go_wp2_with (fail)
    refine (rread_any s _ hs).mono ?_
    rintro e w1 ⟨hb1, hv⟩
    rw [H.out] at hv
    simp only at hv
    subst hv
    go_wp2_with (fail)
    go_ret2
    exact ⟨rfl, hb1.alloc hb1.size _⟩
  | some v =>
    rw [readS_some h, readC_some h]
    obtain ⟨v1, v2, v3, v4⟩ := okV_of h
    have hdg := (can_of h).2.2.2
    have H := Lib.hid h
    have HD := Lib.hid hdg
    clear h hdg
    go_enter Tryd.func13, Tryd.ntmps13
    go_wp2_with (fail)
    refine (rread_any s _ hs).mono ?_
    rintro e w1 ⟨hb1, hv⟩
    rw [H.out] at hv
    simp only at hv
    obtain ⟨slv, rfl, hr⟩ := hv
    obtain ⟨A, cp, rfl, _⟩ := iread_d hr
    have HR := Lib.hid hr
    have HB1 := Lib.hid hb1
    clear hr
    go_wp2_with (fail)
    have hbA : Below w1.heap.size w1 (w1.alloc (.cells #[.bool v.neg, .slice A v.digs.length cp, .int .i64 v.pow] 44)) := (Below.refl w1.heap.size w1).alloc (Nat.le_refl _) _
    refine (rform_any v (.slice A v.digs.length cp) _ ⟨by omega, by omega⟩ (by omega) HD.out (HR.out.below hbA)).mono ?_
    rintro e w2 ⟨rfl, hb2⟩
    go_wp2_with (fail)
    go_ret2
    exact ⟨rfl, HB1.out.trans ((hbA.trans (hb2.mono (by simp))).mono HB1.out.size)⟩

set_option maxHeartbeats 1000000 in
theorem walk_NumReads (s : ByteArray) (hs : s.size ≤ 140737488355328) (w : World) (hw : StdW w) :
    Calls Tryd.prog 5 #[.string s] w fun e w' => e = .returned (.bool true) ∧ Below w.heap.size w w' := by
  have hsz : (readS s.data.toList).size ≤ 30 := by
    cases h : readL s.data.toList with
    | none => rw [readS_none h]; exact Nat.zero_le _
    | some v => rw [readS_some h, len_of]; exact (okV_of h).2.2.1
  have h1 := read_any s w hw (by omega)
  have h2 := fun w => rnorm_any s w hs
  generalize readS s.data.toList = X at h1 h2 hsz
  generalize readC s.data.toList = C at h1 h2
  have H1 := Lib.hid h1
  have H2 := Lib.hid h2
  clear h1 h2
  go_enter Tryd.func5, Tryd.ntmps5
  go_wp2_with (fail)
  refine H1.out.mono ?_
  rintro e w1 ⟨rfl, hb1⟩
  go_wp2_with (fail)
  refine (H2.out _).mono ?_
  rintro e w2 ⟨rfl, hb2⟩
  have hb := hb1.trans (hb2.mono hb1.size)
  have hXX : (X.toList == X.toList) = true := by simp
  have hCC : (C == C) = true := by simp
  go_wp2_with (go_at_call 11; refine (lives_any _ (hw.below hb)).mono ?_; rintro e w2 ⟨rfl, hb3⟩)
  go_ret
  exact ⟨rfl, hb.trans (hb3.mono hb.size)⟩
end Go.Proofs.YtpffkdknjdjakaaDoor

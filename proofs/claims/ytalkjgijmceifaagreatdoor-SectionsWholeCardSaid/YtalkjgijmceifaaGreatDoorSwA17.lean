/-
  token: an open number, as it lies in a cell; blanks.
  lines: a token that is as long as possible: NameAhead, longest for names and numbers.
  lines: NameAhead.
-/
import Derived.Test.YtalkjgijmceifaaGreatDoorSwA06
import Derived.Test.YtalkjgijmceifaaGreatDoorSwA04
import Derived.Test.YtalkjgijmceifaaGreatDoorSwA16
import Derived.Test.YtalkjgijmceifaaGreatDoorSwA09
import Derived.StillTailTactics
import Derived.Test.YtalkjgijmceifaaGreatDoorSwA05
namespace Go.Proofs.YtalkjgijmceifaaGreatDoor
open Go.RowKit Go.Maps
set_option maxRecDepth 100000
set_option linter.unusedSimpArgs false
set_option linter.unusedVariables false
set_option linter.unusedSectionVars false
variable [Tab] [Fo]

theorem one_str (w : World) (b : UInt8) : (convert 22 9 (.slice (some ⟨w.heap.size, 0, none⟩) 1 1)).run Tryz.prog (w.alloc (.cells #[.int .u8 (b.toNat : Int)] 5)) = .ok (.string ⟨#[b]⟩) (w.alloc (.cells #[.int .u8 (b.toNat : Int)] 5)) :=
  Nm.put_str [b] (ORow.lit w w.heap.size 5 #[.int .u8 (b.toNat : Int)] (Nat.le_refl _) (by simp [maxLen]))
theorem one_strD (w : World) (b : UInt8) : (convert 22 9 (.slice (some ⟨w.heap.size, 0, none⟩) 1 1)).run Tryz.prog (w.alloc (.cells #[.int .u8 (b.toNat : Int)] 5)).drew = .ok (.string ⟨#[b]⟩) (w.alloc (.cells #[.int .u8 (b.toNat : Int)] 5)).drew :=
  Nm.put_str [b] (ORow.drew (ORow.lit w w.heap.size 5 #[.int .u8 (b.toNat : Int)] (Nat.le_refl _) (by simp [maxLen])))
theorem app_one (s : ByteArray) (b : UInt8) : (s ++ (⟨#[b]⟩ : ByteArray)).data.toList = s.data.toList ++ [b] := by simp [ByteArray.append_eq, ByteArray.data_append]

set_option maxHeartbeats 4000000 in
theorem goes_any (w : World) (m i : Nat) (s : ByteArray) (b : UInt8) (hc : w.cell? ⟨m, i, none⟩ = some (.string s)) (hl : m < w.heap.size) (hs : s.size ≤ 1000) :
    Calls Tryz.prog 275 #[.pointer (some ⟨m, i, none⟩), .int .u8 (b.toNat : Int)] w fun e w' => e = .returned (.bool (mayB1 s b)) ∧ Below w.heap.size w w' := by
  have h1 := one_str w b
  have h1d := one_strD w b
  have hM := fun w' => Nm.may_any (s ++ (⟨#[b]⟩ : ByteArray)) w' (by have h2 : (s ++ (⟨#[b]⟩ : ByteArray)).size = s.size + 1 := ByteArray.size_append; omega)
  rw [app_one] at hM
  have al : Below w.heap.size w (w.alloc (.cells #[.int .u8 (b.toNat : Int)] 5)) := (Below.refl _ _).alloc (Nat.le_refl _) _
  have ald : Below w.heap.size w (w.alloc (.cells #[.int .u8 (b.toNat : Int)] 5)).drew := below_drew al
  unfold mayB1
  go_enter Tryz.func275, Tryz.ntmps275
  go_wp2
  go_region_with (first
    | (go_at_call 68; refine (hM _).mono ?_; rintro e w' ⟨rfl, rfl⟩))
  all_goals
    go_wp2
    go_ret
    exact ⟨rfl, ald⟩

set_option maxHeartbeats 4000000 in
theorem oadd_any (w : World) (m i : Nat) (s : ByteArray) (b : UInt8) (most : Nat) (hc : w.cell? ⟨m, i, none⟩ = some (.string s)) (hf : w.frozen? ⟨m, i, none⟩ = false) (hl : m < w.heap.size) (hs : s.size ≤ 1000) (hmo : most ≤ 1000) :
    Calls Tryz.prog 272 #[.pointer (some ⟨m, i, none⟩), .int .u8 (b.toNat : Int), .int .i64 (most : Int)] w fun e w' =>
      if most ≤ s.size then e = .returned (.int .i64 4) ∧ w' = w
      else e = .returned (.int .i64 0) ∧ Below (w.setCell ⟨m, i, none⟩ (.string (s ++ ⟨#[b]⟩))).heap.size (w.setCell ⟨m, i, none⟩ (.string (s ++ ⟨#[b]⟩))) w' := by
  by_cases h30 : most ≤ s.size
  case pos =>
    simp only [if_pos h30]
    go_enter Tryz.func272, Tryz.ntmps272
    go_wp2
    go_ret
    exact ⟨rfl, rfl⟩
  case neg =>
    simp only [if_neg h30]
    have hcv := one_strD w b
    have al : Below (w.setCell ⟨m, i, none⟩ (.string (s ++ ⟨#[b]⟩))).heap.size (w.setCell ⟨m, i, none⟩ (.string (s ++ ⟨#[b]⟩))) ((w.setCell ⟨m, i, none⟩ (.string (s ++ ⟨#[b]⟩))).alloc (.cells #[.int .u8 (b.toNat : Int)] 5)).drew := below_drew ((Below.refl _ _).alloc (Nat.le_refl _) _)
    have AL := Lib.hid al
    clear al
    go_enter Tryz.func272, Tryz.ntmps272
    go_wp2
    go_region
    go_wp2
    go_ret
    exact ⟨rfl, AL.out⟩
theorem otake_any (w : World) (m i : Nat) (s : ByteArray) (hc : w.cell? ⟨m, i, none⟩ = some (.string s)) (hf : w.frozen? ⟨m, i, none⟩ = false) (hl : m < w.heap.size) :
    Calls Tryz.prog 271 #[.pointer (some ⟨m, i, none⟩)] w fun e w' => e = .returned (.string s) ∧ w' = w.setCell ⟨m, i, none⟩ (.string ⟨#[]⟩) := by
  go_enter Tryz.func271, Tryz.ntmps271
  go_wp2
  go_ret
  exact ⟨rfl, rfl⟩
theorem tadd_any (w : World) (m i : Nat) (s : ByteArray) (b : UInt8) (hc : w.cell? ⟨m, i, none⟩ = some (.string s)) (hf : w.frozen? ⟨m, i, none⟩ = false) (hl : m < w.heap.size) (hs : s.size ≤ 1000) :
    Calls Tryz.prog 273 #[.pointer (some ⟨m, i, none⟩), .int .u8 (b.toNat : Int)] w fun e w' =>
      if 30 ≤ s.size then e = .returned (.int .i64 4) ∧ w' = w
      else e = .returned (.int .i64 0) ∧ Below (w.setCell ⟨m, i, none⟩ (.string (s ++ ⟨#[b]⟩))).heap.size (w.setCell ⟨m, i, none⟩ (.string (s ++ ⟨#[b]⟩))) w' := by
  have hC := Lib.hid (oadd_any w m i s b 30 hc hf hl hs (by decide))
  clear hc hf
  go_enter Tryz.func273, Tryz.ntmps273
  go_wp2_with fail
  refine hC.out.mono ?_
  rintro e w' hq
  by_cases h30 : 30 ≤ s.size
  · rw [if_pos h30] at hq
    obtain ⟨rfl, rfl⟩ := hq
    go_wp2
    go_ret
    exact ⟨rfl, rfl⟩
  · rw [if_neg h30] at hq
    obtain ⟨rfl, hb⟩ := hq
    have HB := Lib.hid hb
    clear hb
    go_wp2
    go_ret
    exact ⟨rfl, by first | exact HB.out | simpa using HB.out⟩
theorem nadd_any (w : World) (m i : Nat) (s : ByteArray) (b : UInt8) (hc : w.cell? ⟨m, i, none⟩ = some (.string s)) (hf : w.frozen? ⟨m, i, none⟩ = false) (hl : m < w.heap.size) (hs : s.size ≤ 1000) :
    Calls Tryz.prog 269 #[.pointer (some ⟨m, i, none⟩), .int .u8 (b.toNat : Int)] w fun e w' =>
      if 16 ≤ s.size then e = .returned (.int .i64 4) ∧ w' = w
      else e = .returned (.int .i64 0) ∧ Below (w.setCell ⟨m, i, none⟩ (.string (s ++ ⟨#[b]⟩))).heap.size (w.setCell ⟨m, i, none⟩ (.string (s ++ ⟨#[b]⟩))) w' := by
  have hC := Lib.hid (oadd_any w m i s b 16 hc hf hl hs (by decide))
  clear hc hf
  go_enter Tryz.func269, Tryz.ntmps269
  go_wp2_with fail
  refine hC.out.mono ?_
  rintro e w' hq
  by_cases h30 : 16 ≤ s.size
  · rw [if_pos h30] at hq
    obtain ⟨rfl, rfl⟩ := hq
    go_wp2
    go_ret
    exact ⟨rfl, rfl⟩
  · rw [if_neg h30] at hq
    obtain ⟨rfl, hb⟩ := hq
    have HB := Lib.hid hb
    clear hb
    go_wp2
    go_ret
    exact ⟨rfl, by first | exact HB.out | simpa using HB.out⟩

set_option maxHeartbeats 4000000 in
theorem tend_any (w : World) (m i : Nat) (s : ByteArray) (hc : w.cell? ⟨m, i, none⟩ = some (.string s)) (hf : w.frozen? ⟨m, i, none⟩ = false) (hl : m < w.heap.size) (hs : s.size ≤ 1000) (hw : Nm.StdW (w.setCell ⟨m, i, none⟩ (.string ⟨#[]⟩))) :
    Calls Tryz.prog 274 #[.pointer (some ⟨m, i, none⟩)] w fun e w' =>
      e = .returned (.tuple #[.string (endS s), .int .i64 (endC s)]) ∧ Below (w.setCell ⟨m, i, none⟩ (.string ⟨#[]⟩)).heap.size (w.setCell ⟨m, i, none⟩ (.string ⟨#[]⟩)) w' := by
  obtain ⟨W, hW⟩ : ∃ W, w.setCell ⟨m, i, none⟩ (.string ⟨#[]⟩) = W := ⟨_, rfl⟩
  have hMay := Nm.may_any s (w.setCell ⟨m, i, none⟩ (.string ⟨#[]⟩)) (by omega)
  have hRd := Nm.read_any s (w.setCell ⟨m, i, none⟩ (.string ⟨#[]⟩)) hw (by omega)
  clear hw
  have HR := Lib.hid (Below.refl (w.setCell ⟨m, i, none⟩ (.string ⟨#[]⟩)).heap.size (w.setCell ⟨m, i, none⟩ (.string ⟨#[]⟩)))
  unfold endS endC
  cases hi : Nm.isB s.data.toList with
  | false =>
    rw [if_neg (by decide), if_neg (by decide)]
    rw [hi] at hMay
    clear hi hRd
    have hTk := otake_any w m i s hc hf hl
    rw [hW] at hTk hMay HR ⊢
    have HTk := Lib.hid hTk
    clear hTk hc hf hW
    go_enter Tryz.func274, Tryz.ntmps274
    go_wp2_with fail
    refine HTk.out.mono ?_
    rintro e w1 ⟨rfl, rfl⟩
    go_wp2_with fail
    refine hMay.mono ?_
    rintro e w' ⟨rfl, rfl⟩
    go_wp2
    go_ret2
    exact ⟨rfl, HR.out⟩
  | true =>
    rw [if_pos rfl, if_pos rfl]
    rw [hi] at hMay
    generalize Nm.readC s.data.toList = c at *
    generalize Nm.readS s.data.toList = f at *
    clear hi
    have hTk := otake_any w m i s hc hf hl
    rw [hW] at hTk hMay hRd ⊢
    have HTk := Lib.hid hTk
    clear hTk hc hf hW
    go_enter Tryz.func274, Tryz.ntmps274
    go_wp2_with fail
    refine HTk.out.mono ?_
    rintro e w0 ⟨rfl, rfl⟩
    go_wp2_with fail
    refine hMay.mono ?_
    rintro e w' ⟨rfl, rfl⟩
    go_wp2_with fail
    refine hRd.mono ?_
    rintro e w1 ⟨rfl, hb1⟩
    go_wp2
    go_ret2
    exact ⟨rfl, hb1⟩
theorem nend_any (w : World) (m i : Nat) (s : ByteArray) (hc : w.cell? ⟨m, i, none⟩ = some (.string s)) (hf : w.frozen? ⟨m, i, none⟩ = false) (hl : m < w.heap.size) (hs : s.size ≤ 1000) :
    Calls Tryz.prog 270 #[.pointer (some ⟨m, i, none⟩)] w fun e w' => e = .returned (.tuple #[.string s, .int .i64 (if s.size = 0 then 2 else 0)]) ∧ w' = w.setCell ⟨m, i, none⟩ (.string ⟨#[]⟩) := by
  have HTk := Lib.hid (otake_any w m i s hc hf hl)
  clear hc hf
  by_cases h0 : s.size = 0
  · rw [if_pos h0]
    obtain rfl : s = ⟨#[]⟩ := ByteArray.ext (Array.eq_empty_of_size_eq_zero h0)
    clear h0
    go_enter Tryz.func270, Tryz.ntmps270
    go_wp2_with fail
    refine HTk.out.mono ?_
    rintro e w1 ⟨rfl, rfl⟩
    go_wp2
    go_ret2
    exact ⟨rfl, rfl⟩
  · rw [if_neg h0]
    have hne : ¬ s = ⟨#[]⟩ := fun e => h0 (by rw [e]; rfl)
    have z1 : s.toList.isEmpty = false := by
      rw [Bool.eq_false_iff]
      intro e
      have h5 := congrArg List.length (List.isEmpty_iff.1 e)
      rw [Lib.toList_data, Array.length_toList] at h5
      exact h0 h5
    clear h0 hne
    go_enter Tryz.func270, Tryz.ntmps270
    go_wp2_with fail
    refine HTk.out.mono ?_
    rintro e w1 ⟨rfl, rfl⟩
    go_wp2
    go_ret2
    exact ⟨rfl, rfl⟩
end Go.Proofs.YtalkjgijmceifaaGreatDoor
namespace Go.Proofs.YtalkjgijmceifaaGreatDoor
open Go.RowKit Go.Maps
set_option maxRecDepth 100000
set_option linter.unusedSimpArgs false
set_option linter.unusedVariables false
set_option linter.unusedSectionVars false
variable [Tab] [Fo]

/-- Whether a name goes on with a byte. -/
def nGo (s : ByteArray) (b : UInt8) : Bool := localL (s.data.toList.take 1 ++ [b])
/-- The same of a name without a dot. -/
def bGo (s : ByteArray) (b : UInt8) : Bool := !(b == 46) && nGo s b
theorem ngoes_any (w : World) (m i : Nat) (s : ByteArray) (b : UInt8) (hc : w.cell? ⟨m, i, none⟩ = some (.string s)) (hl : m < w.heap.size) (hs : s.size ≤ 1000) :
    Calls Tryz.prog 195 #[.pointer (some ⟨m, i, none⟩), .int .u8 (b.toNat : Int)] w fun e w' => e = .returned (.bool (nGo s b)) ∧ Below w.heap.size w w' := by
  unfold nGo
  have h1 := one_str w b
  have al : Below w.heap.size w (w.alloc (.cells #[.int .u8 (b.toNat : Int)] 5)) := (Below.refl _ _).alloc (Nat.le_refl _) _
  have AL := Lib.hid al
  clear al
  by_cases h0 : s.size = 0
  · obtain rfl : s = ⟨#[]⟩ := ByteArray.ext (Array.eq_empty_of_size_eq_zero h0)
    have hL := Lib.hid (local_any (⟨#[b]⟩ : ByteArray) (w.alloc (.cells #[.int .u8 (b.toNat : Int)] 5)) (by show (1 : Nat) ≤ _; decide))
    clear h0
    go_enter Tryz.func195, Tryz.ntmps195
    go_wp2_with fail
    refine hL.out.mono ?_
    rintro e w' ⟨rfl, rfl⟩
    go_wp2
    go_ret
    exact ⟨rfl, AL.out⟩
  · have z1 : s.toList.isEmpty = false := by
      rw [Bool.eq_false_iff]
      intro e
      have h5 := congrArg List.length (List.isEmpty_iff.1 e)
      rw [Lib.toList_data, Array.length_toList] at h5
      exact h0 h5
    have hs1 : 1 ≤ s.size := by omega
    have hL := Lib.hid (fun (t : ByteArray) (ht : t.size ≤ 1000) => local_any t (w.alloc (.cells #[.int .u8 (b.toNat : Int)] 5)) (by omega))
    clear h0
    go_enter Tryz.func195, Tryz.ntmps195
    go_wp2_with fail
    refine (hL.out _ ?_).mono ?_
    · have hb1 : (⟨#[b]⟩ : ByteArray).size = 1 := rfl
      simp [ByteArray.size_append, ByteArray.size_extract, hb1]
      try omega
    rintro e w' ⟨rfl, rfl⟩
    go_wp2
    go_ret
    exact ⟨rfl, AL.out⟩
theorem u8ne (b : UInt8) : ((b.toNat : Int) != 46) = !(b == 46) := by
  unfold bne
  rw [show ((b.toNat : Int) == 46) = (b == 46) from by
    rw [Bool.eq_iff_iff, beq_iff_eq, beq_iff_eq, ← UInt8.toNat_inj]
    show (b.toNat : Int) = ((46 : Nat) : Int) ↔ b.toNat = 46
    omega]
theorem bgoes_any (w : World) (m i : Nat) (s : ByteArray) (b : UInt8) (hc : w.cell? ⟨m, i, none⟩ = some (.string s)) (hl : m < w.heap.size) (hs : s.size ≤ 1000) :
    Calls Tryz.prog 276 #[.pointer (some ⟨m, i, none⟩), .int .u8 (b.toNat : Int)] w fun e w' => e = .returned (.bool (bGo s b)) ∧ Below w.heap.size w w' := by
  have hG := Lib.hid (ngoes_any w m i s b hc hl hs)
  unfold bGo
  generalize nGo s b = r at *
  have hu := u8ne b
  by_cases hz : (b.toNat : Int) = 46
  · have hb : (b == 46) = true := by
      rw [beq_iff_eq, ← UInt8.toNat_inj]
      show b.toNat = 46
      omega
    rw [hb]
    clear hb hu
    go_enter Tryz.func276, Tryz.ntmps276
    go_wp2
    go_ret
    exact ⟨rfl, Below.refl _ _⟩
  · have hb : (b == 46) = false := by
      rw [beq_eq_false_iff_ne]
      intro h
      exact hz (by rw [h]; rfl)
    rw [hb, Bool.not_false, Bool.true_and]
    clear hb hu
    go_enter Tryz.func276, Tryz.ntmps276
    go_wp2_with fail
    refine hG.out.mono ?_
    rintro e w' ⟨rfl, hb⟩
    have HB := Lib.hid hb
    clear hb
    have HZ : Hid (((b.toNat : Int) != 46) = true) := Lib.hid (by simp [bne, hz])
    go_wp2
    go_ret
    exact ⟨ret_bool (by rw [HZ.out, Bool.true_and]), HB.out⟩
end Go.Proofs.YtalkjgijmceifaaGreatDoor
namespace Go.Proofs.YtalkjgijmceifaaGreatDoor
open Go.RowKit Go.Maps
set_option maxRecDepth 100000
set_option linter.unusedSimpArgs false
set_option linter.unusedVariables false
set_option linter.unusedSectionVars false
variable [Tab] [Fo]

/-- Whether a name is ahead. -/
def naB (S : List UInt8) (a : Nat) : Bool := match S[a]? with | some b => nGo ⟨#[]⟩ b | none => false
set_option maxHeartbeats 1000000 in
theorem name_ahead (w : World) (L : Nat) (o : LO) (S : List UInt8) (a : Nat) (h : LAt w L o S a) (hS : S.length ≤ 1000) (ha : a ≤ S.length) :
    Calls Tryz.prog 187 #[.pointer (some ⟨L, 0, none⟩)] w fun e w' => e = .returned (.bool (naB S a)) ∧ Below w.heap.size w w' := by
  have l0 : w.cell? ⟨L, 0, none⟩ = some (.string ⟨S.toArray⟩) := Blk.cell h 0
  have l1 : w.cell? ⟨L, 1, none⟩ = some (.int .i64 (a : Int)) := Blk.cell h 1
  have hlt := Blk.lt h
  have hz := bsize S
  have hC := over_any w.drew L o S a (h.drew 1) hS (by omega)
  by_cases hov : a = S.length
  · rw [decide_eq_true hov] at hC
    have hC := Lib.hid hC
    have hr : naB S a = false := by unfold naB; rw [List.getElem?_eq_none (by omega)]
    rw [hr]
    clear h hr
    go_enter Tryz.func187, Tryz.ntmps187
    go_wp2
    refine region_g [] (S := (fun W => W.cell? ⟨L, 0, none⟩ = some (.string ⟨S.toArray⟩) ∧ W.cell? ⟨L, 1, none⟩ = some (.int .i64 (a : Int)))) (by kernel_rfl) ⟨l0, l1⟩ (fun hH => ?_)
    refine g_take (i := 0) (v := .pointer (some ⟨L, 0, none⟩)) (by rfl) (by kernel_rfl) (by kernel_rfl) (by kernel_rfl) (by kernel_rfl) (fun _ _ _ h => (by cases h.1)) (Or.inl ⟨by kernel_rfl, fun W hS => (by obtain ⟨s0, s1⟩ := hS; go_simp)⟩) hH ?_
    simp only [Act.put, List.setIfInBounds_toArray, List.set_cons_zero, List.set_cons_succ]
    refine g_one (i := 1) (by kernel_rfl) (by rfl) (fun K hK => ?_)
    go_simp
    refine hC.out.mono ?_
    rintro e w1 ⟨rfl, rfl⟩
    refine hK.out _ _ (fun _ => ⟨l0, l1⟩) (fun _ => ?_)
    clear hK K
    refine g_take (i := 2) (v := .bool false) (by rfl) (by kernel_rfl) (by kernel_rfl) (by kernel_rfl) (by kernel_rfl) (fun _ _ _ h => (by cases h.1)) (Or.inl ⟨by kernel_rfl, fun W hS => (by obtain ⟨s0, s1⟩ := hS; go_simp)⟩) hH ?_
    simp only [Act.put, List.setIfInBounds_toArray, List.set_cons_zero, List.set_cons_succ]
    refine g_take (i := 3) (v := .bool false) (by rfl) (by kernel_rfl) (by kernel_rfl) (by kernel_rfl) (by kernel_rfl) (fun _ _ _ h => (by cases h.1)) (Or.inl ⟨by kernel_rfl, fun W hS => (by obtain ⟨s0, s1⟩ := hS; go_simp)⟩) hH ?_
    simp only [Act.put, List.setIfInBounds_toArray, List.set_cons_zero, List.set_cons_succ]
    refine g_take (i := 4) (v := undef) (by rfl) (by kernel_rfl) (by kernel_rfl) (by kernel_rfl) (by kernel_rfl) (fun _ _ _ h => (by cases h.1)) (Or.inr ⟨by kernel_rfl, rfl⟩) hH ?_
    simp only [Act.put, List.setIfInBounds_toArray, List.set_cons_zero, List.set_cons_succ]
    refine g_take (i := 5) (v := undef) (by rfl) (by kernel_rfl) (by kernel_rfl) (by kernel_rfl) (by kernel_rfl) (fun _ _ _ h => (by cases h.1)) (Or.inr ⟨by kernel_rfl, rfl⟩) hH ?_
    simp only [Act.put, List.setIfInBounds_toArray, List.set_cons_zero, List.set_cons_succ]
    refine g_take (i := 6) (v := undef) (by rfl) (by kernel_rfl) (by kernel_rfl) (by kernel_rfl) (by kernel_rfl) (fun _ _ _ h => (by cases h.1)) (Or.inr ⟨by kernel_rfl, rfl⟩) hH ?_
    simp only [Act.put, List.setIfInBounds_toArray, List.set_cons_zero, List.set_cons_succ]
    refine g_take (i := 7) (v := undef) (by rfl) (by kernel_rfl) (by kernel_rfl) (by kernel_rfl) (by kernel_rfl) (fun _ _ _ h => (by cases h.1)) (Or.inr ⟨by kernel_rfl, rfl⟩) hH ?_
    simp only [Act.put, List.setIfInBounds_toArray, List.set_cons_zero, List.set_cons_succ]
    refine g_take (i := 8) (v := undef) (by rfl) (by kernel_rfl) (by kernel_rfl) (by kernel_rfl) (by kernel_rfl) (fun _ _ _ h => (by cases h.1)) (Or.inr ⟨by kernel_rfl, rfl⟩) hH ?_
    simp only [Act.put, List.setIfInBounds_toArray, List.set_cons_zero, List.set_cons_succ]
    refine g_take (i := 9) (v := undef) (by rfl) (by kernel_rfl) (by kernel_rfl) (by kernel_rfl) (by kernel_rfl) (fun _ _ _ h => (by cases h.1)) (Or.inr ⟨by kernel_rfl, rfl⟩) hH ?_
    simp only [Act.put, List.setIfInBounds_toArray, List.set_cons_zero, List.set_cons_succ]
    refine g_take (i := 10) (v := undef) (by rfl) (by kernel_rfl) (by kernel_rfl) (by kernel_rfl) (by kernel_rfl) (fun _ _ _ h => (by cases h.1)) (Or.inr ⟨by kernel_rfl, rfl⟩) hH ?_
    simp only [Act.put, List.setIfInBounds_toArray, List.set_cons_zero, List.set_cons_succ]
    refine g_take (i := 11) (v := undef) (by rfl) (by kernel_rfl) (by kernel_rfl) (by kernel_rfl) (by kernel_rfl) (fun _ _ _ h => (by cases h.1)) (Or.inr ⟨by kernel_rfl, rfl⟩) hH ?_
    simp only [Act.put, List.setIfInBounds_toArray, List.set_cons_zero, List.set_cons_succ]
    refine g_take (i := 12) (v := undef) (by rfl) (by kernel_rfl) (by kernel_rfl) (by kernel_rfl) (by kernel_rfl) (fun _ _ _ h => (by cases h.1)) (Or.inr ⟨by kernel_rfl, rfl⟩) hH ?_
    simp only [Act.put, List.setIfInBounds_toArray, List.set_cons_zero, List.set_cons_succ]
    refine g_take (i := 13) (v := undef) (by rfl) (by kernel_rfl) (by kernel_rfl) (by kernel_rfl) (by kernel_rfl) (fun _ _ _ h => (by cases h.1)) (Or.inr ⟨by kernel_rfl, rfl⟩) hH ?_
    simp only [Act.put, List.setIfInBounds_toArray, List.set_cons_zero, List.set_cons_succ]
    refine g_take (i := 14) (v := undef) (by rfl) (by kernel_rfl) (by kernel_rfl) (by kernel_rfl) (by kernel_rfl) (fun _ _ _ h => (by cases h.1)) (Or.inr ⟨by kernel_rfl, rfl⟩) hH ?_
    simp only [Act.put, List.setIfInBounds_toArray, List.set_cons_zero, List.set_cons_succ]
    refine g_take (i := 15) (v := undef) (by rfl) (by kernel_rfl) (by kernel_rfl) (by kernel_rfl) (by kernel_rfl) (fun _ _ _ h => (by cases h.1)) (Or.inr ⟨by kernel_rfl, rfl⟩) hH ?_
    simp only [Act.put, List.setIfInBounds_toArray, List.set_cons_zero, List.set_cons_succ]
    refine g_one (i := 16) (by kernel_rfl) (by rfl) (fun K hK => ?_)
    go_simp
    refine hK.out _ _ (fun _ => ⟨l0, l1⟩) (fun _ => ?_)
    clear hK K
    refine g_one (i := 17) (by kernel_rfl) (by rfl) (fun K hK => ?_)
    go_simp
    refine hK.out _ _ (fun _ => ⟨l0, l1⟩) (fun _ => ?_)
    clear hK K
    refine g_done (by kernel_rfl) ⟨by first | rfl | trivial, ?_⟩ _
    go_wp2
    go_ret
    exact ⟨rfl, below_drewN (Below.refl _ _) 2⟩
  · rw [decide_eq_false hov] at hC
    have hal : a < S.length := by omega
    have hC := Lib.hid hC
    have hr : naB S a = nGo ⟨#[]⟩ S[a] := by unfold naB; rw [List.getElem?_eq_getElem hal]
    rw [hr]
    clear hr
    have al : Below w.heap.size w (w.drewN 2) := below_drewN (Below.refl _ _) 2
    have hA := h.alloc (.cells #[.string ⟨#[]⟩] 228)
    have k0 : (w.alloc (.cells #[.string ⟨#[]⟩] 228)).cell? ⟨L, 0, none⟩ = some (.string ⟨S.toArray⟩) := Blk.cell hA 0
    have k1 : (w.alloc (.cells #[.string ⟨#[]⟩] 228)).cell? ⟨L, 1, none⟩ = some (.int .i64 (a : Int)) := Blk.cell hA 1
    have k2 : (w.alloc (.cells #[.string ⟨#[]⟩] 228)).cell? ⟨w.heap.size, 0, none⟩ = some (.string ⟨#[]⟩) := (Blk.new w 228 #[.string ⟨#[]⟩]).cell 0
    have hG := Lib.hid (ngoes_any ((w.alloc (.cells #[.string ⟨#[]⟩] 228)).drewN 2) w.heap.size 0 ⟨#[]⟩ S[a] k2 (by simp) (Nat.zero_le _))
    have al1 : Below w.heap.size w ((w.alloc (.cells #[.string ⟨#[]⟩] 228)).drewN 2) := below_drewN ((Below.refl _ _).alloc (Nat.le_refl _) _) 2
    have AL := Lib.hid al1
    clear h hA al al1 k2
    go_enter Tryz.func187, Tryz.ntmps187
    go_wp2
    refine region_g [] (S := (fun W => W.cell? ⟨L, 0, none⟩ = some (.string ⟨S.toArray⟩) ∧ W.cell? ⟨L, 1, none⟩ = some (.int .i64 (a : Int)))) (by kernel_rfl) ⟨l0, l1⟩ (fun hH => ?_)
    refine g_take (i := 0) (v := .pointer (some ⟨L, 0, none⟩)) (by rfl) (by kernel_rfl) (by kernel_rfl) (by kernel_rfl) (by kernel_rfl) (fun _ _ _ h => (by cases h.1)) (Or.inl ⟨by kernel_rfl, fun W hS => (by obtain ⟨s0, s1⟩ := hS; go_simp)⟩) hH ?_
    simp only [Act.put, List.setIfInBounds_toArray, List.set_cons_zero, List.set_cons_succ]
    refine g_one (i := 1) (by kernel_rfl) (by rfl) (fun K hK => ?_)
    go_simp
    refine hC.out.mono ?_
    rintro e w1 ⟨rfl, rfl⟩
    refine hK.out _ _ (fun _ => ⟨l0, l1⟩) (fun _ => ?_)
    clear hK K
    refine g_take (i := 2) (v := .bool true) (by rfl) (by kernel_rfl) (by kernel_rfl) (by kernel_rfl) (by kernel_rfl) (fun _ _ _ h => (by cases h.1)) (Or.inl ⟨by kernel_rfl, fun W hS => (by obtain ⟨s0, s1⟩ := hS; go_simp)⟩) hH ?_
    simp only [Act.put, List.setIfInBounds_toArray, List.set_cons_zero, List.set_cons_succ]
    refine g_take (i := 3) (v := .bool true) (by rfl) (by kernel_rfl) (by kernel_rfl) (by kernel_rfl) (by kernel_rfl) (fun _ _ _ h => (by cases h.1)) (Or.inl ⟨by kernel_rfl, fun W hS => (by obtain ⟨s0, s1⟩ := hS; go_simp)⟩) hH ?_
    simp only [Act.put, List.setIfInBounds_toArray, List.set_cons_zero, List.set_cons_succ]
    refine g_take (i := 4) (v := .agg #[.string ⟨#[]⟩]) (by rfl) (by kernel_rfl) (by kernel_rfl) (by kernel_rfl) (by kernel_rfl) (fun _ _ _ h => (by cases h.1)) (Or.inl ⟨by kernel_rfl, fun W hS => (by obtain ⟨s0, s1⟩ := hS; go_simp)⟩) hH ?_
    simp only [Act.put, List.setIfInBounds_toArray, List.set_cons_zero, List.set_cons_succ]
    refine g_take (i := 6) (v := .pointer (some ⟨L, 0, none⟩)) (by rfl) (by kernel_rfl) (by kernel_rfl) (by kernel_rfl) (by kernel_rfl) (fun _ _ _ h => (by cases h.1)) (Or.inl ⟨by kernel_rfl, fun W hS => (by obtain ⟨s0, s1⟩ := hS; go_simp)⟩) hH ?_
    simp only [Act.put, List.setIfInBounds_toArray, List.set_cons_zero, List.set_cons_succ]
    refine g_take (i := 7) (v := .pointer (some ⟨L, 0, none⟩)) (by rfl) (by kernel_rfl) (by kernel_rfl) (by kernel_rfl) (by kernel_rfl) (fun _ _ _ h => (by cases h.1)) (Or.inl ⟨by kernel_rfl, fun W hS => (by obtain ⟨s0, s1⟩ := hS; go_simp)⟩) hH ?_
    simp only [Act.put, List.setIfInBounds_toArray, List.set_cons_zero, List.set_cons_succ]
    refine g_take (i := 8) (v := .pointer (some ⟨L, 0, none⟩)) (by rfl) (by kernel_rfl) (by kernel_rfl) (by kernel_rfl) (by kernel_rfl) (fun _ _ _ h => (by cases h.1)) (Or.inl ⟨by kernel_rfl, fun W hS => (by obtain ⟨s0, s1⟩ := hS; go_simp)⟩) hH ?_
    simp only [Act.put, List.setIfInBounds_toArray, List.set_cons_zero, List.set_cons_succ]
    refine g_take (i := 9) (v := .string ⟨S.toArray⟩) (by rfl) (by kernel_rfl) (by kernel_rfl) (by kernel_rfl) (by kernel_rfl) (fun _ _ _ h => (by cases h.1)) (Or.inl ⟨by kernel_rfl, fun W hS => (by obtain ⟨s0, s1⟩ := hS; go_simp)⟩) hH ?_
    simp only [Act.put, List.setIfInBounds_toArray, List.set_cons_zero, List.set_cons_succ]
    refine g_take (i := 10) (v := .pointer (some ⟨L, 0, none⟩)) (by rfl) (by kernel_rfl) (by kernel_rfl) (by kernel_rfl) (by kernel_rfl) (fun _ _ _ h => (by cases h.1)) (Or.inl ⟨by kernel_rfl, fun W hS => (by obtain ⟨s0, s1⟩ := hS; go_simp)⟩) hH ?_
    simp only [Act.put, List.setIfInBounds_toArray, List.set_cons_zero, List.set_cons_succ]
    refine g_take (i := 11) (v := .pointer (some ⟨L, 0, none⟩)) (by rfl) (by kernel_rfl) (by kernel_rfl) (by kernel_rfl) (by kernel_rfl) (fun _ _ _ h => (by cases h.1)) (Or.inl ⟨by kernel_rfl, fun W hS => (by obtain ⟨s0, s1⟩ := hS; go_simp)⟩) hH ?_
    simp only [Act.put, List.setIfInBounds_toArray, List.set_cons_zero, List.set_cons_succ]
    refine g_take (i := 12) (v := .pointer (some ⟨L, 1, none⟩)) (by rfl) (by kernel_rfl) (by kernel_rfl) (by kernel_rfl) (by kernel_rfl) (fun _ _ _ h => (by cases h.1)) (Or.inl ⟨by kernel_rfl, fun W hS => (by obtain ⟨s0, s1⟩ := hS; go_simp)⟩) hH ?_
    simp only [Act.put, List.setIfInBounds_toArray, List.set_cons_zero, List.set_cons_succ]
    refine g_take (i := 13) (v := .int .i64 (a : Int)) (by rfl) (by kernel_rfl) (by kernel_rfl) (by kernel_rfl) (by kernel_rfl) (fun _ _ _ h => (by cases h.1)) (Or.inl ⟨by kernel_rfl, fun W hS => (by obtain ⟨s0, s1⟩ := hS; go_simp)⟩) hH ?_
    simp only [Act.put, List.setIfInBounds_toArray, List.set_cons_zero, List.set_cons_succ]
    refine g_take (i := 14) (v := .int .u8 (S[a].toNat : Int)) (by rfl) (by kernel_rfl) (by kernel_rfl) (by kernel_rfl) (by kernel_rfl) (fun _ _ _ h => (by cases h.1)) (Or.inl ⟨by kernel_rfl, fun W hS => (by obtain ⟨s0, s1⟩ := hS; go_simp; rfl)⟩) hH ?_
    simp only [Act.put, List.setIfInBounds_toArray, List.set_cons_zero, List.set_cons_succ]
    refine g_one (i := 5) (by kernel_rfl) (by rfl) (fun K hK => ?_)
    go_simp
    refine hK.out _ _ (fun _ => ⟨k0, k1⟩) (fun _ => ?_)
    clear hK K
    refine g_one (i := 15) (by kernel_rfl) (by rfl) (fun K hK => ?_)
    go_simp
    refine hG.out.mono ?_
    rintro e w3 ⟨rfl, hb3⟩
    have k0' : w3.cell? ⟨L, 0, none⟩ = some (.string ⟨S.toArray⟩) := (hb3.cell (p := ⟨L, 0, none⟩) (cell_lt k0)).trans k0
    have k1' : w3.cell? ⟨L, 1, none⟩ = some (.int .i64 (a : Int)) := (hb3.cell (p := ⟨L, 1, none⟩) (cell_lt k1)).trans k1
    have HB := Lib.hid (AL.out.trans (hb3.mono AL.out.size))
    clear hb3 hG AL
    refine hK.out _ _ (fun _ => ⟨k0', k1'⟩) (fun _ => ?_)
    clear hK K
    refine g_one (i := 16) (by kernel_rfl) (by rfl) (fun K hK => ?_)
    go_simp
    refine hK.out _ _ (fun _ => ⟨k0', k1'⟩) (fun _ => ?_)
    clear hK K
    refine g_one (i := 17) (by kernel_rfl) (by rfl) (fun K hK => ?_)
    go_simp
    refine hK.out _ _ (fun _ => ⟨k0', k1'⟩) (fun _ => ?_)
    clear hK K
    refine g_done (by kernel_rfl) ⟨by first | rfl | trivial, ?_⟩ _
    go_wp2
    go_ret
    exact ⟨rfl, HB.out⟩
end Go.Proofs.YtalkjgijmceifaaGreatDoor

/-
  lines: a token that is as long as possible: NameAhead, longest for names and numbers.
  lines: NameAhead.
  stream: events that are asked for, for any machine: take, Next, End.
-/
import Derived.Test.YtalkjgijmceifaaGreatDoorOwA21
import Derived.Test.YtalkjgijmceifaaGreatDoorOwA04
import Derived.Test.YtalkjgijmceifaaGreatDoorOwA14
namespace Go.Proofs.YtalkjgijmceifaaGreatDoor
open Go.RowKit Go.Maps
set_option maxRecDepth 100000
set_option linter.unusedSimpArgs false
set_option linter.unusedVariables false
set_option linter.unusedSectionVars false
variable [Tab] [Fo]

/-- Whether a name goes on with a byte. -/
def nGo (s : ByteArray) (b : UInt8) : Bool := localL (s.data.toList.take 1 ++ [b])
/-- The same of a name without a dot. -/
def bGo (s : ByteArray) (b : UInt8) : Bool := !(b == 46) && nGo s b
theorem ngoes_any (w : World) (m i : Nat) (s : ByteArray) (b : UInt8) (hc : w.cell? ⟨m, i, none⟩ = some (.string s)) (hl : m < w.heap.size) (hs : s.size ≤ 1000) :
    Calls Tryz.prog 195 #[.pointer (some ⟨m, i, none⟩), .int .u8 (b.toNat : Int)] w fun e w' => e = .returned (.bool (nGo s b)) ∧ Below w.heap.size w w' := by
  unfold nGo
  have h1 := one_str w b
  have al : Below w.heap.size w (w.alloc (.cells #[.int .u8 (b.toNat : Int)] 5)) := (Below.refl _ _).alloc (Nat.le_refl _) _
  have AL := Lib.hid al
  clear al
  by_cases h0 : s.size = 0
  · obtain rfl : s = ⟨#[]⟩ := ByteArray.ext (Array.eq_empty_of_size_eq_zero h0)
    have hL := Lib.hid (local_any (⟨#[b]⟩ : ByteArray) (w.alloc (.cells #[.int .u8 (b.toNat : Int)] 5)) (by show (1 : Nat) ≤ _; decide))
    clear h0
    go_enter Tryz.func195, Tryz.ntmps195
    go_wp2_with fail
    refine hL.out.mono ?_
    rintro e w' ⟨rfl, rfl⟩
    go_wp2
    go_ret
    exact ⟨rfl, AL.out⟩
  · have z1 : s.toList.isEmpty = false := by
      rw [Bool.eq_false_iff]
      intro e
      have h5 := congrArg List.length (List.isEmpty_iff.1 e)
      rw [Lib.toList_data, Array.length_toList] at h5
      exact h0 h5
    have hs1 : 1 ≤ s.size := by omega
    have hL := Lib.hid (fun (t : ByteArray) (ht : t.size ≤ 1000) => local_any t (w.alloc (.cells #[.int .u8 (b.toNat : Int)] 5)) (by omega))
    clear h0
    go_enter Tryz.func195, Tryz.ntmps195
    go_wp2_with fail
    refine (hL.out _ ?_).mono ?_
    · have hb1 : (⟨#[b]⟩ : ByteArray).size = 1 := rfl
      simp [ByteArray.size_append, ByteArray.size_extract, hb1]
      try omega
    rintro e w' ⟨rfl, rfl⟩
    go_wp2
    go_ret
    exact ⟨rfl, AL.out⟩
theorem u8ne (b : UInt8) : ((b.toNat : Int) != 46) = !(b == 46) := by
  unfold bne
  rw [show ((b.toNat : Int) == 46) = (b == 46) from by
    rw [Bool.eq_iff_iff, beq_iff_eq, beq_iff_eq, ← UInt8.toNat_inj]
    show (b.toNat : Int) = ((46 : Nat) : Int) ↔ b.toNat = 46
    omega]
theorem bgoes_any (w : World) (m i : Nat) (s : ByteArray) (b : UInt8) (hc : w.cell? ⟨m, i, none⟩ = some (.string s)) (hl : m < w.heap.size) (hs : s.size ≤ 1000) :
    Calls Tryz.prog 276 #[.pointer (some ⟨m, i, none⟩), .int .u8 (b.toNat : Int)] w fun e w' => e = .returned (.bool (bGo s b)) ∧ Below w.heap.size w w' := by
  have hG := Lib.hid (ngoes_any w m i s b hc hl hs)
  unfold bGo
  generalize nGo s b = r at *
  have hu := u8ne b
  by_cases hz : (b.toNat : Int) = 46
  · have hb : (b == 46) = true := by
      rw [beq_iff_eq, ← UInt8.toNat_inj]
      show b.toNat = 46
      omega
    rw [hb]
    clear hb hu
    go_enter Tryz.func276, Tryz.ntmps276
    go_wp2
    go_ret
    exact ⟨rfl, Below.refl _ _⟩
  · have hb : (b == 46) = false := by
      rw [beq_eq_false_iff_ne]
      intro h
      exact hz (by rw [h]; rfl)
    rw [hb, Bool.not_false, Bool.true_and]
    clear hb hu
    go_enter Tryz.func276, Tryz.ntmps276
    go_wp2_with fail
    refine hG.out.mono ?_
    rintro e w' ⟨rfl, hb⟩
    have HB := Lib.hid hb
    clear hb
    have HZ : Hid (((b.toNat : Int) != 46) = true) := Lib.hid (by simp [bne, hz])
    go_wp2
    go_ret
    exact ⟨ret_bool (by rw [HZ.out, Bool.true_and]), HB.out⟩
end Go.Proofs.YtalkjgijmceifaaGreatDoor
namespace Go.Proofs.YtalkjgijmceifaaGreatDoor
open Go.RowKit Go.Maps
set_option maxRecDepth 100000
set_option linter.unusedSimpArgs false
set_option linter.unusedVariables false
set_option linter.unusedSectionVars false
variable [Tab] [Fo]

/-- Whether a name is ahead. -/
def naB (S : List UInt8) (a : Nat) : Bool := match S[a]? with | some b => nGo ⟨#[]⟩ b | none => false
set_option maxHeartbeats 1000000 in
theorem name_ahead (w : World) (L : Nat) (o : LO) (S : List UInt8) (a : Nat) (h : LAt w L o S a) (hS : S.length ≤ 1000) (ha : a ≤ S.length) :
    Calls Tryz.prog 187 #[.pointer (some ⟨L, 0, none⟩)] w fun e w' => e = .returned (.bool (naB S a)) ∧ Below w.heap.size w w' := by
  have l0 : w.cell? ⟨L, 0, none⟩ = some (.string ⟨S.toArray⟩) := Blk.cell h 0
  have l1 : w.cell? ⟨L, 1, none⟩ = some (.int .i64 (a : Int)) := Blk.cell h 1
  have hlt := Blk.lt h
  have hz := bsize S
  have hC := over_any w.drew L o S a (h.drew 1) hS (by omega)
  by_cases hov : a = S.length
  · rw [decide_eq_true hov] at hC
    have hC := Lib.hid hC
    have hr : naB S a = false := by unfold naB; rw [List.getElem?_eq_none (by omega)]
    rw [hr]
    clear h hr
    go_enter Tryz.func187, Tryz.ntmps187
    go_wp2
    refine region_g [] (S := (fun W => W.cell? ⟨L, 0, none⟩ = some (.string ⟨S.toArray⟩) ∧ W.cell? ⟨L, 1, none⟩ = some (.int .i64 (a : Int)))) (by kernel_rfl) ⟨l0, l1⟩ (fun hH => ?_)
    refine g_take (i := 0) (v := .pointer (some ⟨L, 0, none⟩)) (by rfl) (by kernel_rfl) (by kernel_rfl) (by kernel_rfl) (by kernel_rfl) (fun _ _ _ h => (by cases h.1)) (Or.inl ⟨by kernel_rfl, fun W hS => (by obtain ⟨s0, s1⟩ := hS; go_simp)⟩) hH ?_
    simp only [Act.put, List.setIfInBounds_toArray, List.set_cons_zero, List.set_cons_succ]
    refine g_one (i := 1) (by kernel_rfl) (by rfl) (fun K hK => ?_)
    go_simp
    refine hC.out.mono ?_
    rintro e w1 ⟨rfl, rfl⟩
    refine hK.out _ _ (fun _ => ⟨l0, l1⟩) (fun _ => ?_)
    clear hK K
    refine g_take (i := 2) (v := .bool false) (by rfl) (by kernel_rfl) (by kernel_rfl) (by kernel_rfl) (by kernel_rfl) (fun _ _ _ h => (by cases h.1)) (Or.inl ⟨by kernel_rfl, fun W hS => (by obtain ⟨s0, s1⟩ := hS; go_simp)⟩) hH ?_
    simp only [Act.put, List.setIfInBounds_toArray, List.set_cons_zero, List.set_cons_succ]
    refine g_take (i := 3) (v := .bool false) (by rfl) (by kernel_rfl) (by kernel_rfl) (by kernel_rfl) (by kernel_rfl) (fun _ _ _ h => (by cases h.1)) (Or.inl ⟨by kernel_rfl, fun W hS => (by obtain ⟨s0, s1⟩ := hS; go_simp)⟩) hH ?_
    simp only [Act.put, List.setIfInBounds_toArray, List.set_cons_zero, List.set_cons_succ]
    refine g_take (i := 4) (v := undef) (by rfl) (by kernel_rfl) (by kernel_rfl) (by kernel_rfl) (by kernel_rfl) (fun _ _ _ h => (by cases h.1)) (Or.inr ⟨by kernel_rfl, rfl⟩) hH ?_
    simp only [Act.put, List.setIfInBounds_toArray, List.set_cons_zero, List.set_cons_succ]
    refine g_take (i := 5) (v := undef) (by rfl) (by kernel_rfl) (by kernel_rfl) (by kernel_rfl) (by kernel_rfl) (fun _ _ _ h => (by cases h.1)) (Or.inr ⟨by kernel_rfl, rfl⟩) hH ?_
    simp only [Act.put, List.setIfInBounds_toArray, List.set_cons_zero, List.set_cons_succ]
    refine g_take (i := 6) (v := undef) (by rfl) (by kernel_rfl) (by kernel_rfl) (by kernel_rfl) (by kernel_rfl) (fun _ _ _ h => (by cases h.1)) (Or.inr ⟨by kernel_rfl, rfl⟩) hH ?_
    simp only [Act.put, List.setIfInBounds_toArray, List.set_cons_zero, List.set_cons_succ]
    refine g_take (i := 7) (v := undef) (by rfl) (by kernel_rfl) (by kernel_rfl) (by kernel_rfl) (by kernel_rfl) (fun _ _ _ h => (by cases h.1)) (Or.inr ⟨by kernel_rfl, rfl⟩) hH ?_
    simp only [Act.put, List.setIfInBounds_toArray, List.set_cons_zero, List.set_cons_succ]
    refine g_take (i := 8) (v := undef) (by rfl) (by kernel_rfl) (by kernel_rfl) (by kernel_rfl) (by kernel_rfl) (fun _ _ _ h => (by cases h.1)) (Or.inr ⟨by kernel_rfl, rfl⟩) hH ?_
    simp only [Act.put, List.setIfInBounds_toArray, List.set_cons_zero, List.set_cons_succ]
    refine g_take (i := 9) (v := undef) (by rfl) (by kernel_rfl) (by kernel_rfl) (by kernel_rfl) (by kernel_rfl) (fun _ _ _ h => (by cases h.1)) (Or.inr ⟨by kernel_rfl, rfl⟩) hH ?_
    simp only [Act.put, List.setIfInBounds_toArray, List.set_cons_zero, List.set_cons_succ]
    refine g_take (i := 10) (v := undef) (by rfl) (by kernel_rfl) (by kernel_rfl) (by kernel_rfl) (by kernel_rfl) (fun _ _ _ h => (by cases h.1)) (Or.inr ⟨by kernel_rfl, rfl⟩) hH ?_
    simp only [Act.put, List.setIfInBounds_toArray, List.set_cons_zero, List.set_cons_succ]
    refine g_take (i := 11) (v := undef) (by rfl) (by kernel_rfl) (by kernel_rfl) (by kernel_rfl) (by kernel_rfl) (fun _ _ _ h => (by cases h.1)) (Or.inr ⟨by kernel_rfl, rfl⟩) hH ?_
    simp only [Act.put, List.setIfInBounds_toArray, List.set_cons_zero, List.set_cons_succ]
    refine g_take (i := 12) (v := undef) (by rfl) (by kernel_rfl) (by kernel_rfl) (by kernel_rfl) (by kernel_rfl) (fun _ _ _ h => (by cases h.1)) (Or.inr ⟨by kernel_rfl, rfl⟩) hH ?_
    simp only [Act.put, List.setIfInBounds_toArray, List.set_cons_zero, List.set_cons_succ]
    refine g_take (i := 13) (v := undef) (by rfl) (by kernel_rfl) (by kernel_rfl) (by kernel_rfl) (by kernel_rfl) (fun _ _ _ h => (by cases h.1)) (Or.inr ⟨by kernel_rfl, rfl⟩) hH ?_
    simp only [Act.put, List.setIfInBounds_toArray, List.set_cons_zero, List.set_cons_succ]
    refine g_take (i := 14) (v := undef) (by rfl) (by kernel_rfl) (by kernel_rfl) (by kernel_rfl) (by kernel_rfl) (fun _ _ _ h => (by cases h.1)) (Or.inr ⟨by kernel_rfl, rfl⟩) hH ?_
    simp only [Act.put, List.setIfInBounds_toArray, List.set_cons_zero, List.set_cons_succ]
    refine g_take (i := 15) (v := undef) (by rfl) (by kernel_rfl) (by kernel_rfl) (by kernel_rfl) (by kernel_rfl) (fun _ _ _ h => (by cases h.1)) (Or.inr ⟨by kernel_rfl, rfl⟩) hH ?_
    simp only [Act.put, List.setIfInBounds_toArray, List.set_cons_zero, List.set_cons_succ]
    refine g_one (i := 16) (by kernel_rfl) (by rfl) (fun K hK => ?_)
    go_simp
    refine hK.out _ _ (fun _ => ⟨l0, l1⟩) (fun _ => ?_)
    clear hK K
    refine g_one (i := 17) (by kernel_rfl) (by rfl) (fun K hK => ?_)
    go_simp
    refine hK.out _ _ (fun _ => ⟨l0, l1⟩) (fun _ => ?_)
    clear hK K
    refine g_done (by kernel_rfl) ⟨by first | rfl | trivial, ?_⟩ _
    go_wp2
    go_ret
    exact ⟨rfl, below_drewN (Below.refl _ _) 2⟩
  · rw [decide_eq_false hov] at hC
    have hal : a < S.length := by omega
    have hC := Lib.hid hC
    have hr : naB S a = nGo ⟨#[]⟩ S[a] := by unfold naB; rw [List.getElem?_eq_getElem hal]
    rw [hr]
    clear hr
    have al : Below w.heap.size w (w.drewN 2) := below_drewN (Below.refl _ _) 2
    have hA := h.alloc (.cells #[.string ⟨#[]⟩] 228)
    have k0 : (w.alloc (.cells #[.string ⟨#[]⟩] 228)).cell? ⟨L, 0, none⟩ = some (.string ⟨S.toArray⟩) := Blk.cell hA 0
    have k1 : (w.alloc (.cells #[.string ⟨#[]⟩] 228)).cell? ⟨L, 1, none⟩ = some (.int .i64 (a : Int)) := Blk.cell hA 1
    have k2 : (w.alloc (.cells #[.string ⟨#[]⟩] 228)).cell? ⟨w.heap.size, 0, none⟩ = some (.string ⟨#[]⟩) := (Blk.new w 228 #[.string ⟨#[]⟩]).cell 0
    have hG := Lib.hid (ngoes_any ((w.alloc (.cells #[.string ⟨#[]⟩] 228)).drewN 2) w.heap.size 0 ⟨#[]⟩ S[a] k2 (by simp) (Nat.zero_le _))
    have al1 : Below w.heap.size w ((w.alloc (.cells #[.string ⟨#[]⟩] 228)).drewN 2) := below_drewN ((Below.refl _ _).alloc (Nat.le_refl _) _) 2
    have AL := Lib.hid al1
    clear h hA al al1 k2
    go_enter Tryz.func187, Tryz.ntmps187
    go_wp2
    refine region_g [] (S := (fun W => W.cell? ⟨L, 0, none⟩ = some (.string ⟨S.toArray⟩) ∧ W.cell? ⟨L, 1, none⟩ = some (.int .i64 (a : Int)))) (by kernel_rfl) ⟨l0, l1⟩ (fun hH => ?_)
    refine g_take (i := 0) (v := .pointer (some ⟨L, 0, none⟩)) (by rfl) (by kernel_rfl) (by kernel_rfl) (by kernel_rfl) (by kernel_rfl) (fun _ _ _ h => (by cases h.1)) (Or.inl ⟨by kernel_rfl, fun W hS => (by obtain ⟨s0, s1⟩ := hS; go_simp)⟩) hH ?_
    simp only [Act.put, List.setIfInBounds_toArray, List.set_cons_zero, List.set_cons_succ]
    refine g_one (i := 1) (by kernel_rfl) (by rfl) (fun K hK => ?_)
    go_simp
    refine hC.out.mono ?_
    rintro e w1 ⟨rfl, rfl⟩
    refine hK.out _ _ (fun _ => ⟨l0, l1⟩) (fun _ => ?_)
    clear hK K
    refine g_take (i := 2) (v := .bool true) (by rfl) (by kernel_rfl) (by kernel_rfl) (by kernel_rfl) (by kernel_rfl) (fun _ _ _ h => (by cases h.1)) (Or.inl ⟨by kernel_rfl, fun W hS => (by obtain ⟨s0, s1⟩ := hS; go_simp)⟩) hH ?_
    simp only [Act.put, List.setIfInBounds_toArray, List.set_cons_zero, List.set_cons_succ]
    refine g_take (i := 3) (v := .bool true) (by rfl) (by kernel_rfl) (by kernel_rfl) (by kernel_rfl) (by kernel_rfl) (fun _ _ _ h => (by cases h.1)) (Or.inl ⟨by kernel_rfl, fun W hS => (by obtain ⟨s0, s1⟩ := hS; go_simp)⟩) hH ?_
    simp only [Act.put, List.setIfInBounds_toArray, List.set_cons_zero, List.set_cons_succ]
    refine g_take (i := 4) (v := .agg #[.string ⟨#[]⟩]) (by rfl) (by kernel_rfl) (by kernel_rfl) (by kernel_rfl) (by kernel_rfl) (fun _ _ _ h => (by cases h.1)) (Or.inl ⟨by kernel_rfl, fun W hS => (by obtain ⟨s0, s1⟩ := hS; go_simp)⟩) hH ?_
    simp only [Act.put, List.setIfInBounds_toArray, List.set_cons_zero, List.set_cons_succ]
    refine g_take (i := 6) (v := .pointer (some ⟨L, 0, none⟩)) (by rfl) (by kernel_rfl) (by kernel_rfl) (by kernel_rfl) (by kernel_rfl) (fun _ _ _ h => (by cases h.1)) (Or.inl ⟨by kernel_rfl, fun W hS => (by obtain ⟨s0, s1⟩ := hS; go_simp)⟩) hH ?_
    simp only [Act.put, List.setIfInBounds_toArray, List.set_cons_zero, List.set_cons_succ]
    refine g_take (i := 7) (v := .pointer (some ⟨L, 0, none⟩)) (by rfl) (by kernel_rfl) (by kernel_rfl) (by kernel_rfl) (by kernel_rfl) (fun _ _ _ h => (by cases h.1)) (Or.inl ⟨by kernel_rfl, fun W hS => (by obtain ⟨s0, s1⟩ := hS; go_simp)⟩) hH ?_
    simp only [Act.put, List.setIfInBounds_toArray, List.set_cons_zero, List.set_cons_succ]
    refine g_take (i := 8) (v := .pointer (some ⟨L, 0, none⟩)) (by rfl) (by kernel_rfl) (by kernel_rfl) (by kernel_rfl) (by kernel_rfl) (fun _ _ _ h => (by cases h.1)) (Or.inl ⟨by kernel_rfl, fun W hS => (by obtain ⟨s0, s1⟩ := hS; go_simp)⟩) hH ?_
    simp only [Act.put, List.setIfInBounds_toArray, List.set_cons_zero, List.set_cons_succ]
    refine g_take (i := 9) (v := .string ⟨S.toArray⟩) (by rfl) (by kernel_rfl) (by kernel_rfl) (by kernel_rfl) (by kernel_rfl) (fun _ _ _ h => (by cases h.1)) (Or.inl ⟨by kernel_rfl, fun W hS => (by obtain ⟨s0, s1⟩ := hS; go_simp)⟩) hH ?_
    simp only [Act.put, List.setIfInBounds_toArray, List.set_cons_zero, List.set_cons_succ]
    refine g_take (i := 10) (v := .pointer (some ⟨L, 0, none⟩)) (by rfl) (by kernel_rfl) (by kernel_rfl) (by kernel_rfl) (by kernel_rfl) (fun _ _ _ h => (by cases h.1)) (Or.inl ⟨by kernel_rfl, fun W hS => (by obtain ⟨s0, s1⟩ := hS; go_simp)⟩) hH ?_
    simp only [Act.put, List.setIfInBounds_toArray, List.set_cons_zero, List.set_cons_succ]
    refine g_take (i := 11) (v := .pointer (some ⟨L, 0, none⟩)) (by rfl) (by kernel_rfl) (by kernel_rfl) (by kernel_rfl) (by kernel_rfl) (fun _ _ _ h => (by cases h.1)) (Or.inl ⟨by kernel_rfl, fun W hS => (by obtain ⟨s0, s1⟩ := hS; go_simp)⟩) hH ?_
    simp only [Act.put, List.setIfInBounds_toArray, List.set_cons_zero, List.set_cons_succ]
    refine g_take (i := 12) (v := .pointer (some ⟨L, 1, none⟩)) (by rfl) (by kernel_rfl) (by kernel_rfl) (by kernel_rfl) (by kernel_rfl) (fun _ _ _ h => (by cases h.1)) (Or.inl ⟨by kernel_rfl, fun W hS => (by obtain ⟨s0, s1⟩ := hS; go_simp)⟩) hH ?_
    simp only [Act.put, List.setIfInBounds_toArray, List.set_cons_zero, List.set_cons_succ]
    refine g_take (i := 13) (v := .int .i64 (a : Int)) (by rfl) (by kernel_rfl) (by kernel_rfl) (by kernel_rfl) (by kernel_rfl) (fun _ _ _ h => (by cases h.1)) (Or.inl ⟨by kernel_rfl, fun W hS => (by obtain ⟨s0, s1⟩ := hS; go_simp)⟩) hH ?_
    simp only [Act.put, List.setIfInBounds_toArray, List.set_cons_zero, List.set_cons_succ]
    refine g_take (i := 14) (v := .int .u8 (S[a].toNat : Int)) (by rfl) (by kernel_rfl) (by kernel_rfl) (by kernel_rfl) (by kernel_rfl) (fun _ _ _ h => (by cases h.1)) (Or.inl ⟨by kernel_rfl, fun W hS => (by obtain ⟨s0, s1⟩ := hS; go_simp; rfl)⟩) hH ?_
    simp only [Act.put, List.setIfInBounds_toArray, List.set_cons_zero, List.set_cons_succ]
    refine g_one (i := 5) (by kernel_rfl) (by rfl) (fun K hK => ?_)
    go_simp
    refine hK.out _ _ (fun _ => ⟨k0, k1⟩) (fun _ => ?_)
    clear hK K
    refine g_one (i := 15) (by kernel_rfl) (by rfl) (fun K hK => ?_)
    go_simp
    refine hG.out.mono ?_
    rintro e w3 ⟨rfl, hb3⟩
    have k0' : w3.cell? ⟨L, 0, none⟩ = some (.string ⟨S.toArray⟩) := (hb3.cell (p := ⟨L, 0, none⟩) (cell_lt k0)).trans k0
    have k1' : w3.cell? ⟨L, 1, none⟩ = some (.int .i64 (a : Int)) := (hb3.cell (p := ⟨L, 1, none⟩) (cell_lt k1)).trans k1
    have HB := Lib.hid (AL.out.trans (hb3.mono AL.out.size))
    clear hb3 hG AL
    refine hK.out _ _ (fun _ => ⟨k0', k1'⟩) (fun _ => ?_)
    clear hK K
    refine g_one (i := 16) (by kernel_rfl) (by rfl) (fun K hK => ?_)
    go_simp
    refine hK.out _ _ (fun _ => ⟨k0', k1'⟩) (fun _ => ?_)
    clear hK K
    refine g_one (i := 17) (by kernel_rfl) (by rfl) (fun K hK => ?_)
    go_simp
    refine hK.out _ _ (fun _ => ⟨k0', k1'⟩) (fun _ => ?_)
    clear hK K
    refine g_done (by kernel_rfl) ⟨by first | rfl | trivial, ?_⟩ _
    go_wp2
    go_ret
    exact ⟨rfl, HB.out⟩
end Go.Proofs.YtalkjgijmceifaaGreatDoor
namespace Go.Proofs.YtalkjgijmceifaaGreatDoor
open Go.RowKit Go.Maps
set_option maxRecDepth 100000
set_option linter.unusedSimpArgs false
set_option linter.unusedVariables false
set_option linter.unusedSectionVars false
variable [Tab] [Fo]

/-- Nothing has turned but three blocks. -/
structure Fr3 (a b c : Nat) (w w' : World) : Prop where
  os : w'.os = w.os
  tape : w'.tape = w.tape
  output : w'.output = w.output
  size : w.heap.size ≤ w'.heap.size
  keep : ∀ k, k < w.heap.size → k ≠ a → k ≠ b → k ≠ c → w'.heap[k]? = w.heap[k]?
section
variable {a b c : Nat} {w w' w'' : World}
theorem Fr3.refl (a b c : Nat) (w : World) : Fr3 a b c w w := ⟨rfl, rfl, rfl, Nat.le_refl _, fun _ _ _ _ _ => rfl⟩
theorem Fr3.trans (h : Fr3 a b c w w') (k : Fr3 a b c w' w'') : Fr3 a b c w w'' := ⟨k.os.trans h.os, k.tape.trans h.tape, k.output.trans h.output, Nat.le_trans h.size k.size, fun i hi h1 h2 h3 => (k.keep i (Nat.lt_of_lt_of_le hi h.size) h1 h2 h3).trans (h.keep i hi h1 h2 h3)⟩
theorem Fr3.of_below (h : Below w.heap.size w w') : Fr3 a b c w w' := ⟨h.os, h.tape, h.output, h.size, fun k hk _ _ _ => h.block k hk⟩
theorem Fr3.below {base : Nat} (h : Fr3 a b c w w') (ha : base ≤ a) (hb : base ≤ b) (hc : base ≤ c) (hz : base ≤ w.heap.size) : Below base w w' :=
  ⟨h.os, h.tape, h.output, h.size, fun k hk => h.keep k (by omega) (by omega) (by omega) (by omega)⟩
theorem Fr3.blk {g : Nat} {t : TypeId} {cs : Array Value} (h : Fr3 a b c w w') (hB : Blk w g t cs) (h1 : g ≠ a) (h2 : g ≠ b) (h3 : g ≠ c) : Blk w' g t cs := (h.keep g hB.lt h1 h2 h3).trans hB
theorem Fr3.set (h : Fr3 a b c w w') (p : Addr) (u : Value) (hp : p.block = a ∨ p.block = b ∨ p.block = c) : Fr3 a b c w (w'.setCell p u) :=
  ⟨h.os, h.tape, h.output, by simpa [World.setCell] using h.size, fun k hk h1 h2 h3 => (Below.heap_setCell w' p u k (by rcases hp with hp | hp | hp <;> omega)).trans (h.keep k hk h1 h2 h3)⟩
theorem Fr3.row {base : Nat} {e : TypeId} {size n : Nat} {v : Value} {xs : List Value} (h : Fr3 a b c w w') (hr : w.ownsRow base e size v n xs) (hn : ∀ g, v.ownBlock = some g → g ≠ a ∧ g ≠ b ∧ g ≠ c) : w'.ownsRow base e size v n xs := by
  refine ⟨hr.1, ?_⟩
  rcases hr.2 with hv | ⟨g, cap, cur, hv, hg, hh, q⟩
  · exact .inl hv
  · obtain ⟨n1, n2, n3⟩ := hn g (by rw [hv]; rfl)
    exact .inr ⟨g, cap, cur, hv, hg, (h.keep g (Array.getElem?_eq_some_iff.1 hh).1 n1 n2 n3).trans hh, q⟩
end

/-- Events that wait: the row of what is left, in the block g, behind what was taken. -/
def WRow (w : World) (g : Nat) (v : Value) (l : List Ev) : Prop :=
  (l = [] ∧ v = .slice none 0 0) ∨
  ∃ d cap cur, v = .slice (some ⟨g, d * 3, none⟩) l.length cap ∧ l.length ≤ cap ∧ cap ≤ maxLen ∧ w.heap[g]? = some (.cells cur 38 (0, 0)) ∧ (d + cap) * 3 ≤ cur.size ∧ ∀ j, j < l.length * 3 → cur[d * 3 + j]? = (evcs l)[j]?
/-- A Stream whose events are asked for. -/
structure Wt (w : World) (base s sc o ck m g : Nat) (T : TypeId) (e : Int) (rd : Nat) (cl en : Bool) (l : List Ev) : Prop where
  blk : Blk w s 51 (sCells T m sc o e rd cl en)
  out : ∃ lv, Blk w o 47 #[.pointer (some ⟨ck, 0, none⟩), lv, .int .i64 0] ∧ WRow w g lv l
  bs : base ≤ s
  bo : base ≤ o
  bg : base ≤ g
theorem WRow.frame {w w' : World} {g : Nat} {v : Value} {l : List Ev} (h : WRow w g v l) (hk : ∀ o, w.heap[g]? = some o → w'.heap[g]? = some o) : WRow w' g v l := by
  rcases h with h | ⟨d, cap, cur, h1, h2, h3, h4, h5⟩
  · exact .inl h
  · exact .inr ⟨d, cap, cur, h1, h2, h3, hk _ h4, h5⟩
theorem RowT.we [Fo] {w : World} {base : Nat} {v : Value} {l : List Ev} (h : RowT w base v l) : WE w base v (l.drop (Fo.tk.getD 0)) := by
  rcases h with ⟨h0, h⟩ | ⟨n, h0, _, h⟩
  · rw [h0]; exact WE.of_erow h
  · rw [h0]; exact h
theorem EAt.wtk {T : TypeId} {w : World} {base s m sc o ck : Nat} {e : Int} {rd : Nat} {cl en : Bool} {st : List Pt} {l : List Ev} [Fo] (h : EAt T w base s m sc o ck e rd cl en st l) : ∃ g, Wt w base s sc o ck m g T e rd cl en (l.drop (Fo.tk.getD 0)) ∧ g < w.heap.size ∧ ¬ Fo.F g ∧ o < w.heap.size ∧ ¬ Fo.F o ∧ ∃ cs t fr, w.heap[g]? = some (.cells cs t fr) ∧ (t = 38 ∨ t = 51) := by
  obtain ⟨⟨lv, hB, hR, hnf⟩, _, hbo, hno⟩ := h.out
  rcases hR.we with ⟨hv, h0⟩ | ⟨g, d, cap, cur, hv, hg, hh, hnc, hm, hs, hj⟩
  · exact ⟨s, ⟨h.blk, ⟨lv, hB, .inl ⟨h0, hv⟩⟩, h.bs, hbo, h.bs⟩, h.blk.lt, h.ns, hB.lt, hno, _, _, _, h.blk, .inr rfl⟩
  · exact ⟨g, ⟨h.blk, ⟨lv, hB, .inr ⟨d, cap, cur, hv, hnc, hm, hh, hs, hj⟩⟩, h.bs, hbo, hg⟩, (Array.getElem?_eq_some_iff.1 hh).1, hnf g (by rw [hv]; rfl), hB.lt, hno, _, _, _, hh, .inl rfl⟩
theorem EAt.wt {T : TypeId} {w : World} {base s m sc o ck : Nat} {e : Int} {rd : Nat} {cl en : Bool} {st : List Pt} {l : List Ev} [Fo] (h : EAt T w base s m sc o ck e rd cl en st l) (htk : Fo.tk = none) : ∃ g, Wt w base s sc o ck m g T e rd cl en l ∧ g < w.heap.size ∧ ¬ Fo.F g ∧ o < w.heap.size ∧ ¬ Fo.F o := by
  obtain ⟨g, h1, h2, h3, h4, h5, _⟩ := h.wtk
  rw [htk] at h1
  exact ⟨g, h1, h2, h3, h4, h5⟩
def zeroEv : Value := .agg #[.int .i64 0, .string ⟨#[]⟩, .string ⟨#[]⟩]
theorem evcs_cons (x : Ev) (l : List Ev) : evcs (x :: l) = [.int .i64 x.k, .string x.t, .string x.v] ++ evcs l := by simp [evcs, evc]

theorem cells_two (W : World) (x : Ev) : ((W.alloc (.cells #[.int .i64 x.k, .string x.t, .string x.v] 38)).alloc (.cells #[.int .i64 x.k, .string x.t, .string x.v] 38)).cell? ⟨W.heap.size, 0, none⟩ = some (.int .i64 x.k) ∧
    ((W.alloc (.cells #[.int .i64 x.k, .string x.t, .string x.v] 38)).alloc (.cells #[.int .i64 x.k, .string x.t, .string x.v] 38)).cell? ⟨W.heap.size, 1, none⟩ = some (.string x.t) ∧
    ((W.alloc (.cells #[.int .i64 x.k, .string x.t, .string x.v] 38)).alloc (.cells #[.int .i64 x.k, .string x.t, .string x.v] 38)).cell? ⟨W.heap.size, 2, none⟩ = some (.string x.v) := by
  have h := (Blk.new W 38 #[.int .i64 x.k, .string x.t, .string x.v]).alloc (.cells #[.int .i64 x.k, .string x.t, .string x.v] 38)
  exact ⟨h.cell 0, h.cell 1, h.cell 2⟩
theorem take_tail {w : World} {o ck g d cap : Nat} {cur : Array Value} {x : Ev} {l : List Ev} {lv : Value} (hB : Blk w o 47 #[.pointer (some ⟨ck, 0, none⟩), lv, .int .i64 0]) (hgo : g ≠ o) (hnc : l.length + 1 ≤ cap) (hm : cap ≤ maxLen) (hh : w.heap[g]? = some (.cells cur 38 (0, 0))) (hsz : (d + cap) * 3 ≤ cur.size) (hj : ∀ j, j < (x :: l).length * 3 → cur[d * 3 + j]? = (evcs (x :: l))[j]?)
    (lv' : Value) (hlv : (l = [] ∧ lv' = .slice (some ⟨g, d * 3, none⟩) l.length 0) ∨ lv' = .slice (some ⟨g, d * 3 + 3, none⟩) l.length (cap - 1)) (W : World)
    (hW : W = ((((w.setCell ⟨g, d * 3, none⟩ (.int .i64 0)).setCell ⟨g, d * 3 + 1, none⟩ (.string ⟨#[]⟩)).setCell ⟨g, d * 3 + 2, none⟩ (.string ⟨#[]⟩)).setCell ⟨o, 1, none⟩ lv')) (c1 c2 : Obj) :
    (∃ lv', Blk ((W.alloc c1).alloc c2) o 47 #[.pointer (some ⟨ck, 0, none⟩), lv', .int .i64 0] ∧ WRow ((W.alloc c1).alloc c2) g lv' l) ∧ Fr3 o o g w ((W.alloc c1).alloc c2) := by
  have hG : Blk w g 38 cur := hh
  have al : Below W.heap.size W ((W.alloc c1).alloc c2) := ((Below.refl _ _).alloc (Nat.le_refl _) _).alloc (by simp) _
  have hG3 := ((hG.set_ (d * 3) (.int .i64 0)).set_ (d * 3 + 1) (.string ⟨#[]⟩)).set_ (d * 3 + 2) (.string ⟨#[]⟩)
  have hB3 := ((hB.far (p := ⟨g, d * 3, none⟩) (Ne.symm hgo) (.int .i64 0)).far (p := ⟨g, d * 3 + 1, none⟩) (Ne.symm hgo) (.string ⟨#[]⟩)).far (p := ⟨g, d * 3 + 2, none⟩) (Ne.symm hgo) (.string ⟨#[]⟩)
  have hB4 := hB3.set_ 1 lv'
  have hG4 := hG3.far (p := ⟨o, 1, none⟩) hgo lv'
  rw [← hW] at hB4 hG4
  have hF : Fr3 o o g w W := by
    rw [hW]
    exact ((((Fr3.refl o o g w).set ⟨g, d * 3, none⟩ _ (.inr (.inr rfl))).set ⟨g, d * 3 + 1, none⟩ _ (.inr (.inr rfl))).set ⟨g, d * 3 + 2, none⟩ _ (.inr (.inr rfl))).set ⟨o, 1, none⟩ _ (.inl rfl)
  refine ⟨⟨lv', hB4.below al hB4.lt, WRow.frame (w := W) ?_ fun q hq => (al.block g (Array.getElem?_eq_some_iff.1 hq).1).trans hq⟩, hF.trans (Fr3.of_below al)⟩
  rcases hlv with ⟨h0, h⟩ | h
  · exact .inr ⟨d, 0, _, h, by rw [h0]; exact Nat.le_refl _, Nat.zero_le _, hG4, by simp only [Array.size_setIfInBounds]; omega, fun j hjl => by rw [h0] at hjl; simp at hjl⟩
  · refine .inr ⟨d + 1, cap - 1, _, by rw [h, Nat.succ_mul], by omega, by omega, hG4, by simp only [Array.size_setIfInBounds]; omega, fun j hjl => ?_⟩
    have := hj (3 + j) (by rw [List.length_cons]; omega)
    rw [evcs_cons, List.getElem?_append_right (by simp)] at this
    simp only [List.length_cons, List.length_nil, Nat.zero_add, Nat.add_sub_cancel_left] at this
    rw [Array.getElem?_setIfInBounds_ne (by omega), Array.getElem?_setIfInBounds_ne (by omega), Array.getElem?_setIfInBounds_ne (by omega), show (d + 1) * 3 + j = d * 3 + (3 + j) by omega]
    exact this

/-- What Next answers of events that wait. -/
def NxS (e : Int) (cl : Bool) : Int := if e ≠ 0 then 4 else if cl then 3 else 2
theorem Wt.os {w : World} {base s sc o ck m g : Nat} {T : TypeId} {e : Int} {rd : Nat} {cl en : Bool} {l : List Ev} (h : Wt w base s sc o ck m g T e rd cl en l) : s ≠ o := by
  obtain ⟨lv, hB, _⟩ := h.out
  have k := h.blk
  rintro rfl
  unfold Blk at k hB
  rw [k] at hB
  injection hB with hB
  injection hB with _ hB
  exact absurd hB (by decide)

/-- The end, once Next has said so. -/
theorem endOf_any (w : World) (s : Nat) (T : TypeId) (m sc o : Nat) (e : Int) (rd : Nat) (cl en : Bool) (h : Blk w s 51 (sCells T m sc o e rd cl en)) (o2 : w.cell? ⟨o, 2, none⟩ = some (.int .i64 0)) (hr : rd ≤ 1000000) :
    Calls Tryz.prog 165 #[.pointer (some ⟨s, 0, none⟩)] w fun f w' => f = .returned (.tuple #[.int .i64 (if en then e else 0), .int .i64 (if en then (rd : Int) else -1)]) ∧ ∃ n, w' = w.drewN n := by
  have s3 : w.cell? ⟨s, 3, none⟩ = some (.int .i64 e) := h.cell 3
  have s4 : w.cell? ⟨s, 4, none⟩ = some (.int .i64 (rd : Int)) := h.cell 4
  have s6 : w.cell? ⟨s, 6, none⟩ = some (.bool en) := h.cell 6
  have s2 : w.cell? ⟨s, 2, none⟩ = some (.pointer (some ⟨o, 0, none⟩)) := h.cell 2
  clear h
  cases en with
  | true =>
    go_enter Tryz.func165, Tryz.ntmps165
    go_wp2
    refine region_g [] (S := (fun W => W.cell? ⟨s, 3, none⟩ = some (.int .i64 e))) (by kernel_rfl) s3 (fun hH => ?_)
    refine g_take (i := 0) (v := .pointer (some ⟨s, 0, none⟩)) (by rfl) (by kernel_rfl) (by kernel_rfl) (by kernel_rfl) (by kernel_rfl) (fun _ _ _ h => (by cases h.1)) (Or.inl ⟨by rfl, fun W hS => (by go_simp)⟩) hH ?_
    simp only [Act.put, List.setIfInBounds_toArray, List.set_cons_zero, List.set_cons_succ]
    refine g_take (i := 1) (v := .pointer (some ⟨s, 0, none⟩)) (by rfl) (by kernel_rfl) (by kernel_rfl) (by kernel_rfl) (by kernel_rfl) (fun _ _ _ h => (by cases h.1)) (Or.inl ⟨by rfl, fun W hS => (by go_simp)⟩) hH ?_
    simp only [Act.put, List.setIfInBounds_toArray, List.set_cons_zero, List.set_cons_succ]
    refine g_take (i := 2) (v := .pointer (some ⟨s, 3, none⟩)) (by rfl) (by kernel_rfl) (by kernel_rfl) (by kernel_rfl) (by kernel_rfl) (fun _ _ _ h => (by cases h.1)) (Or.inl ⟨by rfl, fun W hS => (by go_simp)⟩) hH ?_
    simp only [Act.put, List.setIfInBounds_toArray, List.set_cons_zero, List.set_cons_succ]
    refine g_take (i := 3) (v := .int .i64 e) (by rfl) (by kernel_rfl) (by kernel_rfl) (by kernel_rfl) (by kernel_rfl) (fun _ _ _ h => (by cases h.1)) (Or.inl ⟨by rfl, fun W hS => (by go_simp)⟩) hH ?_
    simp only [Act.put, List.setIfInBounds_toArray, List.set_cons_zero, List.set_cons_succ]
    refine g_take (i := 4) (v := .pointer (some ⟨s, 0, none⟩)) (by rfl) (by kernel_rfl) (by kernel_rfl) (by kernel_rfl) (by kernel_rfl) (fun _ _ _ h => (by cases h.1)) (Or.inl ⟨by rfl, fun W hS => (by go_simp)⟩) hH ?_
    simp only [Act.put, List.setIfInBounds_toArray, List.set_cons_zero, List.set_cons_succ]
    refine g_one (i := 5) (by kernel_rfl) (by rfl) (fun K hK => ?_)
    go_simp
    refine (at_any w.drew s o rd s4 s2 o2 hr).mono ?_
    rintro e w4 ⟨rfl, rfl⟩
    refine hK.out _ _ (fun _ => s3) (fun _ => ?_)
    clear hK K hH
    refine g_one (i := 6) (by kernel_rfl) (by rfl) (fun K hK => ?_)
    go_simp
    refine hK.out _ _ (fun _ => s3) (fun _ => ?_)
    clear hK K
    refine g_one (i := 7) (by kernel_rfl) (by rfl) (fun K hK => ?_)
    go_simp
    refine hK.out _ _ (fun _ => s3) (fun _ => ?_)
    clear hK K
    refine g_done (by kernel_rfl) ⟨by first | rfl | trivial, ?_⟩ _
    go_wp2
    go_ret2
    exact ⟨rfl, 2, rfl⟩
  | false =>
    go_enter Tryz.func165, Tryz.ntmps165
    go_wp2
    go_ret2
    exact ⟨rfl, 0, rfl⟩
end Go.Proofs.YtalkjgijmceifaaGreatDoor

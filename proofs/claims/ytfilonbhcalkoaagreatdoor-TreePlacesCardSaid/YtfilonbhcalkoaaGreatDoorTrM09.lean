/-
  New, Step and Whole: a Scan is a block of three cells; a step turns that block alone.
  The reference's One: the character at the beginning.
  names: which bytes a name may have; Local, Space of the program.
  A text stepped through, byte by byte, has characters just if all is whole in the end. No program is read here.
  names: Space, Cut and Join of the program.
  The reference's One where the character has two bytes by its first.
-/
import Derived.Test.YtfilonbhcalkoaaGreatDoorTrM07
import Derived.Test.YtfilonbhcalkoaaGreatDoorTrM08
import Derived.Test.YtfilonbhcalkoaaGreatDoorTrM01
import Derived.Test.YtfilonbhcalkoaaGreatDoorTrM06
import Derived.Test.YtfilonbhcalkoaaGreatDoorShelf
namespace Go.Proofs.YtfilonbhcalkoaaGreatDoor
open Go.RowKit

/-- A Scan at block g: what is left, and the bounds of the next byte. -/
def ScanAt (w : World) (g : Nat) (l lo hi : Int) : Prop := Blk w g 108 #[.int .i64 l, .int .u8 lo, .int .u8 hi]

/-- What a step leaves. -/
def Stepped (w : World) (g : Nat) (l lo hi b : Int) (e : Ending) (w' : World) : Prop :=
  e = .returned (.bool (stOk l lo hi b)) ∧ w.grownBy w' (some g) ∧ (if stOk l lo hi b = true then ScanAt w' g (stL l b) (stLo l b) (stHi l b) else ScanAt w' g l lo hi)

theorem new_any (w : World) : Calls Tryz.prog 73 #[] w fun e w' => e = .returned (.pointer (some ⟨w.heap.size, 0, none⟩)) ∧ w' = w.alloc (.cells #[.int .i64 0, .int .u8 128, .int .u8 191] 108) := by
  go_enter Tryz.func73, Tryz.ntmps73
  go_wp2
  go_ret
  exact ⟨rfl, rfl⟩

theorem whole_any (w : World) (g : Nat) (l lo hi : Int) (hs : ScanAt w g l lo hi) :
    Calls Tryz.prog 76 #[.pointer (some ⟨g, 0, none⟩)] w fun e w' => e = .returned (.bool (decide (l = 0))) ∧ w = w' := by
  have hc : w.cell? ⟨g, 0, none⟩ = some (.int .i64 l) := hs.cell 0
  go_enter Tryz.func76, Tryz.ntmps76
  go_wp2
  go_ret
  refine ⟨ret_bool ?_, rfl⟩
  rw [Bool.eq_iff_iff]; simp

theorem stepped_no {w : World} {g : Nat} {l lo hi b : Int} {o : Obj} (hs : ScanAt w g l lo hi) (hk : stOk l lo hi b = false) : Stepped w g l lo hi b (.returned (.bool false)) (w.alloc o) := by
  refine ⟨by rw [hk], only_alloc (World.grownBy.refl _ _) _, ?_⟩
  rw [hk, if_neg (by decide)]
  exact Blk.alloc hs _
theorem stepped_yes {w : World} {g : Nat} {l lo hi b : Int} {l' lo' hi' : Int} {o : Obj} (hs : ScanAt w g l lo hi) (hk : stOk l lo hi b = true) (h1 : l' = stL l b) (h2 : lo' = stLo l b) (h3 : hi' = stHi l b) :
    Stepped w g l lo hi b (.returned (.bool true)) ((((w.setCell ⟨g, 0, none⟩ (.int .i64 l')).setCell ⟨g, 1, none⟩ (.int .u8 lo')).setCell ⟨g, 2, none⟩ (.int .u8 hi')).alloc o) := by
  subst h1 h2 h3
  have g1 := only_setCell (p := ⟨g, 0, none⟩) (World.grownBy.refl w (some g)) (.inl rfl) (.int .i64 (stL l b))
  have g2 := only_setCell (p := ⟨g, 1, none⟩) g1 (.inl rfl) (.int .u8 (stLo l b))
  have g3 := only_setCell (p := ⟨g, 2, none⟩) g2 (.inl rfl) (.int .u8 (stHi l b))
  have b1 := Blk.set_ hs 0 (.int .i64 (stL l b))
  have b2 := Blk.set_ b1 1 (.int .u8 (stLo l b))
  have b3 := Blk.set_ b2 2 (.int .u8 (stHi l b))
  refine ⟨by rw [hk], only_alloc g3 _, ?_⟩
  rw [hk, if_pos rfl]
  exact Blk.alloc b3 o
set_option maxHeartbeats 400000 in
theorem step_tail (w : World) (g : Nat) (l lo hi b : Int) (hs : ScanAt w g l lo hi) (hl : 0 < l) (hl3 : l ≤ 3) :
    Calls Tryz.prog 75 #[.pointer (some ⟨g, 0, none⟩), .int .u8 b] w (Stepped w g l lo hi b) := by
  have c0 : w.cell? ⟨g, 0, none⟩ = some (.int .i64 l) := hs.cell 0
  have c1 : w.cell? ⟨g, 1, none⟩ = some (.int .u8 lo) := hs.cell 1
  have c2 : w.cell? ⟨g, 2, none⟩ = some (.int .u8 hi) := hs.cell 2
  have f0 := hs.frozen 0
  have f1 := hs.frozen 1
  have f2 := hs.frozen 2
  have hlt := hs.lt
  go_enter Tryz.func75, Tryz.ntmps75
  go_wp2
  refine wp_scope_fwd 2 ?_
  generalize hQ : Exit.fwd _ _ _ 2 = Q2
  go_wp2
  go_step3
  show Q2 _ _ _
  rw [← hQ]
  refine Exit.fwd_goto 1 _ _ rfl ?_
  generalize hQ1 : Exit.fwd _ _ _ 1 = Q1
  go_wp2
  · rw [← hQ1, Exit.fwd_ret]
    go_ret
    have hk : stOk l lo hi b = false := by unfold stOk; rw [if_pos hl]; simp; omega
    exact stepped_no hs hk
  · go_step3
    show Q1 _ _ _
    rw [← hQ1]
    refine Exit.fwd_goto 0 _ _ rfl ?_
    generalize hQ0 : Exit.fwd _ _ _ 0 = Q0
    go_wp2
    rw [← hQ0, Exit.fwd_ret]
    go_ret
    have hk : stOk l lo hi b = true := by unfold stOk; rw [if_pos hl]; simp; omega
    exact stepped_yes hs hk (by unfold stL; rw [if_pos hl]) (by unfold stLo; rw [if_pos hl]) (by unfold stHi; rw [if_pos hl])
  · rw [← hQ1, Exit.fwd_ret]
    go_ret
    have hk : stOk l lo hi b = false := by unfold stOk; rw [if_pos hl]; simp; omega
    exact stepped_no hs hk

set_option maxHeartbeats 1000000 in
theorem step_lead (w : World) (g : Nat) (lo hi b : Int) (hs : ScanAt w g 0 lo hi) (hb0 : 0 ≤ b) (hb1 : b ≤ 255) :
    Calls Tryz.prog 75 #[.pointer (some ⟨g, 0, none⟩), .int .u8 b] w (Stepped w g 0 lo hi b) := by
  have c0 : w.cell? ⟨g, 0, none⟩ = some (.int .i64 0) := hs.cell 0
  have c1 : w.cell? ⟨g, 1, none⟩ = some (.int .u8 lo) := hs.cell 1
  have c2 : w.cell? ⟨g, 2, none⟩ = some (.int .u8 hi) := hs.cell 2
  have f0 := hs.frozen 0
  have f1 := hs.frozen 1
  have f2 := hs.frozen 2
  have hlt := hs.lt
  go_enter Tryz.func75, Tryz.ntmps75
  go_wp2
  refine wp_scope_fwd 2 ?_
  generalize hQ : Exit.fwd _ _ _ 2 = Q2
  go_wp2
  all_goals first
    | (rw [← hQ, Exit.fwd_ret]; go_ret; exact stepped_no hs (by simp [stOk]; omega))
    | skip
  all_goals
    go_step3
    show Q2 _ _ _
    rw [← hQ]
    refine Exit.fwd_goto 1 _ _ rfl ?_
    generalize hQ1 : Exit.fwd _ _ _ 1 = Q1
  all_goals go_wp2
  all_goals try (go_step3; go_wp2)
  all_goals try (go_step3; go_wp2)
  all_goals try (go_step3; go_wp2)
  all_goals (rw [← hQ1, Exit.fwd_ret]; go_ret)
  all_goals refine stepped_yes hs (by simp [stOk]; omega) ?_ ?_ ?_
  all_goals simp only [stL, stLo, stHi]
  all_goals clear hQ1 c0 c1 c2 f0 f1 f2 hs
  all_goals try simp only [beq_iff_eq, beq_eq_false_iff_ne] at *
  all_goals rw [if_neg (by omega)]
  all_goals repeat (first | rw [if_pos (by omega)] | rw [if_neg (by omega)])

theorem step_any (w : World) (g : Nat) (l lo hi b : Int) (hs : ScanAt w g l lo hi) (hl0 : 0 ≤ l) (hl3 : l ≤ 3) (hb0 : 0 ≤ b) (hb1 : b ≤ 255) :
    Calls Tryz.prog 75 #[.pointer (some ⟨g, 0, none⟩), .int .u8 b] w (Stepped w g l lo hi b) := by
  rcases Int.lt_or_eq_of_le hl0 with h | h
  · exact step_tail w g l lo hi b hs h hl3
  · subst h
    exact step_lead w g lo hi b hs hb0 hb1
end Go.Proofs.YtfilonbhcalkoaaGreatDoor
namespace Go.Proofs.YtfilonbhcalkoaaGreatDoor
open Go.RowKit
set_option maxRecDepth 100000

theorem bytes_cons (s : ByteArray) (h : 0 < s.size) : s.data.toList = s[0] :: s.data.toList.drop 1 := by
  have : s.data.toList = s.data.toList.drop 0 := rfl
  rw [this, List.drop_eq_getElem_cons (by simpa using h)]
  rfl
theorem bytes_take (s : ByteArray) (k : Nat) (h1 : 1 ≤ k) (h : k < s.size) : (s.data.toList.drop 1).take k = (s.data.toList.drop 1).take (k - 1) ++ [s[k]] := by
  obtain ⟨j, rfl⟩ : ∃ j, k = j + 1 := ⟨k - 1, by omega⟩
  simp only [Nat.add_sub_cancel]
  rw [List.take_succ_eq_append_getElem (by simp; omega)]
  congr 1
  simp [ByteArray.getElem_eq_getElem_data]

def OneEnd (l : List UInt8) (e : Ending) : Prop := e = .returned (.tuple #[.int .i64 (oneL l).1, .int .i64 (oneL l).2])
theorem oneEnd_of {l : List UInt8} {r n : Int} (h : oneL l = (r, n)) : OneEnd l (.returned (.tuple #[.int .i64 r, .int .i64 n])) := by unfold OneEnd; rw [h]

theorem one_0 (s : ByteArray) (w : World) (h : s.size = 0) :
    Calls Tryz.prog 91 #[.string s] w fun e w' => OneEnd s.data.toList e ∧ w = w' := by
  have hl : s.data.toList = [] := List.eq_nil_of_length_eq_zero (by simpa using h)
  have hb : ((s.size : Int) == 0) = true := by simp [h]
  rw [hl]
  clear h hl
  go_enter Tryz.func91, Tryz.ntmps91
  go_wp2
  go_ret2
  exact ⟨oneEnd_of rfl, rfl⟩

theorem one_1 (s : ByteArray) (w : World) (hm : s.size ≤ 140737488355328) (h : 0 < s.size) (hc : (s[0].toNat : Int) < 128) :
    Calls Tryz.prog 91 #[.string s] w fun e w' => OneEnd s.data.toList e ∧ w = w' := by
  have hb : ((s.size : Int) == 0) = false := beq_eq_false_iff_ne.2 (by omega)
  have hone : oneL s.data.toList = ((s[0].toNat : Int), 1) := by rw [bytes_cons s h, oneL, if_pos hc]
  have HO := Lib.hid hone
  clear hone
  go_enter Tryz.func91, Tryz.ntmps91
  go_wp2
  go_ret2
  exact ⟨oneEnd_of HO.out, rfl⟩

theorem one_bad (s : ByteArray) (w : World) (hm : s.size ≤ 140737488355328) (h : 0 < s.size) (hc : 128 ≤ (s[0].toNat : Int)) (hn : (s[0].toNat : Int) < 192 ∨ 248 ≤ (s[0].toNat : Int)) :
    Calls Tryz.prog 91 #[.string s] w fun e w' => OneEnd s.data.toList e ∧ w = w' := by
  have hb : ((s.size : Int) == 0) = false := beq_eq_false_iff_ne.2 (by omega)
  have hone : oneL s.data.toList = (0, 0) := by
    have : leadN (s[0].toNat : Int) = 0 := by unfold leadN; rw [if_neg (by omega), if_neg (by omega), if_neg (by omega)]
    rw [bytes_cons s h, oneL, if_neg (by omega), if_pos (.inl this)]
  have HO := Lib.hid hone
  clear hone
  have hle := byte_le s[0]
  rcases hn with hn | hn
  all_goals
    go_enter Tryz.func91, Tryz.ntmps91
    go_wp2
    go_ret2
    exact ⟨oneEnd_of HO.out, rfl⟩

theorem one_short (s : ByteArray) (w : World) (hm : s.size ≤ 140737488355328) (h : 0 < s.size) (hc : 192 ≤ (s[0].toNat : Int)) (hn : (s[0].toNat : Int) < 248) (hs : (s.size : Int) < leadN s[0].toNat) :
    Calls Tryz.prog 91 #[.string s] w fun e w' => OneEnd s.data.toList e ∧ w = w' := by
  have hb : ((s.size : Int) == 0) = false := beq_eq_false_iff_ne.2 (by omega)
  have hone : oneL s.data.toList = (0, 0) := by
    have hz : ((s.data.toList.drop 1).length : Int) + 1 = s.size := by simp; omega
    rw [bytes_cons s h, oneL, if_neg (by omega), if_pos (.inr (by omega))]
  have HO := Lib.hid hone
  clear hone
  rcases (show ((s[0].toNat : Int) < 224 ∧ (s.size : Int) < 2) ∨ (224 ≤ (s[0].toNat : Int) ∧ (s[0].toNat : Int) < 240 ∧ (s.size : Int) < 3) ∨ (240 ≤ (s[0].toNat : Int) ∧ (s.size : Int) < 4) by
    unfold leadN at hs
    split at hs
    · omega
    · split at hs
      · omega
      · split at hs <;> omega) with ⟨g1, g2⟩ | ⟨g1, g2, g3⟩ | ⟨g1, g2⟩
  all_goals
    clear hs
    go_enter Tryz.func91, Tryz.ntmps91
    go_wp2
    go_ret2
    exact ⟨oneEnd_of HO.out, rfl⟩

end Go.Proofs.YtfilonbhcalkoaaGreatDoor
namespace Go.Proofs.YtfilonbhcalkoaaGreatDoor
open Go.RowKit Go.Maps
set_option maxRecDepth 100000

theorem begins_any (b : Int) (w : World) :
    Calls Tryz.prog 77 #[.int .u8 b] w fun e w' => e = .returned (.bool (firstB b)) ∧ w = w' := by
  go_enter Tryz.func77, Tryz.ntmps77
  go_wp2
  all_goals go_ret
  all_goals refine ⟨ret_bool ?_, rfl⟩
  all_goals simp only [firstB]
  all_goals (rw [Bool.eq_iff_iff]; simp; try omega)

theorem later_of_first {b : Int} (h : firstB b = true) : laterB b = true := by
  unfold firstB at h
  unfold laterB
  rw [decide_eq_true_iff] at h ⊢
  omega
theorem later_eq (b : Int) : laterB b = (firstB b || decide ((48 ≤ b ∧ b ≤ 57) ∨ b = 45 ∨ b = 46)) := by
  unfold firstB laterB
  rw [Bool.eq_iff_iff]
  simp
  omega

theorem inloc_any (b : Int) (w : World) :
    Calls Tryz.prog 78 #[.int .u8 b] w fun e w' => e = .returned (.bool (laterB b)) ∧ w = w' := by
  cases hf : firstB b
  all_goals have HF := Lib.hid hf
  all_goals clear hf
  all_goals
    go_enter Tryz.func78, Tryz.ntmps78
    go_wp2_with (go_at_call 77; refine (begins_any _ _).mono ?_; rintro e w' ⟨rfl, rfl⟩; rw [HF.out])
  all_goals go_ret
  all_goals refine ⟨ret_bool ?_, rfl⟩
  all_goals rw [later_eq]
  all_goals first
    | (rw [HF.out]; simp only [Bool.true_or]; done)
    | (rw [HF.out, Bool.eq_iff_iff]; simp; try omega)
    | decide

theorem inspace_any (b : Int) (w : World) :
    Calls Tryz.prog 74 #[.int .u8 b] w fun e w' => e = .returned (.bool (!badB b)) ∧ w = w' := by
  go_enter Tryz.func74, Tryz.ntmps74
  go_wp2
  all_goals try (go_step3; go_wp2)
  all_goals go_ret
  all_goals refine ⟨ret_bool ?_, rfl⟩
  all_goals simp only [beq_iff_eq, beq_eq_false_iff_ne] at *
  all_goals (rw [Bool.eq_iff_iff]; simp [badB]; try omega)

theorem local_le {l : List UInt8} (h : localL l = true) : 1 ≤ l.length ∧ l.length ≤ 16 ∧ l.all (fun d => laterB (d.toNat : Int)) = true := by
  have h1 := local_len h
  cases l with
  | nil => cases h
  | cons c t =>
    simp only [localL, Bool.and_eq_true, decide_eq_true_eq] at h
    refine ⟨h1.1, h1.2, ?_⟩
    rw [List.all_cons, later_of_first h.1.2, h.2]
    rfl
theorem local_eq (s : ByteArray) (h : 0 < s.size) (h16 : s.size ≤ 16) : localL s.data.toList = (firstB (s[0].toNat : Int) && s.data.toList.all (fun d => laterB (d.toNat : Int))) := by
  have hl : s.data.toList.length = s.size := by simp
  have he := bytes_cons s h
  rw [he] at hl ⊢
  generalize List.drop 1 s.data.toList = t at *
  simp only [List.length_cons] at hl
  simp only [localL, List.all_cons]
  rw [decide_eq_true (show t.length < 16 by omega), Bool.true_and]
  cases hf : firstB (s[0].toNat : Int)
  · rfl
  · rw [later_of_first hf, Bool.true_and, Bool.true_and]
theorem local_long (s : ByteArray) (h : s.size = 0 ∨ 16 < s.size) : localL s.data.toList = false := by
  have hl : s.data.toList.length = s.size := by simp
  cases hb : localL s.data.toList with
  | false => rfl
  | true => have := local_len hb; omega
theorem all_snoc {p : UInt8 → Bool} {s : ByteArray} {k : Nat} (h : k < s.size) (ha : (s.data.toList.take k).all p = true) : (s.data.toList.take (k + 1)).all p = p s[k] := by
  rw [take_snoc s k h, List.all_append, ha]
  simp
theorem all_break {p : UInt8 → Bool} {s : ByteArray} {k : Nat} (h : k < s.size) (hp : p s[k] = false) : s.data.toList.all p = false := by
  cases ha : s.data.toList.all p with
  | false => rfl
  | true =>
    rw [List.all_eq_true] at ha
    have := ha s[k] (by simp [ByteArray.getElem_eq_getElem_data])
    rw [hp] at this
    cases this

theorem str_ne {s : ByteArray} (h : ¬ s.size = 0) : s.toList.isEmpty = false := by
  rw [Lib.toList_data]
  cases hl : s.data.toList with
  | nil => have : s.data.toList.length = s.size := by simp
           rw [hl] at this
           simp at this
           omega
  | cons c t => rfl
theorem str_ne2 {s : ByteArray} (h : ¬ s.size = 0) : ¬ s.toList = [] := by
  have := str_ne h
  intro hc
  rw [hc] at this
  cases this

set_option maxHeartbeats 1000000 in
theorem local_any (s : ByteArray) (w : World) (hm : s.size ≤ 140737488355328) :
    Calls Tryz.prog 65 #[.string s] w fun e w' => e = .returned (.bool (localL s.data.toList)) ∧ w = w' := by
  by_cases h0 : s.size = 0
  · rw [local_long s (.inl h0)]
    have hs : s = ⟨#[]⟩ := ByteArray.ext (Array.eq_empty_of_size_eq_zero h0)
    subst hs
    go_enter Tryz.func65, Tryz.ntmps65
    go_wp2
    go_ret
    exact ⟨rfl, rfl⟩
  have hn1 := str_ne h0
  have hn2 := str_ne2 h0
  by_cases h16 : 16 < s.size
  · rw [local_long s (.inr h16)]
    go_enter Tryz.func65, Tryz.ntmps65
    go_wp2
    go_ret
    exact ⟨rfl, rfl⟩
  have hp : 0 < s.size := by omega
  have hR := local_eq s hp (by omega)
  generalize hgl : localL s.data.toList = R at *
  have HR := Lib.hid hR
  clear hR hgl h0
  rcases Bool.eq_false_or_eq_true (firstB (s[0].toNat : Int)) with hf | hf
  case' inl => have HF := Lib.hid hf
  case' inr => have HF := Lib.hid hf
  all_goals clear hf
  case inr =>
    go_enter Tryz.func65, Tryz.ntmps65
    go_wp2_with (go_at_call 77; refine (begins_any _ _).mono ?_; rintro e w' ⟨rfl, rfl⟩; rw [HF.out])
    go_ret
    refine ⟨ret_bool ?_, rfl⟩
    rw [HR.out, HF.out]
    rfl
  case inl =>
    go_enter Tryz.func65, Tryz.ntmps65
    go_wp2_with (go_at_call 77; refine (begins_any _ _).mono ?_; rintro e w' ⟨rfl, rfl⟩; rw [HF.out])
    go_loop [19] (fun i => ∃ k : Nat, k ≤ s.size ∧ i = .int .i64 k ∧ Hid ((s.data.toList.take k).all (fun d => laterB (d.toNat : Int)) = true)) (fun i => s.size - (intOf i).toNat)
    case atStart => exact ⟨0, Nat.zero_le _, rfl, Lib.hid rfl⟩
    case round =>
      obtain ⟨k, hk, rfl, HK⟩ := hrel
      by_cases hlt : k < s.size
      · rcases Bool.eq_false_or_eq_true (laterB (s[k].toNat : Int)) with hl | hl
        case' inl => have HL := Lib.hid hl
        case' inr => have HL := Lib.hid hl
        all_goals clear hl
        case inr =>
          go_wp2_with (go_at_call 78; refine (inloc_any _ _).mono ?_; rintro e w' ⟨rfl, rfl⟩; rw [HL.out])
          go_ret
          refine ⟨ret_bool ?_, rfl⟩
          rw [HR.out, all_break hlt HL.out, Bool.and_false]
        case inl =>
          go_wp2_with (go_at_call 78; refine (inloc_any _ _).mono ?_; rintro e w' ⟨rfl, rfl⟩; rw [HL.out])
          go_round
          case rel => exact ⟨k + 1, by omega, by go_num, Lib.hid ((all_snoc hlt HK.out).trans HL.out)⟩
          case measure => simp [intOf]; omega
      · go_wp2
        go_ret
        refine ⟨ret_bool ?_, rfl⟩
        have hK := HK.out
        rw [List.take_of_length_le (by simp; omega)] at hK
        rw [HR.out, HF.out, hK]
        rfl
end Go.Proofs.YtfilonbhcalkoaaGreatDoor
namespace Go.Proofs.YtfilonbhcalkoaaGreatDoor
set_option maxRecDepth 8000

theorem stL_range {l b : Int} (h0 : 0 ≤ l) (h3 : l ≤ 3) : 0 ≤ stL l b ∧ stL l b ≤ 3 := by
  unfold stL; repeat' split
  all_goals omega
/-- All were taken up to here, and the machine stands so. -/
def UtfAt (L : List UInt8) (k : Nat) (l lo hi : Int) : Prop := ∃ num out, runesL L = runesGo ⟨l, lo, hi, num, out⟩ (L.drop k)
theorem utf_step {L : List UInt8} {k : Nat} {b : UInt8} {l lo hi : Int} (hd : L.drop k = b :: L.drop (k + 1)) (h : UtfAt L k l lo hi) (hok : stOk l lo hi b.toNat = true) : UtfAt L (k + 1) (stL l b.toNat) (stLo l b.toNat) (stHi l b.toNat) := by
  obtain ⟨num, out, h⟩ := h
  rw [hd] at h
  simp only [runesGo, rnStep, hok, if_true] at h
  split at h
  · rename_i heq
    split at heq <;> cases heq
  · rename_i s' heq
    split at heq
    · cases heq; exact ⟨_, _, h⟩
    · cases heq; exact ⟨_, _, h⟩
theorem utf_bad {L : List UInt8} {k : Nat} {b : UInt8} {l lo hi : Int} (hd : L.drop k = b :: L.drop (k + 1)) (h : UtfAt L k l lo hi) (hok : stOk l lo hi b.toNat = false) : (runesL L).isSome = false := by
  obtain ⟨num, out, h⟩ := h
  rw [hd] at h
  simp only [runesGo, rnStep, hok] at h
  simp at h
  rw [h]; rfl
theorem utf_end {L : List UInt8} {l lo hi : Int} {k : Nat} (hk : L.length ≤ k) (h : UtfAt L k l lo hi) : (runesL L).isSome = decide (l = 0) := by
  obtain ⟨num, out, h⟩ := h
  rw [h, List.drop_eq_nil_of_le hk]
  simp only [runesGo]
  split <;> simp_all

theorem drop_cons (s : ByteArray) (k : Nat) (h : k < s.size) : s.data.toList.drop k = s[k] :: s.data.toList.drop (k + 1) := by
  rw [List.drop_eq_getElem_cons (by simpa using h)]; rfl

theorem extract_all (s : ByteArray) (a : Nat) : (s.extract a s.size).data.toList = s.data.toList.drop a := by
  rw [show (s.extract a s.size).data.toList = (s.data.toList.drop a).take (s.size - a) from by simp, List.take_of_length_le]
  simp
end Go.Proofs.YtfilonbhcalkoaaGreatDoor
namespace Go.Proofs.YtfilonbhcalkoaaGreatDoor
open Go.RowKit Go.Maps
set_option maxRecDepth 100000

theorem space_long (s : ByteArray) (h : s.size = 0 ∨ 48 < s.size) : spaceL s.data.toList = false := by
  have hl : s.data.toList.length = s.size := by simp
  cases hb : spaceL s.data.toList with
  | false => rfl
  | true => have := space_len hb; omega
theorem space_eq (s : ByteArray) (h : 0 < s.size) (h48 : s.size ≤ 48) : spaceL s.data.toList = ((runesL s.data.toList).isSome && s.data.toList.all (fun d => !badB (d.toNat : Int))) := by
  have hl : s.data.toList.length = s.size := by simp
  unfold spaceL
  rw [decide_eq_true (show 1 ≤ s.data.toList.length ∧ s.data.toList.length ≤ 48 by omega), Bool.and_true]

set_option maxHeartbeats 1000000 in
theorem space_any (s : ByteArray) (w : World) (hm : s.size ≤ 140737488355328) :
    Calls Tryz.prog 64 #[.string s] w fun e w' => e = .returned (.bool (spaceL s.data.toList)) ∧ Below w.heap.size w w' := by
  by_cases h0 : s.size = 0
  · rw [space_long s (.inl h0)]
    have hs : s = ⟨#[]⟩ := ByteArray.ext (Array.eq_empty_of_size_eq_zero h0)
    subst hs
    go_enter Tryz.func64, Tryz.ntmps64
    go_wp2
    go_ret
    exact ⟨rfl, Below.refl _ _⟩
  have hn1 := str_ne h0
  have hn2 := str_ne2 h0
  by_cases h48 : 48 < s.size
  · rw [space_long s (.inr h48)]
    go_enter Tryz.func64, Tryz.ntmps64
    go_wp2
    go_ret
    exact ⟨rfl, Below.refl _ _⟩
  have hR := space_eq s (by omega) (by omega)
  generalize hgl : spaceL s.data.toList = R at *
  have HR := Lib.hid hR
  clear hR hgl h0
  go_enter Tryz.func64, Tryz.ntmps64
  go_wp2_with (first
    | (go_at_call 73; refine (new_any _).mono ?_; rintro e w' ⟨rfl, rfl⟩))
  go_loopw [15] (fun i wr => ∃ (k : Nat) (l lo hi : Int), k ≤ s.size ∧ i = .int .i64 k ∧ ScanAt wr w.heap.size l lo hi ∧ 0 ≤ l ∧ l ≤ 3 ∧ Below w.heap.size w wr ∧ Hid (UtfAt s.data.toList k l lo hi) ∧ Hid ((s.data.toList.take k).all (fun d => !badB (d.toNat : Int)) = true)) (fun i _ => s.size - (intOf i).toNat)
  case atStart => exact ⟨0, 0, 128, 191, Nat.zero_le _, rfl, Blk.new w _ _, by decide, by decide, (Below.refl _ _).alloc (Nat.le_refl _) _, Lib.hid ⟨0, [], rfl⟩, Lib.hid rfl⟩
  case round =>
    obtain ⟨k, l, lo, hi, hk, rfl, hsc, h0, h3, hbel, HW, HK⟩ := hrel
    by_cases hlt : k < s.size
    · have hle := byte_le s[k]
      have HD := Lib.hid (drop_cons s k hlt)
      have hr := stL_range (b := s[k].toNat) h0 h3
      obtain ⟨hr0, hr3⟩ := hr
      rcases Bool.eq_false_or_eq_true (badB (s[k].toNat : Int)) with hb | hb
      case' inl => have HB := Lib.hid hb
      case' inr => have HB := Lib.hid hb
      all_goals clear hb
      case inl =>
        have HX := Lib.hid (all_break (p := fun d => !badB (d.toNat : Int)) hlt (by rw [HB.out]; rfl))
        go_wp2_with (first
          | (go_at_call 74; refine (inspace_any _ _).mono ?_; rintro e w' ⟨rfl, rfl⟩; rw [HB.out]))
        go_ret
        refine ⟨ret_bool ?_, hbel⟩
        rw [HR.out, HX.out, Bool.and_false]
      case inr =>
        have HX := Lib.hid (all_snoc (p := fun d => !badB (d.toNat : Int)) hlt HK.out)
        go_wp2_with (first
          | (go_at_call 74; refine (inspace_any _ _).mono ?_; rintro e w' ⟨rfl, rfl⟩; rw [HB.out]))
        refine (step_any _ _ _ _ _ _ hsc h0 h3 (by omega) hle).mono ?_
        rintro e w1 ⟨rfl, hg1, hs1⟩
        have hbel1 : Below w.heap.size w w1 := below_only hbel hg1 hbel.size (Nat.le_refl _)
        clear hg1 hsc hbel
        generalize hO : stOk l lo hi s[k].toNat = O at *
        have HO := Lib.hid hO
        clear hO
        cases O
        · have HE := Lib.hid (utf_bad HD.out HW.out HO.out)
          go_wp2
          go_ret
          refine ⟨ret_bool ?_, hbel1⟩
          rw [HR.out, HE.out, Bool.false_and]
        · rw [if_pos rfl] at hs1
          go_wp2
          go_roundw
          case rel => exact ⟨k + 1, _, _, _, by omega, by go_num, hs1, hr0, hr3, hbel1, Lib.hid (utf_step HD.out HW.out HO.out), Lib.hid (HX.out.trans (by rw [HB.out]; rfl))⟩
          case measure => simp [intOf]; omega
    · have hend := utf_end (by simp; omega) HW.out
      have HE := Lib.hid hend
      clear hend
      go_wp2_with (first
        | (go_at_call 76; refine (whole_any _ _ _ _ _ hsc).mono ?_; rintro e w' ⟨rfl, rfl⟩))
      go_ret
      refine ⟨ret_bool ?_, hbel⟩
      have hK := HK.out
      rw [List.take_of_length_le (by simp; omega)] at hK
      rw [HR.out, HE.out, hK, Bool.and_true]

theorem clone_any (s : ByteArray) (w : World) (hm : s.size ≤ 140737488355328) :
    Calls Tryz.prog 26 #[.string s] w fun e w' => e = .returned (.string s) ∧ Below w.heap.size w w' := by
  go_enter Tryz.func26, Tryz.ntmps26
  go_wp2_with (go_at_call 40; refine (Tryz.stringslite_Clone s w (by omega)).mono ?_; rintro e w' ⟨rfl, hb⟩)
  go_ret
  exact ⟨rfl, hb⟩
end Go.Proofs.YtfilonbhcalkoaaGreatDoor
namespace Go.Proofs.YtfilonbhcalkoaaGreatDoor
open Go.RowKit
set_option maxRecDepth 100000

set_option maxHeartbeats 1000000 in
theorem one_2b (s : ByteArray) (w : World) (hm : s.size ≤ 140737488355328) (h : 0 < s.size) (a : 192 ≤ (s[0].toNat : Int)) (b : (s[0].toNat : Int) < 224) (hs : 2 ≤ s.size)
    (hone : oneL s.data.toList = oneFin 2 (tails ((s[0].toNat : Int) - 192) ((s.data.toList.drop 1).take 1))) :
    Calls Tryz.prog 91 #[.string s] w fun e w' => OneEnd s.data.toList e ∧ w = w' := by
  have hb : ((s.size : Int) == 0) = false := beq_eq_false_iff_ne.2 (by omega)
  have HO := Lib.hid hone
  clear hone
  go_enter Tryz.func91, Tryz.ntmps91
  go_wp2
  generalize hV : (s[0].toNat : Int) - 192 = V at *
  have hV0 : 0 ≤ V ∧ V < 64 := by omega
  have HV := Lib.hid hV
  clear hV
  go_loop [6, 7] (fun u i => ∃ (k : Nat) (x : Int), 1 ≤ k ∧ k ≤ 2 ∧ i = .int .i64 k ∧ u = .int .i64 x ∧ 0 ≤ x ∧ x < ((64 ^ k : Nat) : Int) ∧ Hid (tails V ((s.data.toList.drop 1).take (k - 1)) = some x)) (fun _ i => 2 - (intOf i).toNat)
  case atStart => exact ⟨1, V, by omega, by omega, rfl, rfl, hV0.1, hV0.2, Lib.hid rfl⟩
  case round =>
    obtain ⟨k, x, hk1, hk, rfl, rfl, hx0, hx1, HT⟩ := hrel
    by_cases hlt : k < 2
    · have hbt := bytes_take s k hk1 (by omega)
      have hsn := tails_snoc V ((s.data.toList.drop 1).take (k - 1)) s[k]
      rw [← hbt, HT.out] at hsn
      simp only [Option.bind_some] at hsn
      have HS := Lib.hid hsn
      clear hsn hbt
      have hpow : ((64 ^ (k + 1) : Nat) : Int) = 64 * ((64 ^ k : Nat) : Int) := by rw [Nat.pow_succ]; omega
      have hpw := Lib.hid hpow
      clear hpow
      have hp4 : ((64 ^ k : Nat) : Int) ≤ 262144 := by
        have : 64 ^ k ≤ 64 ^ 3 := Nat.pow_le_pow_right (by decide) (by omega)
        omega
      have hle := byte_le s[k]
      by_cases hd : (s[k].toNat : Int) < 128
      · go_wp2
        go_ret2
        have hnone : tails V ((s.data.toList.drop 1).take 1) = none := tails_none_take _ _ k _ (by omega) (by rw [HS.out, if_pos (.inl hd)])
        refine ⟨oneEnd_of ?_, rfl⟩
        rw [HO.out, hnone]; rfl
      by_cases hd2 : (s[k].toNat : Int) < 192
      · have hx2 : x ≤ 262143 := by omega
        go_wp2
        go_round
        case rel => exact ⟨k + 1, 64 * x + (s[k].toNat : Int) - 128, by omega, by omega, by go_num, by first | rfl | go_num, by omega, by rw [hpw.out]; omega, Lib.hid (by rw [Nat.add_sub_cancel, HS.out, if_neg (by omega)])⟩
        case measure => simp [intOf]; omega
      · have hd3 : 192 ≤ (s[k].toNat : Int) := by omega
        go_wp2
        go_ret2
        have hnone : tails V ((s.data.toList.drop 1).take 1) = none := tails_none_take _ _ k _ (by omega) (by rw [HS.out, if_pos (.inr hd3)])
        refine ⟨oneEnd_of ?_, rfl⟩
        rw [HO.out, hnone]; rfl
    · have hkN : k = 2 := by omega
      subst hkN
      have hfin : oneL s.data.toList = oneFin 2 (some x) := by rw [HO.out]; exact congrArg _ HT.out
      clear HO HT
      have HF := Lib.hid hfin
      clear hfin
      by_cases hmy : mayB x = true
      · have HM := Lib.hid hmy
        clear hmy
        by_cases hlg : longI x = 2
        · have hne : (longI x != 2) = false := by simp [hlg]
          have HL := Lib.hid hlg
          clear hlg
          go_wp2_with (first
            | (go_at_call 105; refine (may_any _ _).mono ?_; rintro e w' ⟨rfl, rfl⟩; rw [HM.out])
            | (go_at_call 106; refine (long_any _ _).mono ?_; rintro e w' ⟨rfl, rfl⟩))
          go_ret2
          exact ⟨oneEnd_of (by rw [HF.out]; exact if_pos ⟨HM.out, HL.out⟩), rfl⟩
        · have hne : (longI x != 2) = true := bne_iff_ne.2 hlg
          go_wp2_with (first
            | (go_at_call 105; refine (may_any _ _).mono ?_; rintro e w' ⟨rfl, rfl⟩; rw [HM.out])
            | (go_at_call 106; refine (long_any _ _).mono ?_; rintro e w' ⟨rfl, rfl⟩))
          go_ret2
          exact ⟨oneEnd_of (by rw [HF.out]; exact if_neg (fun h => hlg h.2)), rfl⟩
      · have hmf : mayB x = false := by simpa using hmy
        have HM := Lib.hid hmf
        clear hmf
        have HM2 := Lib.hid hmy
        clear hmy
        go_wp2_with (first
          | (go_at_call 105; refine (may_any _ _).mono ?_; rintro e w' ⟨rfl, rfl⟩; rw [HM.out]))
        go_ret2
        exact ⟨oneEnd_of (by rw [HF.out]; exact if_neg (fun h => HM2.out h.1)), rfl⟩

end Go.Proofs.YtfilonbhcalkoaaGreatDoor

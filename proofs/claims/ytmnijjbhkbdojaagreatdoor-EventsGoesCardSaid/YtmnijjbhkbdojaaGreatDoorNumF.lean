/-
  num's Read and Compare: their contracts.
-/
import Derived.Test.YtmnijjbhkbdojaaGreatDoorNumE
import Derived.Deep.RegionHeld3
import Derived.IntWalk
import Derived.Stop.LaidErr
namespace Go.Proofs.YtmnijjbhkbdojaaGreatDoor.Nm
open Go.RowKit
set_option maxRecDepth 100000

def readS (l : List UInt8) : ByteArray := match readL l with | some v => ⟨(formL v).toArray⟩ | none => ⟨#[]⟩
def readC (l : List UInt8) : Int := match readL l with | some _ => 0 | none => 8
theorem readS_some {l : List UInt8} {v : Val} (h : readL l = some v) : readS l = ⟨(formL v).toArray⟩ := by unfold readS; rw [h]
theorem readC_some {l : List UInt8} {v : Val} (h : readL l = some v) : readC l = 0 := by unfold readC; rw [h]
theorem readS_none {l : List UInt8} (h : readL l = none) : readS l = ⟨#[]⟩ := by unfold readS; rw [h]
theorem readC_none {l : List UInt8} (h : readL l = none) : readC l = 8 := by unfold readC; rw [h]

set_option maxHeartbeats 400000 in
theorem read_any (s : ByteArray) (w : World) (hw : StdW w) (hs : s.size ≤ 9223372036854775807) :
    Calls Tryz.prog 40 #[.string s] w fun e w' => e = .returned (.tuple #[.string (readS s.data.toList), .int .i64 (readC s.data.toList)]) ∧ Below w.heap.size w w' := by
  cases h : readL s.data.toList with
  | none =>
    rw [readS_none h, readC_none h]
    have hp := parse_no s
    unfold zeroA at hp
    have HP := Lib.hid hp
    have H := Lib.hid h
    clear h hp
    go_enter Tryz.func40, Tryz.ntmps40
    go_wp2_with (first
      | (go_at_call 56; refine (HP.out _ hw hs H.out).mono ?_; rintro e w1 ⟨rfl, hb1⟩))
    go_ret2
    refine ⟨rfl, ?_⟩
    exact hb1.alloc hb1.size _
  | some v =>
    rw [readS_some h, readC_some h]
    have hp := parse_yes s v
    unfold decA at hp
    have HP := Lib.hid hp
    have H := Lib.hid h
    clear h hp
    go_enter Tryz.func40, Tryz.ntmps40
    go_wp2_with (first
      | (go_at_call 56; refine (HP.out _ hw hs H.out).mono ?_; rintro e w1 ⟨rfl, hb1⟩))
    go_ret2
    refine ⟨rfl, ?_⟩
    exact hb1.alloc hb1.size _

def cmpN (a b : List UInt8) : Int := match readL a, readL b with | some x, some y => cmpV x y | _, _ => 0
def cmpC (a b : List UInt8) : Int := match readL a, readL b with | some _, some _ => 0 | _, _ => 8
theorem cmpN_some {a b : List UInt8} {x y : Val} (h : readL a = some x) (h2 : readL b = some y) : cmpN a b = cmpV x y := by unfold cmpN; rw [h, h2]
theorem cmpC_some {a b : List UInt8} {x y : Val} (h : readL a = some x) (h2 : readL b = some y) : cmpC a b = 0 := by unfold cmpC; rw [h, h2]
theorem cmpN_none {a b : List UInt8} (h : readL a = none ∨ readL b = none) : cmpN a b = 0 := by
  unfold cmpN; rcases h with h | h
  · rw [h]
  · rw [h]; cases readL a <;> rfl
theorem cmpC_none {a b : List UInt8} (h : readL a = none ∨ readL b = none) : cmpC a b = 8 := by
  unfold cmpC; rcases h with h | h
  · rw [h]
  · rw [h]; cases readL a <;> rfl

/-- What parse hands back. -/
def parA (l : List UInt8) : Value := match readL l with | some v => decA v | none => zeroA
def parF (l : List UInt8) : ByteArray := readS l
def parB (l : List UInt8) : Bool := (readL l).isSome
theorem parse_any (s : ByteArray) (w : World) (hw : StdW w) (hs : s.size ≤ 9223372036854775807) :
    Calls Tryz.prog 56 #[.string s] w fun e w' => e = .returned (.tuple #[parA s.data.toList, .string (readS s.data.toList), .bool (parB s.data.toList)]) ∧ Below w.heap.size w w' := by
  unfold parA parB
  cases h : readL s.data.toList with
  | none => rw [readS_none h]; exact parse_no s w hw hs h
  | some v => rw [readS_some h]; exact parse_yes s v w hw hs h
theorem parA_agg (l : List UInt8) : ∃ S D P, parA l = .agg #[.int .i64 S, .string D, .int .i64 P] := by
  unfold parA
  cases readL l with
  | none => exact ⟨_, _, _, rfl⟩
  | some v => exact ⟨_, _, _, rfl⟩

theorem okV_of {l : List UInt8} {v : Val} (h : readL l = some v) : -999 ≤ v.pow ∧ v.pow ≤ 999 ∧ (formL v).length ≤ 30 ∧ v.digs.length ≤ 30 := by
  unfold readL readE at h
  split at h
  · rename_i hc
    split at h
    · rename_i hk
      injection h with h
      rw [h] at hk
      have := of_decide_eq_true hk
      exact ⟨this.1, this.2.1, this.2.2, by rw [← h]; exact digs_len _ _ hc.2⟩
    · cases h
  · cases h

theorem cmpI_01 (a b : Int) : cmpI a b = -1 ∨ cmpI a b = 0 ∨ cmpI a b = 1 := by
  unfold cmpI
  by_cases h : a < b
  · rw [if_pos h]; exact .inl rfl
  · rw [if_neg h]
    by_cases h2 : b < a
    · rw [if_pos h2]; exact .inr (.inr rfl)
    · rw [if_neg h2]; exact .inr (.inl rfl)
theorem keep_cell {wc w' : World} {p : Addr} {u : Value} (hb : Below wc.heap.size wc w') (h : wc.cell? p = some u) : w'.cell? p = some u := (hb.cell (cell_lt h)).trans h
theorem keep_bel {w wc w' : World} (hb : Below wc.heap.size wc w') (h : Hid (Below w.heap.size w wc)) : Hid (Below w.heap.size w w') := Lib.hid (h.out.trans (hb.mono h.out.size))
theorem keep_cdrew {wc : World} {p : Addr} {u : Value} (h : wc.cell? p = some u) : wc.drew.cell? p = some u := h
theorem keep_last {a b c d e f g : Prop} (h : a ∧ b ∧ c ∧ d ∧ e ∧ f ∧ Hid g) : g := h.2.2.2.2.2.2.out
theorem keep_drew {w wc : World} (h : Hid (Below w.heap.size w wc)) : Hid (Below w.heap.size w wc.drew) := Lib.hid (below_drew h.out)
theorem cmpSz_01 (x y : Val) : cmpSz x y = -1 ∨ cmpSz x y = 0 ∨ cmpSz x y = 1 := by
  unfold cmpSz
  split
  · exact cmpI_01 _ _
  · exact lexC_01 _ _

/-- The document's examples. -/
theorem lives_1 : readL [45, 48, 46, 53, 48] = some ⟨true, [53], -1⟩ := by decide +kernel
theorem lives_2 : begB [49, 101, 53] = true ∧ isB [49, 101, 53] = true := by decide +kernel
theorem lives_3 : cmpN [49, 101, 50] [57, 57, 46, 57] = 1 ∧ cmpC [49, 101, 50] [57, 57, 46, 57] = 0 := by decide +kernel
theorem lives_4 : readS [45, 48, 46, 53, 48] = ⟨#[45, 53, 101, 45, 49]⟩ ∧ readC [45, 48, 46, 53, 48] = 0 := by decide +kernel

end Go.Proofs.YtmnijjbhkbdojaaGreatDoor.Nm

/-
  num's parse and Read: their contracts.
  num's Read and Compare: their contracts.
  events: which events are allowed (valid, normal, formed), and isValue.
-/
import Derived.Test.YtjepnddndpmnnaaGreatDoorGwA08
import Derived.Test.YtjepnddndpmnnaaGreatDoorGwA09
import Derived.Deep.RegionHeld3
import Derived.IntWalk
import Derived.Stop.LaidErr
import Derived.Test.YtjepnddndpmnnaaGreatDoorGwA04
import Derived.Test.YtjepnddndpmnnaaGreatDoorGwA05
import Derived.Test.YtjepnddndpmnnaaGreatDoorGwA06
namespace Go.Proofs.YtjepnddndpmnnaaGreatDoor.Nm
open Go.RowKit
set_option maxRecDepth 100000
set_option linter.unusedSectionVars false
variable [Tab]

def zeroA : Value := .agg #[.int .i64 0, .string ⟨#[]⟩, .int .i64 0]
theorem digs_len (l : List UInt8) (e : Int) (h : l.length ≤ 30) : (valE l e).digs.length ≤ 30 := by
  have h1 := parts_len l
  have h2 := trimR_len (allD l) 48
  have h3 := trimL_len (rightD l) 48
  have h4 : (allD l).length = (parts l).whole.length + (parts l).part.length := by unfold allD; simp
  unfold valE
  split
  · simp
  · show (digsD l).length ≤ 30
    unfold digsD
    unfold rightD at h3 ⊢
    omega

set_option maxHeartbeats 1000000 in
theorem parse_no (s : ByteArray) (w : World) (hw : StdW w) (hs : s.size ≤ 9223372036854775807) (h : readL s.data.toList = none) :
    Calls Tryz.prog 49 #[.string s] w fun e w' => e = .returned (.tuple #[zeroA, .string ⟨#[]⟩, .bool false]) ∧ Below w.heap.size w w' := by
  generalize hi : isB s.data.toList = i
  cases i
  · have HI := Lib.hid hi
    clear hi h
    go_enter Tryz.func49, Tryz.ntmps49
    go_wp2_with (go_at_call 53; refine (may_any s _ hs).mono ?_; rintro e w1 ⟨rfl, rfl⟩; rw [HI.out])
    refine bodyPost_ret (v := .tuple #[zeroA, .string ⟨#[]⟩, .bool false]) (by simp [results, Tryz.results49, go_sem, zeroA]) rfl ⟨rfl, ?_⟩
    repeat (first | exact Below.refl _ _ | refine Below.setCell ?_ (by simp) _ | refine Below.alloc ?_ (by simp) _)
  · by_cases h30 : s.size ≤ 30
    · have hl : s.data.toList.length ≤ 30 := by simpa using h30
      have hr := near_prog hi
      have h2 := (readE_near s.data.toList _ _ hr).trans h
      unfold readE at h2
      rw [if_pos ⟨hi, hl⟩] at h2
      have hok : okV (valE s.data.toList (eprog s.data.toList)) = false := by
        cases hk : okV (valE s.data.toList (eprog s.data.toList))
        · rfl
        · rw [hk, if_pos rfl] at h2; cases h2
      have hdl := digs_len s.data.toList (eprog s.data.toList) hl
      obtain ⟨v, HV⟩ : ∃ v, valE s.data.toList (eprog s.data.toList) = v := ⟨_, rfl⟩
      rw [HV] at hok hdl
      have hv := value_any s
      rw [HV] at hv
      unfold decA at hv
      have HI := Lib.hid hi
      have HVA := Lib.hid hv
      have hok2 := of_decide_eq_false hok
      have HOK := Lib.hid hok2
      clear h h2 hr HV hv hok2 hok hi hl
      by_cases p1 : v.pow < -999
      · go_enter Tryz.func49, Tryz.ntmps49
        go_wp2_with (first
          | (go_at_call 53; refine (may_any s _ hs).mono ?_; rintro e w1 ⟨rfl, rfl⟩; rw [HI.out])
          | (go_at_call 54; refine (HVA.out _ (hw.below ((Below.refl _ _).alloc (Nat.le_refl _) _)) h30 HI.out).mono ?_; rintro e w2 ⟨rfl, hb2⟩; have HR := (Blk.new w 112 #[.int .i64 0, .string ⟨#[]⟩, .int .i64 0]).below hb2 (by simp); have r0 : w2.cell? ⟨w.heap.size, 0, none⟩ = some (.int .i64 0) := HR.cell 0; have r1 : w2.cell? ⟨w.heap.size, 1, none⟩ = some (.string ⟨#[]⟩) := HR.cell 1; have r2 : w2.cell? ⟨w.heap.size, 2, none⟩ = some (.int .i64 0) := HR.cell 2; have g0 := HR.frozen 0; have g1 := HR.frozen 1; have g2 := HR.frozen 2; have hlt := HR.lt; have hbl := ((Below.refl w.heap.size w).alloc (Nat.le_refl _) (.cells #[.int .i64 0, .string ⟨#[]⟩, .int .i64 0] 112)).trans (hb2.mono (by simp))))
        have HE := (((HR.set_ 0 (.int .i64 0)).set_ 1 (.string ⟨#[]⟩)).set_ 2 (.int .i64 0)).alloc (.cells #[.int .i64 (sgI v), .string ⟨v.digs.toArray⟩, .int .i64 v.pow] 112)
        have e0 : _ = some (Value.int .i64 0) := HE.cell 0
        have e1 : _ = some (Value.string ⟨#[]⟩) := HE.cell 1
        have e2 : _ = some (Value.int .i64 0) := HE.cell 2
        refine bodyPost_ret (v := .tuple #[zeroA, .string ⟨#[]⟩, .bool false]) (by simp [results, Tryz.results49, go_sem, zeroA, e0, e1, e2]) rfl ⟨rfl, ?_⟩
        repeat (first | exact hbl | refine Below.setCell ?_ (by simp) _ | refine Below.alloc ?_ (by simp; omega) _)
      · by_cases p2 : 999 < v.pow
        · go_enter Tryz.func49, Tryz.ntmps49
          go_wp2_with (first
            | (go_at_call 53; refine (may_any s _ hs).mono ?_; rintro e w1 ⟨rfl, rfl⟩; rw [HI.out])
            | (go_at_call 54; refine (HVA.out _ (hw.below ((Below.refl _ _).alloc (Nat.le_refl _) _)) h30 HI.out).mono ?_; rintro e w2 ⟨rfl, hb2⟩; have HR := (Blk.new w 112 #[.int .i64 0, .string ⟨#[]⟩, .int .i64 0]).below hb2 (by simp); have r0 : w2.cell? ⟨w.heap.size, 0, none⟩ = some (.int .i64 0) := HR.cell 0; have r1 : w2.cell? ⟨w.heap.size, 1, none⟩ = some (.string ⟨#[]⟩) := HR.cell 1; have r2 : w2.cell? ⟨w.heap.size, 2, none⟩ = some (.int .i64 0) := HR.cell 2; have g0 := HR.frozen 0; have g1 := HR.frozen 1; have g2 := HR.frozen 2; have hlt := HR.lt; have hbl := ((Below.refl w.heap.size w).alloc (Nat.le_refl _) (.cells #[.int .i64 0, .string ⟨#[]⟩, .int .i64 0] 112)).trans (hb2.mono (by simp))))
          have HE := (((HR.set_ 0 (.int .i64 0)).set_ 1 (.string ⟨#[]⟩)).set_ 2 (.int .i64 0)).alloc (.cells #[.int .i64 (sgI v), .string ⟨v.digs.toArray⟩, .int .i64 v.pow] 112)
          have e0 : _ = some (Value.int .i64 0) := HE.cell 0
          have e1 : _ = some (Value.string ⟨#[]⟩) := HE.cell 1
          have e2 : _ = some (Value.int .i64 0) := HE.cell 2
          refine bodyPost_ret (v := .tuple #[zeroA, .string ⟨#[]⟩, .bool false]) (by simp [results, Tryz.results49, go_sem, zeroA, e0, e1, e2]) rfl ⟨rfl, ?_⟩
          repeat (first | exact hbl | refine Below.setCell ?_ (by simp) _ | refine Below.alloc ?_ (by simp; omega) _)
        · have p3 : 30 < (formL v).length := by have := HOK.out; omega
          go_enter Tryz.func49, Tryz.ntmps49
          go_wp2_with (first
            | (go_at_call 53; refine (may_any s _ hs).mono ?_; rintro e w1 ⟨rfl, rfl⟩; rw [HI.out])
            | (go_at_call 54; refine (HVA.out _ (hw.below ((Below.refl _ _).alloc (Nat.le_refl _) _)) h30 HI.out).mono ?_; rintro e w2 ⟨rfl, hb2⟩; have HR := (Blk.new w 112 #[.int .i64 0, .string ⟨#[]⟩, .int .i64 0]).below hb2 (by simp); have r0 : w2.cell? ⟨w.heap.size, 0, none⟩ = some (.int .i64 0) := HR.cell 0; have r1 : w2.cell? ⟨w.heap.size, 1, none⟩ = some (.string ⟨#[]⟩) := HR.cell 1; have r2 : w2.cell? ⟨w.heap.size, 2, none⟩ = some (.int .i64 0) := HR.cell 2; have g0 := HR.frozen 0; have g1 := HR.frozen 1; have g2 := HR.frozen 2; have hlt := HR.lt; have hbl := ((Below.refl w.heap.size w).alloc (Nat.le_refl _) (.cells #[.int .i64 0, .string ⟨#[]⟩, .int .i64 0] 112)).trans (hb2.mono (by simp)))
            | (go_at_call 55; refine (form_any v _ (hw.below (hbl.alloc (Nat.le_of_lt hlt) _)) ⟨by omega, by omega⟩ (by omega)).mono ?_; rintro e w3 ⟨rfl, hb3⟩; have HR3 := (HR.alloc (.cells #[.int .i64 (sgI v), .string ⟨v.digs.toArray⟩, .int .i64 v.pow] 112)).below hb3 (by simp; omega); have q0 : w3.cell? ⟨w.heap.size, 0, none⟩ = some (.int .i64 0) := HR3.cell 0; have q1 : w3.cell? ⟨w.heap.size, 1, none⟩ = some (.string ⟨#[]⟩) := HR3.cell 1; have q2 : w3.cell? ⟨w.heap.size, 2, none⟩ = some (.int .i64 0) := HR3.cell 2; have k0 := HR3.frozen 0; have k1 := HR3.frozen 1; have k2 := HR3.frozen 2; have hbl3 := (hbl.alloc (Nat.le_of_lt hlt) (.cells #[.int .i64 (sgI v), .string ⟨v.digs.toArray⟩, .int .i64 v.pow] 112)).trans (hb3.mono (by simp; omega))))
          refine bodyPost_ret (v := .tuple #[zeroA, .string ⟨#[]⟩, .bool false]) (by simp [results, Tryz.results49, go_sem, zeroA, q0, q1, q2]) rfl ⟨rfl, ?_⟩
          repeat (first | exact hbl3 | refine Below.setCell ?_ (by simp) _ | refine Below.alloc ?_ (by simp; omega) _)
    · have HI := Lib.hid hi
      clear hi h
      go_enter Tryz.func49, Tryz.ntmps49
      go_wp2_with (go_at_call 53; refine (may_any s _ hs).mono ?_; rintro e w1 ⟨rfl, rfl⟩; rw [HI.out])
      refine bodyPost_ret (v := .tuple #[zeroA, .string ⟨#[]⟩, .bool false]) (by simp [results, Tryz.results49, go_sem, zeroA]) rfl ⟨rfl, ?_⟩
      repeat (first | exact Below.refl _ _ | refine Below.setCell ?_ (by simp) _ | refine Below.alloc ?_ (by simp) _)

set_option maxHeartbeats 1000000 in
theorem parse_yes (s : ByteArray) (v : Val) (w : World) (hw : StdW w) (hs : s.size ≤ 9223372036854775807) (h : readL s.data.toList = some v) :
    Calls Tryz.prog 49 #[.string s] w fun e w' => e = .returned (.tuple #[decA v, .string ⟨(formL v).toArray⟩, .bool true]) ∧ Below w.heap.size w w' := by
  have h0 := h
  unfold readL readE at h0
  by_cases hc : isB s.data.toList = true ∧ s.data.toList.length ≤ 30
  · obtain ⟨hi, hl⟩ := hc
    have h30 : s.size ≤ 30 := by simpa using hl
    have h2 := (readE_near s.data.toList _ _ (near_prog hi)).trans h
    unfold readE at h2
    rw [if_pos ⟨hi, hl⟩] at h2
    have hk : okV (valE s.data.toList (eprog s.data.toList)) = true := by
      cases hk : okV (valE s.data.toList (eprog s.data.toList))
      · rw [hk] at h2; cases h2
      · rfl
    rw [hk, if_pos rfl] at h2
    injection h2 with HV
    have hdl := digs_len s.data.toList (eprog s.data.toList) hl
    rw [HV] at hk hdl
    have hv := value_any s
    rw [HV] at hv
    unfold decA at hv
    have HI := Lib.hid hi
    have HVA := Lib.hid hv
    obtain ⟨p1, p2, p3⟩ := of_decide_eq_true hk
    clear h h0 HV hv hk hi hl
    go_enter Tryz.func49, Tryz.ntmps49
    go_wp2_with (first
      | (go_at_call 53; refine (may_any s _ hs).mono ?_; rintro e w1 ⟨rfl, rfl⟩; rw [HI.out])
      | (go_at_call 54; refine (HVA.out _ (hw.below ((Below.refl _ _).alloc (Nat.le_refl _) _)) h30 HI.out).mono ?_; rintro e w2 ⟨rfl, hb2⟩; have HR := (Blk.new w 112 #[.int .i64 0, .string ⟨#[]⟩, .int .i64 0]).below hb2 (by simp); have r0 : w2.cell? ⟨w.heap.size, 0, none⟩ = some (.int .i64 0) := HR.cell 0; have r1 : w2.cell? ⟨w.heap.size, 1, none⟩ = some (.string ⟨#[]⟩) := HR.cell 1; have r2 : w2.cell? ⟨w.heap.size, 2, none⟩ = some (.int .i64 0) := HR.cell 2; have g0 := HR.frozen 0; have g1 := HR.frozen 1; have g2 := HR.frozen 2; have hlt := HR.lt; have hbl := ((Below.refl w.heap.size w).alloc (Nat.le_refl _) (.cells #[.int .i64 0, .string ⟨#[]⟩, .int .i64 0] 112)).trans (hb2.mono (by simp)))
      | (go_at_call 55; refine (form_any v _ (hw.below (hbl.alloc (Nat.le_of_lt hlt) _)) ⟨by omega, by omega⟩ (by omega)).mono ?_; rintro e w3 ⟨rfl, hb3⟩; have HR3 := (HR.alloc (.cells #[.int .i64 (sgI v), .string ⟨v.digs.toArray⟩, .int .i64 v.pow] 112)).below hb3 (by simp; omega); have q0 : w3.cell? ⟨w.heap.size, 0, none⟩ = some (.int .i64 0) := HR3.cell 0; have q1 : w3.cell? ⟨w.heap.size, 1, none⟩ = some (.string ⟨#[]⟩) := HR3.cell 1; have q2 : w3.cell? ⟨w.heap.size, 2, none⟩ = some (.int .i64 0) := HR3.cell 2; have k0 := HR3.frozen 0; have k1 := HR3.frozen 1; have k2 := HR3.frozen 2; have HV3 := (Blk.new w2 112 #[.int .i64 (sgI v), .string ⟨v.digs.toArray⟩, .int .i64 v.pow]).below hb3 (by simp); have z0 : w3.cell? ⟨w2.heap.size, 0, none⟩ = some (.int .i64 (sgI v)) := HV3.cell 0; have z1 : w3.cell? ⟨w2.heap.size, 1, none⟩ = some (.string ⟨v.digs.toArray⟩) := HV3.cell 1; have z2 : w3.cell? ⟨w2.heap.size, 2, none⟩ = some (.int .i64 v.pow) := HV3.cell 2; have hbl3 := (hbl.alloc (Nat.le_of_lt hlt) (.cells #[.int .i64 (sgI v), .string ⟨v.digs.toArray⟩, .int .i64 v.pow] 112)).trans (hb3.mono (by simp; omega))))
    refine bodyPost_ret (v := .tuple #[decA v, .string ⟨(formL v).toArray⟩, .bool true]) (by simp [results, Tryz.results49, go_sem, decA, q0, q1, q2]) rfl ⟨rfl, ?_⟩
    repeat (first | exact hbl3 | refine Below.setCell ?_ (by simp) _ | refine Below.alloc ?_ (by simp; omega) _)
  · rw [if_neg hc] at h0
    cases h0
end Go.Proofs.YtjepnddndpmnnaaGreatDoor.Nm
namespace Go.Proofs.YtjepnddndpmnnaaGreatDoor.Nm
open Go.RowKit
set_option maxRecDepth 100000
set_option linter.unusedSectionVars false
variable [Tab]

def readS (l : List UInt8) : ByteArray := match readL l with | some v => ⟨(formL v).toArray⟩ | none => ⟨#[]⟩
def readC (l : List UInt8) : Int := match readL l with | some _ => 0 | none => 8
theorem readS_some {l : List UInt8} {v : Val} (h : readL l = some v) : readS l = ⟨(formL v).toArray⟩ := by unfold readS; rw [h]
theorem readC_some {l : List UInt8} {v : Val} (h : readL l = some v) : readC l = 0 := by unfold readC; rw [h]
theorem readS_none {l : List UInt8} (h : readL l = none) : readS l = ⟨#[]⟩ := by unfold readS; rw [h]
theorem readC_none {l : List UInt8} (h : readL l = none) : readC l = 8 := by unfold readC; rw [h]

set_option maxHeartbeats 400000 in
theorem read_any (s : ByteArray) (w : World) (hw : StdW w) (hs : s.size ≤ 9223372036854775807) :
    Calls Tryz.prog 41 #[.string s] w fun e w' => e = .returned (.tuple #[.string (readS s.data.toList), .int .i64 (readC s.data.toList)]) ∧ Below w.heap.size w w' := by
  cases h : readL s.data.toList with
  | none =>
    rw [readS_none h, readC_none h]
    have hp := parse_no s
    unfold zeroA at hp
    have HP := Lib.hid hp
    have H := Lib.hid h
    clear h hp
    go_enter Tryz.func41, Tryz.ntmps41
    go_wp2_with (first
      | (go_at_call 49; refine (HP.out _ hw hs H.out).mono ?_; rintro e w1 ⟨rfl, hb1⟩))
    go_ret2
    refine ⟨rfl, ?_⟩
    exact hb1.alloc hb1.size _
  | some v =>
    rw [readS_some h, readC_some h]
    have hp := parse_yes s v
    unfold decA at hp
    have HP := Lib.hid hp
    have H := Lib.hid h
    clear h hp
    go_enter Tryz.func41, Tryz.ntmps41
    go_wp2_with (first
      | (go_at_call 49; refine (HP.out _ hw hs H.out).mono ?_; rintro e w1 ⟨rfl, hb1⟩))
    go_ret2
    refine ⟨rfl, ?_⟩
    exact hb1.alloc hb1.size _

def cmpN (a b : List UInt8) : Int := match readL a, readL b with | some x, some y => cmpV x y | _, _ => 0
def cmpC (a b : List UInt8) : Int := match readL a, readL b with | some _, some _ => 0 | _, _ => 8
theorem cmpN_some {a b : List UInt8} {x y : Val} (h : readL a = some x) (h2 : readL b = some y) : cmpN a b = cmpV x y := by unfold cmpN; rw [h, h2]
theorem cmpC_some {a b : List UInt8} {x y : Val} (h : readL a = some x) (h2 : readL b = some y) : cmpC a b = 0 := by unfold cmpC; rw [h, h2]
theorem cmpN_none {a b : List UInt8} (h : readL a = none ∨ readL b = none) : cmpN a b = 0 := by
  unfold cmpN; rcases h with h | h
  · rw [h]
  · rw [h]; cases readL a <;> rfl
theorem cmpC_none {a b : List UInt8} (h : readL a = none ∨ readL b = none) : cmpC a b = 8 := by
  unfold cmpC; rcases h with h | h
  · rw [h]
  · rw [h]; cases readL a <;> rfl

/-- What parse hands back. -/
def parA (l : List UInt8) : Value := match readL l with | some v => decA v | none => zeroA
def parF (l : List UInt8) : ByteArray := readS l
def parB (l : List UInt8) : Bool := (readL l).isSome
theorem parse_any (s : ByteArray) (w : World) (hw : StdW w) (hs : s.size ≤ 9223372036854775807) :
    Calls Tryz.prog 49 #[.string s] w fun e w' => e = .returned (.tuple #[parA s.data.toList, .string (readS s.data.toList), .bool (parB s.data.toList)]) ∧ Below w.heap.size w w' := by
  unfold parA parB
  cases h : readL s.data.toList with
  | none => rw [readS_none h]; exact parse_no s w hw hs h
  | some v => rw [readS_some h]; exact parse_yes s v w hw hs h
theorem parA_agg (l : List UInt8) : ∃ S D P, parA l = .agg #[.int .i64 S, .string D, .int .i64 P] := by
  unfold parA
  cases readL l with
  | none => exact ⟨_, _, _, rfl⟩
  | some v => exact ⟨_, _, _, rfl⟩

theorem okV_of {l : List UInt8} {v : Val} (h : readL l = some v) : -999 ≤ v.pow ∧ v.pow ≤ 999 ∧ (formL v).length ≤ 30 ∧ v.digs.length ≤ 30 := by
  unfold readL readE at h
  split at h
  · rename_i hc
    split at h
    · rename_i hk
      injection h with h
      rw [h] at hk
      have := of_decide_eq_true hk
      exact ⟨this.1, this.2.1, this.2.2, by rw [← h]; exact digs_len _ _ hc.2⟩
    · cases h
  · cases h

theorem cmpI_01 (a b : Int) : cmpI a b = -1 ∨ cmpI a b = 0 ∨ cmpI a b = 1 := by
  unfold cmpI
  by_cases h : a < b
  · rw [if_pos h]; exact .inl rfl
  · rw [if_neg h]
    by_cases h2 : b < a
    · rw [if_pos h2]; exact .inr (.inr rfl)
    · rw [if_neg h2]; exact .inr (.inl rfl)
theorem keep_cell {wc w' : World} {p : Addr} {u : Value} (hb : Below wc.heap.size wc w') (h : wc.cell? p = some u) : w'.cell? p = some u := (hb.cell (cell_lt h)).trans h
theorem keep_bel {w wc w' : World} (hb : Below wc.heap.size wc w') (h : Hid (Below w.heap.size w wc)) : Hid (Below w.heap.size w w') := Lib.hid (h.out.trans (hb.mono h.out.size))
theorem keep_cdrew {wc : World} {p : Addr} {u : Value} (h : wc.cell? p = some u) : wc.drew.cell? p = some u := h
theorem keep_last {a b c d e f g : Prop} (h : a ∧ b ∧ c ∧ d ∧ e ∧ f ∧ Hid g) : g := h.2.2.2.2.2.2.out
theorem keep_drew {w wc : World} (h : Hid (Below w.heap.size w wc)) : Hid (Below w.heap.size w wc.drew) := Lib.hid (below_drew h.out)
theorem cmpSz_01 (x y : Val) : cmpSz x y = -1 ∨ cmpSz x y = 0 ∨ cmpSz x y = 1 := by
  unfold cmpSz
  split
  · exact cmpI_01 _ _
  · exact lexC_01 _ _

end Go.Proofs.YtjepnddndpmnnaaGreatDoor.Nm
namespace Go.Proofs.YtjepnddndpmnnaaGreatDoor
open Go.RowKit
set_option maxRecDepth 100000
set_option linter.unusedSectionVars false
variable [Tab]

theorem evalid_any (s : ByteArray) (w : World) :
    Calls Tryz.prog 31 #[.string s] w fun e w' => e = .returned (.bool (validL s.data.toList)) ∧ Below w.heap.size w w' := by
  have hl : s.data.toList.length = s.size := by simp
  by_cases h48 : 48 < s.size
  · have hV : validL s.data.toList = false := by unfold validL; rw [hl, decide_eq_false (by omega)]; rfl
    rw [hV]
    clear hl hV
    have h48i : (48 : Int) < s.size := by omega
    go_enter Tryz.func31, Tryz.ntmps31
    go_wp2
    go_ret
    exact ⟨rfl, Below.refl _ _⟩
  · have hV : validL s.data.toList = (runesL s.data.toList).isSome := by unfold validL; rw [hl, decide_eq_true (by omega)]; rfl
    rw [hV]
    clear hl hV
    go_enter Tryz.func31, Tryz.ntmps31
    go_wp2_with (first
      | (go_at_call 42; refine (runes_any s _ (by omega)).mono ?_; rintro e w1 ⟨v, rfl, _, hb1⟩))
    go_ret
    exact ⟨rfl, hb1⟩

theorem isValue_any (k : Int) (w : World) :
    Calls Tryz.prog 32 #[.int .i64 k] w fun e w' => e = .returned (.bool (valueK k)) ∧ w' = w := by
  by_cases h : valueK k = true
  · have h2 := h
    unfold valueK at h2
    rw [decide_eq_true_iff] at h2
    rcases h2 with rfl | rfl | rfl | rfl | rfl | rfl | rfl
    all_goals
      go_enter Tryz.func32, Tryz.ntmps32
      go_wp2
      go_ret
      exact ⟨rfl, rfl⟩
  · rw [Bool.not_eq_true] at h
    rw [h]
    unfold valueK at h
    rw [decide_eq_false_iff_not] at h
    have d1 : (k == 1) = false := by rw [beq_eq_false_iff_ne]; omega
    have d2 : (k == 2) = false := by rw [beq_eq_false_iff_ne]; omega
    have d3 : (k == 3) = false := by rw [beq_eq_false_iff_ne]; omega
    have d4 : (k == 4) = false := by rw [beq_eq_false_iff_ne]; omega
    have d5 : (k == 5) = false := by rw [beq_eq_false_iff_ne]; omega
    have d7 : (k == 7) = false := by rw [beq_eq_false_iff_ne]; omega
    have d10 : (k == 10) = false := by rw [beq_eq_false_iff_ne]; omega
    clear h
    go_enter Tryz.func32, Tryz.ntmps32
    go_wp2
    go_ret
    exact ⟨rfl, rfl⟩

theorem read_norm (s : ByteArray) : normL s.data.toList = (decide (Nm.readC s.data.toList = 0) && decide (Nm.readS s.data.toList = s)) := by
  unfold normL
  cases h : Nm.readL s.data.toList with
  | none => rw [Nm.readC_none h]; rfl
  | some v =>
    rw [Nm.readC_some h, Nm.readS_some h]
    simp only [decide_true, Bool.true_and]
    rw [decide_eq_decide]
    constructor
    · intro e; rw [e]
    · intro e; have := congrArg (fun x : ByteArray => x.data.toList) e; simpa using this
theorem str_diff {x y : ByteArray} (h : ¬ x = y) : (x.toList == y.toList) = false ∧ ¬ x.toList = y.toList := by
  have h2 : ¬ x.toList = y.toList := by
    rw [Lib.toList_data, Lib.toList_data]
    intro e
    exact h (ByteArray.ext (by have := congrArg List.toArray e; simpa using this))
  exact ⟨by simpa using h2, h2⟩

theorem normal_any (s : ByteArray) (w : World) (hw : Nm.StdW w) (hs : s.size ≤ 140737488355328) :
    Calls Tryz.prog 30 #[.string s] w fun e w' => e = .returned (.bool (normL s.data.toList)) ∧ Below w.heap.size w w' := by
  rw [read_norm]
  have hR := Nm.read_any s w hw (by omega)
  generalize Nm.readC s.data.toList = c at *
  generalize Nm.readS s.data.toList = f at *
  by_cases hc : c = 0
  · subst hc
    by_cases hf : f = s
    · subst hf
      simp only [decide_true, Bool.true_and]
      go_enter Tryz.func30, Tryz.ntmps30
      go_wp2_with (first
        | (go_at_call 41; refine hR.mono ?_; rintro e w1 ⟨rfl, hb1⟩))
      go_ret
      exact ⟨rfl, hb1⟩
    · obtain ⟨n1, n2⟩ := str_diff hf
      rw [decide_eq_false hf, Bool.and_false]
      clear hf
      go_enter Tryz.func30, Tryz.ntmps30
      go_wp2_with (first
        | (go_at_call 41; refine hR.mono ?_; rintro e w1 ⟨rfl, hb1⟩))
      go_ret
      exact ⟨rfl, hb1⟩
  · have d : (c == 0) = false := by rw [beq_eq_false_iff_ne]; exact hc
    rw [decide_eq_false hc, Bool.false_and]
    clear hc
    go_enter Tryz.func30, Tryz.ntmps30
    go_wp2_with (first
      | (go_at_call 41; refine hR.mono ?_; rintro e w1 ⟨rfl, hb1⟩))
    go_ret
    exact ⟨rfl, hb1⟩

theorem cutEnd_ex (l : List UInt8) : ∃ a b : ByteArray, CutEnd l = .returned (.tuple #[.string a, .string b, .bool (fullL l)]) := by
  unfold fullL
  cases h : cutL l with
  | none => exact ⟨_, _, cutEnd_none h⟩
  | some p => exact ⟨_, _, cutEnd_some (a := p.1) (b := p.2) h⟩

theorem named_any (b : Nat) (t : ByteArray) (w : World) (hc : w.cell? ⟨b, 1, none⟩ = some (.string t)) (hs : t.size ≤ 140737488355328) :
    Calls Tryz.prog 28 #[.pointer (some ⟨b, 0, none⟩)] w fun e w' => e = .returned (.bool (fullL t.data.toList)) ∧ Below w.heap.size w w' := by
  obtain ⟨x, y, hE⟩ := cutEnd_ex t.data.toList
  have HE := Lib.hid hE
  generalize fullL t.data.toList = f at *
  clear hE
  go_enter Tryz.func28, Tryz.ntmps28
  go_wp2_with (first
    | (go_at_call 29; refine (cut_any t _ hs).mono ?_; rintro e w1 ⟨he, hb1⟩; rw [HE.out] at he; subst he))
  go_ret
  exact ⟨rfl, hb1⟩
end Go.Proofs.YtjepnddndpmnnaaGreatDoor

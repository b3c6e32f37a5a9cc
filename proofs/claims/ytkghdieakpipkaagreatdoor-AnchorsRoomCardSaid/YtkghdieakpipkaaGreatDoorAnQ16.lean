/-
  num's parse and Read: their contracts.
-/
import Derived.Test.YtkghdieakpipkaaGreatDoorAnQ14
import Derived.Test.YtkghdieakpipkaaGreatDoorAnQ15
namespace Go.Proofs.YtkghdieakpipkaaGreatDoor.Nm
open Go.RowKit
set_option maxRecDepth 100000

def zeroA : Value := .agg #[.int .i64 0, .string ⟨#[]⟩, .int .i64 0]
theorem digs_len (l : List UInt8) (e : Int) (h : l.length ≤ 30) : (valE l e).digs.length ≤ 30 := by
  have h1 := parts_len l
  have h2 := trimR_len (allD l) 48
  have h3 := trimL_len (rightD l) 48
  have h4 : (allD l).length = (parts l).whole.length + (parts l).part.length := by unfold allD; simp
  unfold valE
  split
  · simp
  · show (digsD l).length ≤ 30
    unfold digsD
    unfold rightD at h3 ⊢
    omega

set_option maxHeartbeats 1000000 in
theorem parse_no (s : ByteArray) (w : World) (hw : StdW w) (hs : s.size ≤ 9223372036854775807) (h : readL s.data.toList = none) :
    Calls Tryz.prog 92 #[.string s] w fun e w' => e = .returned (.tuple #[zeroA, .string ⟨#[]⟩, .bool false]) ∧ Below w.heap.size w w' := by
  generalize hi : isB s.data.toList = i
  cases i
  · have HI := Lib.hid hi
    clear hi h
    go_enter Tryz.func92, Tryz.ntmps92
    go_wp2_with (go_at_call 100; refine (may_any s _ hs).mono ?_; rintro e w1 ⟨rfl, rfl⟩; rw [HI.out])
    refine bodyPost_ret (v := .tuple #[zeroA, .string ⟨#[]⟩, .bool false]) (by simp [results, Tryz.results92, go_sem, zeroA]) rfl ⟨rfl, ?_⟩
    repeat (first | exact Below.refl _ _ | refine Below.setCell ?_ (by simp) _ | refine Below.alloc ?_ (by simp) _)
  · by_cases h30 : s.size ≤ 30
    · have hl : s.data.toList.length ≤ 30 := by simpa using h30
      have hr := near_prog hi
      have h2 := (readE_near s.data.toList _ _ hr).trans h
      unfold readE at h2
      rw [if_pos ⟨hi, hl⟩] at h2
      have hok : okV (valE s.data.toList (eprog s.data.toList)) = false := by
        cases hk : okV (valE s.data.toList (eprog s.data.toList))
        · rfl
        · rw [hk, if_pos rfl] at h2; cases h2
      have hdl := digs_len s.data.toList (eprog s.data.toList) hl
      obtain ⟨v, HV⟩ : ∃ v, valE s.data.toList (eprog s.data.toList) = v := ⟨_, rfl⟩
      rw [HV] at hok hdl
      have hv := value_any s
      rw [HV] at hv
      unfold decA at hv
      have HI := Lib.hid hi
      have HVA := Lib.hid hv
      have hok2 := of_decide_eq_false hok
      have HOK := Lib.hid hok2
      clear h h2 hr HV hv hok2 hok hi hl
      by_cases p1 : v.pow < -999
      · go_enter Tryz.func92, Tryz.ntmps92
        go_wp2_with (first
          | (go_at_call 100; refine (may_any s _ hs).mono ?_; rintro e w1 ⟨rfl, rfl⟩; rw [HI.out])
          | (go_at_call 101; refine (HVA.out _ (hw.below ((Below.refl _ _).alloc (Nat.le_refl _) _)) h30 HI.out).mono ?_; rintro e w2 ⟨rfl, hb2⟩; have HR := (Blk.new w 125 #[.int .i64 0, .string ⟨#[]⟩, .int .i64 0]).below hb2 (by simp); have r0 : w2.cell? ⟨w.heap.size, 0, none⟩ = some (.int .i64 0) := HR.cell 0; have r1 : w2.cell? ⟨w.heap.size, 1, none⟩ = some (.string ⟨#[]⟩) := HR.cell 1; have r2 : w2.cell? ⟨w.heap.size, 2, none⟩ = some (.int .i64 0) := HR.cell 2; have g0 := HR.frozen 0; have g1 := HR.frozen 1; have g2 := HR.frozen 2; have hlt := HR.lt; have hbl := ((Below.refl w.heap.size w).alloc (Nat.le_refl _) (.cells #[.int .i64 0, .string ⟨#[]⟩, .int .i64 0] 125)).trans (hb2.mono (by simp))))
        have HE := (((HR.set_ 0 (.int .i64 0)).set_ 1 (.string ⟨#[]⟩)).set_ 2 (.int .i64 0)).alloc (.cells #[.int .i64 (sgI v), .string ⟨v.digs.toArray⟩, .int .i64 v.pow] 125)
        have e0 : _ = some (Value.int .i64 0) := HE.cell 0
        have e1 : _ = some (Value.string ⟨#[]⟩) := HE.cell 1
        have e2 : _ = some (Value.int .i64 0) := HE.cell 2
        refine bodyPost_ret (v := .tuple #[zeroA, .string ⟨#[]⟩, .bool false]) (by simp [results, Tryz.results92, go_sem, zeroA, e0, e1, e2]) rfl ⟨rfl, ?_⟩
        repeat (first | exact hbl | refine Below.setCell ?_ (by simp) _ | refine Below.alloc ?_ (by simp; omega) _)
      · by_cases p2 : 999 < v.pow
        · go_enter Tryz.func92, Tryz.ntmps92
          go_wp2_with (first
            | (go_at_call 100; refine (may_any s _ hs).mono ?_; rintro e w1 ⟨rfl, rfl⟩; rw [HI.out])
            | (go_at_call 101; refine (HVA.out _ (hw.below ((Below.refl _ _).alloc (Nat.le_refl _) _)) h30 HI.out).mono ?_; rintro e w2 ⟨rfl, hb2⟩; have HR := (Blk.new w 125 #[.int .i64 0, .string ⟨#[]⟩, .int .i64 0]).below hb2 (by simp); have r0 : w2.cell? ⟨w.heap.size, 0, none⟩ = some (.int .i64 0) := HR.cell 0; have r1 : w2.cell? ⟨w.heap.size, 1, none⟩ = some (.string ⟨#[]⟩) := HR.cell 1; have r2 : w2.cell? ⟨w.heap.size, 2, none⟩ = some (.int .i64 0) := HR.cell 2; have g0 := HR.frozen 0; have g1 := HR.frozen 1; have g2 := HR.frozen 2; have hlt := HR.lt; have hbl := ((Below.refl w.heap.size w).alloc (Nat.le_refl _) (.cells #[.int .i64 0, .string ⟨#[]⟩, .int .i64 0] 125)).trans (hb2.mono (by simp))))
          have HE := (((HR.set_ 0 (.int .i64 0)).set_ 1 (.string ⟨#[]⟩)).set_ 2 (.int .i64 0)).alloc (.cells #[.int .i64 (sgI v), .string ⟨v.digs.toArray⟩, .int .i64 v.pow] 125)
          have e0 : _ = some (Value.int .i64 0) := HE.cell 0
          have e1 : _ = some (Value.string ⟨#[]⟩) := HE.cell 1
          have e2 : _ = some (Value.int .i64 0) := HE.cell 2
          refine bodyPost_ret (v := .tuple #[zeroA, .string ⟨#[]⟩, .bool false]) (by simp [results, Tryz.results92, go_sem, zeroA, e0, e1, e2]) rfl ⟨rfl, ?_⟩
          repeat (first | exact hbl | refine Below.setCell ?_ (by simp) _ | refine Below.alloc ?_ (by simp; omega) _)
        · have p3 : 30 < (formL v).length := by have := HOK.out; omega
          go_enter Tryz.func92, Tryz.ntmps92
          go_wp2_with (first
            | (go_at_call 100; refine (may_any s _ hs).mono ?_; rintro e w1 ⟨rfl, rfl⟩; rw [HI.out])
            | (go_at_call 101; refine (HVA.out _ (hw.below ((Below.refl _ _).alloc (Nat.le_refl _) _)) h30 HI.out).mono ?_; rintro e w2 ⟨rfl, hb2⟩; have HR := (Blk.new w 125 #[.int .i64 0, .string ⟨#[]⟩, .int .i64 0]).below hb2 (by simp); have r0 : w2.cell? ⟨w.heap.size, 0, none⟩ = some (.int .i64 0) := HR.cell 0; have r1 : w2.cell? ⟨w.heap.size, 1, none⟩ = some (.string ⟨#[]⟩) := HR.cell 1; have r2 : w2.cell? ⟨w.heap.size, 2, none⟩ = some (.int .i64 0) := HR.cell 2; have g0 := HR.frozen 0; have g1 := HR.frozen 1; have g2 := HR.frozen 2; have hlt := HR.lt; have hbl := ((Below.refl w.heap.size w).alloc (Nat.le_refl _) (.cells #[.int .i64 0, .string ⟨#[]⟩, .int .i64 0] 125)).trans (hb2.mono (by simp)))
            | (go_at_call 102; refine (form_any v _ (hw.below (hbl.alloc (Nat.le_of_lt hlt) _)) ⟨by omega, by omega⟩ (by omega)).mono ?_; rintro e w3 ⟨rfl, hb3⟩; have HR3 := (HR.alloc (.cells #[.int .i64 (sgI v), .string ⟨v.digs.toArray⟩, .int .i64 v.pow] 125)).below hb3 (by simp; omega); have q0 : w3.cell? ⟨w.heap.size, 0, none⟩ = some (.int .i64 0) := HR3.cell 0; have q1 : w3.cell? ⟨w.heap.size, 1, none⟩ = some (.string ⟨#[]⟩) := HR3.cell 1; have q2 : w3.cell? ⟨w.heap.size, 2, none⟩ = some (.int .i64 0) := HR3.cell 2; have k0 := HR3.frozen 0; have k1 := HR3.frozen 1; have k2 := HR3.frozen 2; have hbl3 := (hbl.alloc (Nat.le_of_lt hlt) (.cells #[.int .i64 (sgI v), .string ⟨v.digs.toArray⟩, .int .i64 v.pow] 125)).trans (hb3.mono (by simp; omega))))
          refine bodyPost_ret (v := .tuple #[zeroA, .string ⟨#[]⟩, .bool false]) (by simp [results, Tryz.results92, go_sem, zeroA, q0, q1, q2]) rfl ⟨rfl, ?_⟩
          repeat (first | exact hbl3 | refine Below.setCell ?_ (by simp) _ | refine Below.alloc ?_ (by simp; omega) _)
    · have HI := Lib.hid hi
      clear hi h
      go_enter Tryz.func92, Tryz.ntmps92
      go_wp2_with (go_at_call 100; refine (may_any s _ hs).mono ?_; rintro e w1 ⟨rfl, rfl⟩; rw [HI.out])
      refine bodyPost_ret (v := .tuple #[zeroA, .string ⟨#[]⟩, .bool false]) (by simp [results, Tryz.results92, go_sem, zeroA]) rfl ⟨rfl, ?_⟩
      repeat (first | exact Below.refl _ _ | refine Below.setCell ?_ (by simp) _ | refine Below.alloc ?_ (by simp) _)

set_option maxHeartbeats 1000000 in
theorem parse_yes (s : ByteArray) (v : Val) (w : World) (hw : StdW w) (hs : s.size ≤ 9223372036854775807) (h : readL s.data.toList = some v) :
    Calls Tryz.prog 92 #[.string s] w fun e w' => e = .returned (.tuple #[decA v, .string ⟨(formL v).toArray⟩, .bool true]) ∧ Below w.heap.size w w' := by
  have h0 := h
  unfold readL readE at h0
  by_cases hc : isB s.data.toList = true ∧ s.data.toList.length ≤ 30
  · obtain ⟨hi, hl⟩ := hc
    have h30 : s.size ≤ 30 := by simpa using hl
    have h2 := (readE_near s.data.toList _ _ (near_prog hi)).trans h
    unfold readE at h2
    rw [if_pos ⟨hi, hl⟩] at h2
    have hk : okV (valE s.data.toList (eprog s.data.toList)) = true := by
      cases hk : okV (valE s.data.toList (eprog s.data.toList))
      · rw [hk] at h2; cases h2
      · rfl
    rw [hk, if_pos rfl] at h2
    injection h2 with HV
    have hdl := digs_len s.data.toList (eprog s.data.toList) hl
    rw [HV] at hk hdl
    have hv := value_any s
    rw [HV] at hv
    unfold decA at hv
    have HI := Lib.hid hi
    have HVA := Lib.hid hv
    obtain ⟨p1, p2, p3⟩ := of_decide_eq_true hk
    clear h h0 HV hv hk hi hl
    go_enter Tryz.func92, Tryz.ntmps92
    go_wp2_with (first
      | (go_at_call 100; refine (may_any s _ hs).mono ?_; rintro e w1 ⟨rfl, rfl⟩; rw [HI.out])
      | (go_at_call 101; refine (HVA.out _ (hw.below ((Below.refl _ _).alloc (Nat.le_refl _) _)) h30 HI.out).mono ?_; rintro e w2 ⟨rfl, hb2⟩; have HR := (Blk.new w 125 #[.int .i64 0, .string ⟨#[]⟩, .int .i64 0]).below hb2 (by simp); have r0 : w2.cell? ⟨w.heap.size, 0, none⟩ = some (.int .i64 0) := HR.cell 0; have r1 : w2.cell? ⟨w.heap.size, 1, none⟩ = some (.string ⟨#[]⟩) := HR.cell 1; have r2 : w2.cell? ⟨w.heap.size, 2, none⟩ = some (.int .i64 0) := HR.cell 2; have g0 := HR.frozen 0; have g1 := HR.frozen 1; have g2 := HR.frozen 2; have hlt := HR.lt; have hbl := ((Below.refl w.heap.size w).alloc (Nat.le_refl _) (.cells #[.int .i64 0, .string ⟨#[]⟩, .int .i64 0] 125)).trans (hb2.mono (by simp)))
      | (go_at_call 102; refine (form_any v _ (hw.below (hbl.alloc (Nat.le_of_lt hlt) _)) ⟨by omega, by omega⟩ (by omega)).mono ?_; rintro e w3 ⟨rfl, hb3⟩; have HR3 := (HR.alloc (.cells #[.int .i64 (sgI v), .string ⟨v.digs.toArray⟩, .int .i64 v.pow] 125)).below hb3 (by simp; omega); have q0 : w3.cell? ⟨w.heap.size, 0, none⟩ = some (.int .i64 0) := HR3.cell 0; have q1 : w3.cell? ⟨w.heap.size, 1, none⟩ = some (.string ⟨#[]⟩) := HR3.cell 1; have q2 : w3.cell? ⟨w.heap.size, 2, none⟩ = some (.int .i64 0) := HR3.cell 2; have k0 := HR3.frozen 0; have k1 := HR3.frozen 1; have k2 := HR3.frozen 2; have HV3 := (Blk.new w2 125 #[.int .i64 (sgI v), .string ⟨v.digs.toArray⟩, .int .i64 v.pow]).below hb3 (by simp); have z0 : w3.cell? ⟨w2.heap.size, 0, none⟩ = some (.int .i64 (sgI v)) := HV3.cell 0; have z1 : w3.cell? ⟨w2.heap.size, 1, none⟩ = some (.string ⟨v.digs.toArray⟩) := HV3.cell 1; have z2 : w3.cell? ⟨w2.heap.size, 2, none⟩ = some (.int .i64 v.pow) := HV3.cell 2; have hbl3 := (hbl.alloc (Nat.le_of_lt hlt) (.cells #[.int .i64 (sgI v), .string ⟨v.digs.toArray⟩, .int .i64 v.pow] 125)).trans (hb3.mono (by simp; omega))))
    refine bodyPost_ret (v := .tuple #[decA v, .string ⟨(formL v).toArray⟩, .bool true]) (by simp [results, Tryz.results92, go_sem, decA, q0, q1, q2]) rfl ⟨rfl, ?_⟩
    repeat (first | exact hbl3 | refine Below.setCell ?_ (by simp) _ | refine Below.alloc ?_ (by simp; omega) _)
  · rw [if_neg hc] at h0
    cases h0
end Go.Proofs.YtkghdieakpipkaaGreatDoor.Nm

/-
  A number's text by any table of the library: two digits of a number below 1000.
  A number's text by any table of the library: AppendUint below 1000.
  A number's text by any table of the library: AppendInt between -999 and 999.
-/
import Derived.Test.YtalkjgijmceifaaGreatDoorDwA12
import Derived.Shelf.Strconv.Itoa2
import Derived.Shelf.Strconv.AppendUint10
namespace Go.Proofs.YtalkjgijmceifaaGreatDoor
open Go.RowKit Go.Sort Go.Lib Go.Shelf
set_option maxRecDepth 100000
set_option linter.unusedSimpArgs false
set_option linter.unusedVariables false

set_option maxHeartbeats 4000000 in
theorem fmt2_any (blk cap u : Nat) (hu : u < 1000) (w : World) (hH : Holds (fun (b : UInt8) => Value.int .u8 (b.toNat : Int)) w blk 0 (Array.replicate 2 0)) :
    Calls Tryz.prog 114 #[.slice (some ⟨blk, 0, none⟩) 2 cap, .int .u64 u] w fun e w' =>
      e = .returned (.tuple #[]) ∧ ∃ n : Nat, w' = (putRow (fun (b : UInt8) => Value.int .u8 (b.toNat : Int)) w blk 0 (((Array.replicate 2 (0 : UInt8)).setIfInBounds 1 (sm (u % 100 * 2 + 1))).setIfInBounds 0 (sm (u % 100 * 2)))).drewN n := by
  go_enter Tryz.func114, Tryz.ntmps114
  go_name_bytes SM hSM
  have eSM : SM = Lib.smalls := by rw [← hSM]; decide +kernel
  subst eSM
  clear hSM
  go_wp2
  go_loopw [1, 4] (fun vu vn wr => vu = .int .u64 u ∧ vn = .int .i64 2 ∧ wr = w) (fun _ _ _ => 0)
  case atStart => exact ⟨rfl, rfl, rfl⟩
  case round =>
    obtain ⟨rfl, rfl, rfl⟩ := hrel
    have hf0 : ∀ t, t < 2 → wr.frozen? ⟨blk, t, none⟩ = false := fun t ht => by have := (hH t (by simpa using ht)).2; simpa using this
    have hc0 : ∀ t, t < 2 → wr.cell? ⟨blk, t, none⟩ = some (.int .u8 0) := fun t ht => by
      have := (hH t (by simpa using ht)).1
      rcases (show t = 0 ∨ t = 1 by omega) with rfl | rfl <;> simpa using this
    have c0 := hc0 0 (by omega)
    have c1 := hc0 1 (by omega)
    have f0 := hf0 0 (by omega)
    have f1 := hf0 1 (by omega)
    have AH := Lib.hid hH
    clear hH hc0 hf0
    go_wp2
    go_name_slot 16 x0 hx0
    have hxe0 : x0 = ((u % 100 * 2 : Nat) : Int) := by omega
    have hXa0 : ∀ w, (Instr.index 9 (.string Lib.smalls) (.int .u32 (x0 + 1))).run Tryz.prog w = .ok (.int .u8 ((sm (u % 100 * 2 + 1)).toNat : Int)) w := idx_smalls 9 Tryz.underlying9 .u32 _ _ (by omega) (by omega)
    have hXb0 : ∀ w, (Instr.index 9 (.string Lib.smalls) (.int .u32 x0)).run Tryz.prog w = .ok (.int .u8 ((sm (u % 100 * 2)).toNat : Int)) w := idx_smalls 9 Tryz.underlying9 .u32 _ _ (by omega) (by omega)
    have hlo0 : 0 ≤ x0 := by omega
    have hhi0 : x0 ≤ 198 := by omega
    clear hx0 hxe0
    have mixed := Tryz.laysM176.mixed
    go_region_o
    go_wp2
    go_end0
    refine ⟨rfl, 1, ?_⟩
    have e0 := store2_world wr blk 0 (Array.replicate 2 (0 : UInt8)) 0 1 0 (sm (u % 100 * 2 + 1)) (sm (u % 100 * 2)) (by simp) (by simp)
    rw [putRow_self _ _ _ _ _ AH.out] at e0
    simp only [Nat.zero_add] at e0
    exact e0
end Go.Proofs.YtalkjgijmceifaaGreatDoor
namespace Go.Proofs.YtalkjgijmceifaaGreatDoor
open Go.RowKit Go.Sort Go.Lib Go.Shelf
set_option maxRecDepth 100000
set_option linter.unusedSimpArgs false
set_option linter.unusedVariables false

theorem fmtT_any (nd u blk cap : Nat) (hnd : nd = 2 ∨ nd = 3 ∨ nd = 4) (hu : u < 1000) (w : World) (hH : Holds (fun (b : UInt8) => Value.int .u8 (b.toNat : Int)) w blk 0 (Array.replicate nd 0)) :
    Calls Tryz.prog 114 #[.slice (some ⟨blk, 0, none⟩) nd cap, .int .u64 u] w fun e w' =>
      e = .returned (.tuple #[]) ∧ ∃ n : Nat, w' = (putRow (fun (b : UInt8) => Value.int .u8 (b.toNat : Int)) w blk 0 (rowT nd u)).drewN n := by
  by_cases h2 : nd = 2
  · subst h2
    exact fmt2_any blk cap u hu w hH
  · have hp : u < 10 ^ nd := by
      rcases hnd with rfl | rfl | rfl
      · exact absurd rfl h2
      · exact Nat.lt_of_lt_of_le hu (by decide)
      · exact Nat.lt_of_lt_of_le hu (by decide)
    have hC := Any.internal_strconv_formatBase10 { Tryz.laysM176 with } blk 0 cap u (Array.replicate nd 0) w hH (by rw [Array.size_replicate]; exact hp) (by omega) (by rw [Array.size_replicate]; omega)
    rw [Array.size_replicate] at hC
    refine Calls.mono (by exact hC) ?_
    rintro e w' ⟨rfl, n, v', dk, rfl, hF⟩
    refine ⟨rfl, n, ?_⟩
    have : dk = rowT nd u := by
      unfold rowT
      rw [if_neg h2]
      apply Array.ext
      · simp [hF.size]
      · intro i h1 h3
        have := hF.done i (Nat.zero_le _) (by rw [← hF.size]; exact h1)
        rw [getElem!_pos _ i h1] at this
        rw [this]
        simp
    rw [this]
set_option maxHeartbeats 12800000 in
theorem appU_T (zs : List Int) (hz : okTab zs) (B n u : Nat) (hu0 : 100 ≤ u) (hu : u < 1000) (sv : Value) (xs : List Value) (w : World) (hown : w.ownsRow B 5 1 sv n xs) (hBw : B ≤ w.heap.size) (hlim : n + 20 ≤ 140737488355328)
    (htab : TabIs Tryz.prog w "internal/strconv.uint64pow10" .u64 zs) :
    Calls Tryz.prog 104 #[sv, .int .u64 u, .int .i64 10] w fun e w' => ∃ v', e = .returned v' ∧ w'.ownsRow B 5 1 v' (n + (digsT zs u).length) (xs ++ byteCells (digsT zs u)) ∧ Below B w w' := by
  have hnr := ndT_range zs hu0 hu
  have hnD := numDigits_T zs hz u (by omega) (by omega) (w.alloc (.cells zeros24 163)) (tabIs_alloc htab _)
  have hdl : digsT zs u = (rowT (ndT zs u) u).toList := by unfold digsT; rw [if_neg (by omega)]
  rw [hdl]
  generalize ndT zs u = nd at *
  have hal : Tryz.prog.arrayLen 163 = 24 := by kernel_rfl
  have hel : Tryz.prog.elem 163 = 5 := by kernel_rfl
  have hsl : ∀ W, (Instr.sliceAt 163 (.pointer (some ⟨w.heap.size, 0, none⟩)) none (some (.int .i64 (nd : Int))) none).run Tryz.prog W = .ok (.slice (some ⟨w.heap.size, 0, none⟩) nd 24) W := fun W => by
    rw [run_sliceAt_array_h W 163 ⟨w.heap.size, 0, none⟩ (by kernel_rfl) .i64 (nd : Int) (by omega) (by rw [hal]; omega)]
    go_simp
  have hH0 := holds_zero0 w 163 nd (by omega)
  have hfmt := fmtT_any nd u w.heap.size 24 hnr hu (w.alloc (.cells zeros24 163)) hH0
  have HH0 := Lib.hid hH0
  have iu : (100 : Int) ≤ (u : Int) := by omega
  clear hH0 hal
  obtain ⟨i0, hi, hz0, hz1, hz2⟩ := info_parts Tryz.laysM176.i5
  have hrl : (rowT nd u).size = nd := rowT_size nd u
  obtain ⟨R, hR⟩ : ∃ R, rowT nd u = R := ⟨_, rfl⟩
  rw [hR] at hfmt hrl ⊢
  clear hR hdl
  go_enter Tryz.func104, Tryz.ntmps104
  go_wp2_with (first
    | (go_at_call 113; refine hnD.mono ?_; rintro e w' ⟨rfl, rfl⟩))
  refine hfmt.mono ?_
  rintro e w' ⟨rfl, k, rfl⟩
  have hcells : ∀ j u', (byteCells R.toList)[j]? = some u' → ((putRow (fun (b : UInt8) => Value.int .u8 (b.toNat : Int)) (w.alloc (.cells zeros24 163)) w.heap.size 0 R).drewN k).cell? ((⟨w.heap.size, 0, none⟩ : Addr).add j) = some u' := by
    intro j u' hj
    have hjl : j < R.size := by
      have h5 := (List.getElem?_eq_some_iff.1 hj).1
      rwa [byteCells_length, Array.length_toList] at h5
    have e5 : (byteCells R.toList)[j]? = some (Value.int .u8 (R[j]!.toNat : Int)) := by rw [getElem!_pos _ j hjl]; simp [byteCells, hjl]
    rw [e5] at hj
    cases hj
    rw [add_plain, World.cell?_drewN]
    exact cell?_putRow (fun (b : UInt8) => Value.int .u8 (b.toNat : Int)) _ w.heap.size 0 _ R HH0.out (by rw [hrl, Array.size_replicate]) j hjl
  obtain ⟨os, eo⟩ := fin_at w (.cells zeros24 163) R k 0
  have hown2 : ((putRow (fun (b : UInt8) => Value.int .u8 (b.toNat : Int)) (w.alloc (.cells zeros24 163)) w.heap.size 0 R).drewN k).ownsRow B 5 1 sv n xs := by rw [eo]; exact ownsRow_grow hown k os
  have hnx2 : Below B w ((putRow (fun (b : UInt8) => Value.int .u8 (b.toNat : Int)) (w.alloc (.cells zeros24 163)) w.heap.size 0 R).drewN k) := by rw [eo]; exact below_grow B w hBw k os
  have hsz2 : w.heap.size ≤ ((putRow (fun (b : UInt8) => Value.int .u8 (b.toNat : Int)) (w.alloc (.cells zeros24 163)) w.heap.size 0 R).drewN k).heap.size := by rw [eo]; exact size_grow w k os
  generalize (putRow (fun (b : UInt8) => Value.int .u8 (b.toNat : Int)) (w.alloc (.cells zeros24 163)) w.heap.size 0 R).drewN k = W2 at hcells hown2 hnx2 hsz2 ⊢
  clear eo HH0 hfmt hnD
  go_wp2_with (at_builtin; refine wpList_append_own _ rfl _ _ 22 rfl B 5 i0 (.int .u8 0) 1 1 Tryz.underlying22 hi hz0 hz1 hz2 rfl (by decide) _ _ _ rfl hown2 ⟨w.heap.size, 0, none⟩ nd 24 (byteCells R.toList) rfl ?c0 hcells ?c2 ?c3 ?c4 ?c5 ?_)
  case c0 => rw [byteCells_length, Array.length_toList, Nat.mul_one]; exact hrl
  case c2 => intro u' hu'; simp only [byteCells, List.mem_map] at hu'; obtain ⟨b, _, rfl⟩ := hu'; rfl
  case c3 => unfold maxLen; omega
  case c4 => omega
  case c5 => omega
  intro v2 w3 hown' hgrow _
  go_wp2
  go_ret
  refine ⟨v2, rfl, ?_, hnx2.grown hgrow (by omega) (fun k hk => (hown2.lt k hk).1)⟩
  rw [Array.length_toList, hrl]
  exact hown'
end Go.Proofs.YtalkjgijmceifaaGreatDoor
namespace Go.Proofs.YtalkjgijmceifaaGreatDoor
open Go.RowKit Go.Sort Go.Lib Go.Shelf
set_option maxRecDepth 100000
set_option linter.unusedSimpArgs false
set_option linter.unusedVariables false

theorem appUint_T (zs : List Int) (hz : okTab zs) (B n u : Nat) (hu : u < 1000) (sv : Value) (xs : List Value) (w : World) (hown : w.ownsRow B 5 1 sv n xs) (hBw : B ≤ w.heap.size) (hlim : n + 20 ≤ 140737488355328)
    (htab : TabIs Tryz.prog w "internal/strconv.uint64pow10" .u64 zs) :
    Calls Tryz.prog 104 #[sv, .int .u64 u, .int .i64 10] w fun e w' => ∃ v', e = .returned v' ∧ w'.ownsRow B 5 1 v' (n + (digsT zs u).length) (xs ++ byteCells (digsT zs u)) ∧ Below B w w' := by
  by_cases h : u < 100
  · unfold digsT
    rw [if_pos h]
    have hC := Any.internal_strconv_AppendUint_10_small { Tryz.laysM176 with } B n u h sv xs w hown hBw hlim
    refine Calls.mono (by exact hC) ?_
    rintro e w' ⟨v', h1, h2, h3, _⟩
    exact ⟨v', h1, h2, h3⟩
  · exact appU_T zs hz B n u (by omega) hu sv xs w hown hBw hlim htab

set_option maxHeartbeats 6400000 in
theorem appI_T (zs : List Int) (hz : okTab zs) (B n : Nat) (i : Int) (h0 : -999 ≤ i) (h1 : i ≤ 999) (sv : Value) (xs : List Value) (w : World) (hown : w.ownsRow B 5 1 sv n xs) (hBw : B ≤ w.heap.size) (hlim : n + 21 ≤ 140737488355328)
    (htab : TabBelow Tryz.prog B w "internal/strconv.uint64pow10" .u64 zs) :
    Calls Tryz.prog 96 #[sv, .int .i64 i, .int .i64 10] w fun e w' => ∃ v', e = .returned v' ∧ w'.ownsRow B 5 1 v' (n + (itoaT zs i).length) (xs ++ byteCells (itoaT zs i)) ∧ Below B w w' := by
  obtain ⟨i0, hi, hz0, hz1, hz2⟩ := info_parts Tryz.laysM176.i5
  unfold itoaT
  by_cases hneg : i < 0
  · rw [if_pos hneg]
    obtain ⟨u, rfl⟩ : ∃ u : Nat, i = -(u : Int) := ⟨i.natAbs, by omega⟩
    have hun : (-(u : Int)).natAbs = u := by omega
    rw [hun]
    have hu1 : 1 ≤ u := by omega
    have hu : u < 1000 := by omega
    have hwr : IntKind.u64.wrap (-IntKind.u64.wrap (-(u : Int))) = (u : Int) := by rw [IntKind.wrap_u64, IntKind.wrap_u64]; omega
    obtain ⟨D, hD⟩ : ∃ D, digsT zs u = D := ⟨_, rfl⟩
    have hCU := fun v x w a b c d => appUint_T zs hz B (n + 1) u hu v x w a b c d
    rw [hD] at hCU ⊢
    clear hD hun
    go_enter Tryz.func96, Tryz.ntmps96
    go_wp2_with (at_builtin; refine wpList_append_own _ rfl _ _ 22 rfl B 5 i0 (.int .u8 0) 1 1 Tryz.underlying22 hi hz0 hz1 hz2 rfl (by decide) _ _ _ rfl (hown.alloc _) ⟨w.heap.size, 0, none⟩ 1 1 [Value.int .u8 45] rfl rfl (by intro j u' hj; match j, hj with | 0, hj => simp at hj; subst hj; simp [Addr.add]) (by intro u' hu'; simp at hu'; subst hu'; rfl) (by unfold maxLen; omega) (by omega) (by simp; omega) ?_)
    intro v1 w1 hown1 hgrow _
    have hnx1 : Below B w w1 := ((Below.refl B w).alloc hBw _).grown hgrow (by simp; omega) (fun k hk => (hown.lt k hk).1)
    have htab1 := htab w1 hnx1
    go_wp2_with (go_at_call 104; refine (hCU v1 _ w1 hown1 (by have := hnx1.size; omega) (by omega) htab1).mono ?_; rintro e w2 ⟨v2, rfl, hown2, hnx2⟩)
    go_wp2
    go_ret
    refine ⟨v2, rfl, ?_, hnx1.trans hnx2⟩
    have e1 : n + (D.length + 1) = n + 1 + D.length := by omega
    have e2 : xs ++ byteCells (45 :: D) = xs ++ [Value.int .u8 45] ++ byteCells D := by simp [byteCells]
    rw [e1, e2]
    exact hown2
  · rw [if_neg hneg]
    obtain ⟨u, rfl⟩ : ∃ u : Nat, i = u := ⟨i.toNat, by omega⟩
    have hun : ((u : Int)).natAbs = u := by omega
    rw [hun]
    have hu : u < 1000 := by omega
    obtain ⟨D, hD⟩ : ∃ D, digsT zs u = D := ⟨_, rfl⟩
    have hCU := appUint_T zs hz B n u hu sv xs w hown hBw (by omega) htab.here
    rw [hD] at hCU ⊢
    clear hD hun
    go_enter Tryz.func96, Tryz.ntmps96
    go_wp2_with (go_at_call 104; refine hCU.mono ?_; rintro e w2 ⟨v2, rfl, hown2, hnx2⟩)
    go_wp2
    first | go_ret | go_ret2
    exact ⟨v2, rfl, hown2, hnx2⟩

set_option maxHeartbeats 6400000 in
theorem appInt_T (zs : List Int) (hz : okTab zs) (B n : Nat) (i : Int) (h0 : -999 ≤ i) (h1 : i ≤ 999) (sv : Value) (xs : List Value) (w : World) (hown : w.ownsRow B 5 1 sv n xs) (hBw : B ≤ w.heap.size) (hlim : n + 21 ≤ 140737488355328)
    (htab : TabBelow Tryz.prog B w "internal/strconv.uint64pow10" .u64 zs) :
    Calls Tryz.prog 81 #[sv, .int .i64 i, .int .i64 10] w fun e w' => ∃ v', e = .returned v' ∧ w'.ownsRow B 5 1 v' (n + (itoaT zs i).length) (xs ++ byteCells (itoaT zs i)) ∧ Below B w w' := by
  have hC := appI_T zs hz B n i h0 h1 sv xs w hown hBw hlim htab
  obtain ⟨D, hD⟩ : ∃ D, itoaT zs i = D := ⟨_, rfl⟩
  rw [hD] at hC ⊢
  clear hD
  go_enter Tryz.func81, Tryz.ntmps81
  go_wp2_with (go_at_call 96; refine hC.mono ?_; rintro e w2 ⟨v2, rfl, hown2, hnx2⟩)
  go_wp2
  go_ret
  exact ⟨v2, rfl, hown2, hnx2⟩
end Go.Proofs.YtalkjgijmceifaaGreatDoor

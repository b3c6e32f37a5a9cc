/-
  A number's text by any table of the library: AppendInt between -999 and 999.
  num's form: its contract.
-/
import Derived.Test.YtjepnddndpmnnaaGreatDoorGwA08
import Derived.Test.YtjepnddndpmnnaaGreatDoorGwA07
import Derived.Lib.AppendStr
namespace Go.Proofs.YtjepnddndpmnnaaGreatDoor
open Go.RowKit Go.Sort Go.Lib Go.Shelf
set_option maxRecDepth 100000
set_option linter.unusedSimpArgs false
set_option linter.unusedVariables false

theorem appUint_T (zs : List Int) (hz : okTab zs) (B n u : Nat) (hu : u < 1000) (sv : Value) (xs : List Value) (w : World) (hown : w.ownsRow B 5 1 sv n xs) (hBw : B ≤ w.heap.size) (hlim : n + 20 ≤ 140737488355328)
    (htab : TabIs Tryz.prog w "internal/strconv.uint64pow10" .u64 zs) :
    Calls Tryz.prog 89 #[sv, .int .u64 u, .int .i64 10] w fun e w' => ∃ v', e = .returned v' ∧ w'.ownsRow B 5 1 v' (n + (digsT zs u).length) (xs ++ byteCells (digsT zs u)) ∧ Below B w w' := by
  by_cases h : u < 100
  · unfold digsT
    rw [if_pos h]
    have hC := Any.internal_strconv_AppendUint_10_small { Tryz.laysM176 with } B n u h sv xs w hown hBw hlim
    refine Calls.mono (by exact hC) ?_
    rintro e w' ⟨v', h1, h2, h3, _⟩
    exact ⟨v', h1, h2, h3⟩
  · exact appU_T zs hz B n u (by omega) hu sv xs w hown hBw hlim htab

set_option maxHeartbeats 6400000 in
theorem appI_T (zs : List Int) (hz : okTab zs) (B n : Nat) (i : Int) (h0 : -999 ≤ i) (h1 : i ≤ 999) (sv : Value) (xs : List Value) (w : World) (hown : w.ownsRow B 5 1 sv n xs) (hBw : B ≤ w.heap.size) (hlim : n + 21 ≤ 140737488355328)
    (htab : TabBelow Tryz.prog B w "internal/strconv.uint64pow10" .u64 zs) :
    Calls Tryz.prog 81 #[sv, .int .i64 i, .int .i64 10] w fun e w' => ∃ v', e = .returned v' ∧ w'.ownsRow B 5 1 v' (n + (itoaT zs i).length) (xs ++ byteCells (itoaT zs i)) ∧ Below B w w' := by
  obtain ⟨i0, hi, hz0, hz1, hz2⟩ := info_parts Tryz.laysM176.i5
  unfold itoaT
  by_cases hneg : i < 0
  · rw [if_pos hneg]
    obtain ⟨u, rfl⟩ : ∃ u : Nat, i = -(u : Int) := ⟨i.natAbs, by omega⟩
    have hun : (-(u : Int)).natAbs = u := by omega
    rw [hun]
    have hu1 : 1 ≤ u := by omega
    have hu : u < 1000 := by omega
    have hwr : IntKind.u64.wrap (-IntKind.u64.wrap (-(u : Int))) = (u : Int) := by rw [IntKind.wrap_u64, IntKind.wrap_u64]; omega
    obtain ⟨D, hD⟩ : ∃ D, digsT zs u = D := ⟨_, rfl⟩
    have hCU := fun v x w a b c d => appUint_T zs hz B (n + 1) u hu v x w a b c d
    rw [hD] at hCU ⊢
    clear hD hun
    go_enter Tryz.func81, Tryz.ntmps81
    go_wp2_with (at_builtin; refine wpList_append_own _ rfl _ _ 22 rfl B 5 i0 (.int .u8 0) 1 1 Tryz.underlying22 hi hz0 hz1 hz2 rfl (by decide) _ _ _ rfl (hown.alloc _) ⟨w.heap.size, 0, none⟩ 1 1 [Value.int .u8 45] rfl rfl (by intro j u' hj; match j, hj with | 0, hj => simp at hj; subst hj; simp [Addr.add]) (by intro u' hu'; simp at hu'; subst hu'; rfl) (by unfold maxLen; omega) (by omega) (by simp; omega) ?_)
    intro v1 w1 hown1 hgrow _
    have hnx1 : Below B w w1 := ((Below.refl B w).alloc hBw _).grown hgrow (by simp; omega) (fun k hk => (hown.lt k hk).1)
    have htab1 := htab w1 hnx1
    go_wp2_with (go_at_call 89; refine (hCU v1 _ w1 hown1 (by have := hnx1.size; omega) (by omega) htab1).mono ?_; rintro e w2 ⟨v2, rfl, hown2, hnx2⟩)
    go_wp2
    go_ret
    refine ⟨v2, rfl, ?_, hnx1.trans hnx2⟩
    have e1 : n + (D.length + 1) = n + 1 + D.length := by omega
    have e2 : xs ++ byteCells (45 :: D) = xs ++ [Value.int .u8 45] ++ byteCells D := by simp [byteCells]
    rw [e1, e2]
    exact hown2
  · rw [if_neg hneg]
    obtain ⟨u, rfl⟩ : ∃ u : Nat, i = u := ⟨i.toNat, by omega⟩
    have hun : ((u : Int)).natAbs = u := by omega
    rw [hun]
    have hu : u < 1000 := by omega
    obtain ⟨D, hD⟩ : ∃ D, digsT zs u = D := ⟨_, rfl⟩
    have hCU := appUint_T zs hz B n u hu sv xs w hown hBw (by omega) htab.here
    rw [hD] at hCU ⊢
    clear hD hun
    go_enter Tryz.func81, Tryz.ntmps81
    go_wp2_with (go_at_call 89; refine hCU.mono ?_; rintro e w2 ⟨v2, rfl, hown2, hnx2⟩)
    go_wp2
    first | go_ret | go_ret2
    exact ⟨v2, rfl, hown2, hnx2⟩

set_option maxHeartbeats 6400000 in
theorem appInt_T (zs : List Int) (hz : okTab zs) (B n : Nat) (i : Int) (h0 : -999 ≤ i) (h1 : i ≤ 999) (sv : Value) (xs : List Value) (w : World) (hown : w.ownsRow B 5 1 sv n xs) (hBw : B ≤ w.heap.size) (hlim : n + 21 ≤ 140737488355328)
    (htab : TabBelow Tryz.prog B w "internal/strconv.uint64pow10" .u64 zs) :
    Calls Tryz.prog 66 #[sv, .int .i64 i, .int .i64 10] w fun e w' => ∃ v', e = .returned v' ∧ w'.ownsRow B 5 1 v' (n + (itoaT zs i).length) (xs ++ byteCells (itoaT zs i)) ∧ Below B w w' := by
  have hC := appI_T zs hz B n i h0 h1 sv xs w hown hBw hlim htab
  obtain ⟨D, hD⟩ : ∃ D, itoaT zs i = D := ⟨_, rfl⟩
  rw [hD] at hC ⊢
  clear hD
  go_enter Tryz.func66, Tryz.ntmps66
  go_wp2_with (go_at_call 81; refine hC.mono ?_; rintro e w2 ⟨v2, rfl, hown2, hnx2⟩)
  go_wp2
  go_ret
  exact ⟨v2, rfl, hown2, hnx2⟩
end Go.Proofs.YtjepnddndpmnnaaGreatDoor
namespace Go.Proofs.YtjepnddndpmnnaaGreatDoor.Nm
open Go.RowKit

section
variable {P : Program} {w : World}
/-- A string's bytes appended. -/
theorem wp_appS {ops : Array Oper} {rest : List Oper} {o : Oper} {a : Act} {Q : Exit → Act → World → Prop} (hgd : o.guard = none) (s x : Operand) (t u : TypeId)
    (ho : o.op = .call { callee := .builtin .append, args := #[s, x], argTypes := #[t, u] })
    (base : Nat) (e : TypeId) (ht : P.underlying t = some (.slice e)) (hu : P.underlying u = some .string) (hinfo : (P.info? e).map (fun i => (i.zero, i.size, i.bytes)) = some (some (.int .u8 0), 1, 1))
    (v : Value) (l : List UInt8) (hs : a.eval s = v) (hown : ORow w base e v (l.map bV)) (str : ByteArray) (hx : a.eval x = .string str)
    (h63 : l.length + str.size ≤ maxLen) (hbytes : l.length + str.size ≤ 140737488355328) (hbase : base ≤ w.heap.size)
    (h : ∀ v' w', ORow w' base e v' ((l ++ str.data.toList).map bV) → Below base w w' → wpList P ops Q rest (a.put o.dst v') w') :
    wpList P ops Q (o :: rest) a w := by
  obtain ⟨i, hi, hz, hsize, hby⟩ := info_parts hinfo
  refine wpList_plain hgd fun K hK => ?_
  obtain ⟨v', w', hrun, h2, h3, _⟩ := Lib.run_append_own_string (P := P) w base t u o.type e i ht hu hi hz hsize hby v _ _ hown str (by simpa using h63) (by simpa using hbytes) hbase
  unfold Oper.wp execOp
  simp only [ho, resolve, invoke, builtin, Sem.run_bind, Sem.run_pure, Result.andThen_ok, List.map_toArray, List.map_cons, List.map_nil, hs, hx, hrun]
  refine hK _ _ (h v' w' ?_ ?_)
  · unfold ORow
    have e1 : (l ++ str.data.toList).map bV = l.map bV ++ Lib.strCells str := by rw [List.map_append]; rfl
    have e2 : (l.map bV ++ Lib.strCells str).length = (l.map bV).length + str.size := by rw [List.length_append, Lib.strCells_length]
    rw [e1, e2]
    exact h2
  · refine ⟨h3.os, h3.tape, h3.output, h3.size, fun k hk => h3.block k (by omega) fun hc => ?_⟩
    have := World.ownsRow.lt hown k hc.symm
    omega
end

theorem Tryz.info5 : (Tryz.prog.info? 5).map (fun i => (i.zero, i.size, i.bytes)) = some (some (.int .u8 0), 1, 1) := by kernel_rfl
theorem put_str {w : World} {base : Nat} {v : Value} (l : List UInt8) (h : ORow w base 5 v (l.map bV)) : (convert 22 9 v).run Tryz.prog w = .ok (.string ⟨l.toArray⟩) w :=
  run_string_of_row _ _ l Tryz.underlying22 Tryz.underlying5 Tryz.underlying9 h

/-- One element appended; the block of its own has the number g. -/
theorem wp_app1g {P : Program} {w : World} {ops : Array Oper} {rest : List Oper} {o : Oper} {a : Act} {Q : Exit → Act → World → Prop} (hgd : o.guard = none) (s x : Operand) (t : TypeId)
    (ho : o.op = .call { callee := .builtin .append, args := #[s, x], argTypes := #[t, t] })
    (base : Nat) (e : TypeId) (z : Value) (bytes : Nat) (ht : P.underlying t = some (.slice e)) (hinfo : (P.info? e).map (fun i => (i.zero, i.size, i.bytes)) = some (some z, 1, bytes)) (hz1 : z.cells.size = 1)
    (v : Value) (xs : List Value) (u : Value) (hs : a.eval s = v) (hown : ORow w base e v xs) (hu : u.oneCell' = true)
    (c g : Nat) (hx : a.eval x = .slice (some ⟨g, 0, none⟩) 1 c) (hg : g = w.heap.size)
    (h63 : xs.length + 1 ≤ maxLen) (hbytes : (xs.length + 1) * bytes ≤ 140737488355328) (hbase : base ≤ w.heap.size)
    (h : ∀ v' w', ORow w' base e v' (xs ++ [u]) → Below base w w' → wpList P ops Q rest (a.put o.dst v') w') :
    wpList P ops Q (o :: rest) a (w.alloc (.cells #[u] e)) := by
  subst hg
  exact wp_app1b hgd s x t ho base e z bytes ht hinfo hz1 v xs u hs hown hu c hx h63 hbytes hbase h
theorem row_cells {w : World} {B : Nat} {v : Value} {l r : List UInt8} {n : Nat} (hn : n = l.length + r.length) (h : w.ownsRow B 5 1 v n (l.map bV ++ Lib.byteCells r)) : ORow w B 5 v ((l ++ r).map bV) := by
  unfold ORow
  have e1 : (l ++ r).map bV = l.map bV ++ Lib.byteCells r := by rw [List.map_append]; rfl
  rw [e1, List.length_append, List.length_map, Lib.byteCells_length, ← hn]
  exact h
theorem row_snoc {w : World} {B : Nat} {v : Value} {l : List UInt8} {b : UInt8} (h : ORow w B 5 v (l.map bV ++ [.int .u8 (b.toNat : Int)])) : ORow w B 5 v ((l ++ [b]).map bV) := by
  have e1 : (l ++ [b]).map bV = l.map bV ++ [.int .u8 (b.toNat : Int)] := by rw [List.map_append]; rfl
  rw [e1]
  exact h
theorem ret_str {a b : List UInt8} (h : a = b) : Ending.returned (.string ⟨a.toArray⟩) = .returned (.string ⟨b.toArray⟩) := by rw [h]
set_option linter.unusedSectionVars false
variable [Tab]

set_option maxRecDepth 100000

set_option maxHeartbeats 1000000 in
theorem form_any (v : Val) (w : World) (hw : StdW w) (hp : -999 ≤ v.pow ∧ v.pow ≤ 999) (hd : v.digs.length ≤ 1000) :
    Calls Tryz.prog 55 #[decA v] w fun e w' => e = .returned (.string ⟨(formL v).toArray⟩) ∧ Below w.heap.size w w' := by
  obtain ⟨n, D, p⟩ := v
  simp only at hp hd
  obtain ⟨p1, p2⟩ := hp
  have hsz : (⟨D.toArray⟩ : ByteArray).size ≤ 1000 := by simp [ByteArray.size]; omega
  by_cases h0 : D = []
  · subst h0
    unfold decA sgI
    simp only
    simp only [if_true]
    go_enter Tryz.func55, Tryz.ntmps55
    go_wp2
    go_ret
    exact ⟨rfl, (Below.refl _ _).alloc (Nat.le_refl _) _⟩
  · have hS : sgI ⟨n, D, p⟩ = if n then -1 else 1 := by unfold sgI; rw [if_neg h0]
    have hF : formL ⟨n, D, p⟩ = (if n then [45] else []) ++ D ++ tailI p := by unfold formL; rw [if_neg h0]
    unfold decA
    simp only
    rw [hS, hF]
    clear h0 hS hF
    have HB := Blk.new w 112 #[.int .i64 (if n then -1 else 1), .string ⟨D.toArray⟩, .int .i64 p]
    have hb0 : Below w.heap.size w (w.alloc (.cells #[.int .i64 (if n then -1 else 1), .string ⟨D.toArray⟩, .int .i64 p] 112)) := (Below.refl _ _).alloc (Nat.le_refl _) _
    have htab := Lib.tabBelow_of_tabIs (hw.below hb0).pow
    have hnil := ORow.nil (w.alloc (.cells #[.int .i64 (if n then -1 else 1), .string ⟨D.toArray⟩, .int .i64 p] 112)) (w.heap.size + 1) 5
    rw [show (w.alloc (.cells #[.int .i64 (if n then -1 else 1), .string ⟨D.toArray⟩, .int .i64 p] 112)).heap.size = w.heap.size + 1 from by simp] at htab
    have hsz1 : w.heap.size + 1 ≤ (w.alloc (.cells #[.int .i64 (if n then -1 else 1), .string ⟨D.toArray⟩, .int .i64 p] 112)).heap.size := by simp
    have hs0 := hsz1
    cases n
    · simp only [Bool.false_eq_true, if_false] at *
      by_cases hz : p = 0
      · have hb : (p != 0) = false := by simp [hz]
        have hT : tailI p = [] := by unfold tailI; rw [if_pos hz]
        have HT := Lib.hid hT
        clear hz hT
        go_enter Tryz.func55, Tryz.ntmps55
        go_wp2_with (first
          | (at_builtin; refine wp_appS rfl _ _ 22 9 rfl (w.heap.size + 1) 5 Tryz.underlying22 Tryz.underlying9 Tryz.info5 _ [] rfl (by exact hnil) _ rfl (by simp [maxLen] <;> omega) (by simp <;> omega) hs0 ?_; intro v1 w1 hown1 hc1; have hb1 := hc1; have HB1 := HB.below hb1 (by simp); have d1 : w1.cell? ⟨w.heap.size, 2, none⟩ = some (.int .i64 p) := HB1.cell 2; have hs1 := Nat.le_trans hsz1 hb1.size))
        have hstr := put_str _ hown1
        clear hnil HB
        go_wp2
        first | rw [hstr] | skip
        go_wp2
        go_ret
        refine ⟨ret_str (by simp [HT.out]), hb0.trans (hb1.mono (by simp))⟩
      · have hb : (p != 0) = true := by simp [hz]
        have hT : tailI p = 101 :: itoaT Tab.zs p := by unfold tailI; rw [if_neg hz]
        have HT := Lib.hid hT
        clear hz hT
        go_enter Tryz.func55, Tryz.ntmps55
        go_wp2_with (first
          | (at_builtin; refine wp_appS rfl _ _ 22 9 rfl (w.heap.size + 1) 5 Tryz.underlying22 Tryz.underlying9 Tryz.info5 _ [] rfl (by exact hnil) _ rfl (by simp [maxLen] <;> omega) (by simp <;> omega) hs0 ?_; intro v1 w1 hown1 hc1; have hb1 := hc1; have HB1 := HB.below hb1 (by simp); have d1 : w1.cell? ⟨w.heap.size, 2, none⟩ = some (.int .i64 p) := HB1.cell 2; have hs1 := Nat.le_trans hsz1 hb1.size)
          | (at_builtin; refine wp_app1b rfl _ _ 22 rfl (w.heap.size + 1) 5 (.int .u8 0) 1 Tryz.underlying22 Tryz.info5 rfl _ _ _ rfl (by exact hown1) rfl _ rfl (by simp [maxLen] <;> omega) (by simp <;> omega) hs1 ?_; intro v2 w2 howm2 hc2; have hown2 := row_snoc (b := 101) howm2; have hb2 := (hb1.trans hc2); have HB2 := HB.below hb2 (by simp); have c2 : w2.cell? ⟨w.heap.size, 1, none⟩ = some (.string ⟨D.toArray⟩) := HB2.cell 1; have d2 : w2.cell? ⟨w.heap.size, 2, none⟩ = some (.int .i64 p) := HB2.cell 2; have hs2 := Nat.le_trans hsz1 hb2.size)
          | (go_at_call 66; refine (appInt_T Tab.zs Tab.ok (w.heap.size + 1) _ p (by omega) (by omega) _ _ _ hown2 hs2 (by simp <;> omega) (htab.on hb2)).mono ?_; rintro e w3 ⟨v3, rfl, howm3, hc3⟩; have hown3 := row_cells (by simp) howm3; have hb3 := hb2.trans hc3; have hstr := put_str _ hown3))
        clear hnil HB
        go_wp2
        first | rw [hstr] | skip
        go_wp2
        go_ret
        refine ⟨ret_str (by simp [HT.out]), hb0.trans (hb3.mono (by simp))⟩
    · simp only [if_true] at *
      by_cases hz : p = 0
      · have hb : (p != 0) = false := by simp [hz]
        have hT : tailI p = [] := by unfold tailI; rw [if_pos hz]
        have HT := Lib.hid hT
        clear hz hT
        go_enter Tryz.func55, Tryz.ntmps55
        go_wp2_with (first
          | (at_builtin; refine wp_app1g rfl _ _ 22 rfl (w.heap.size + 1) 5 (.int .u8 0) 1 Tryz.underlying22 Tryz.info5 rfl _ _ _ rfl (by exact hnil) rfl _ _ rfl (by simp) (by simp [maxLen] <;> omega) (by simp <;> omega) hs0 ?_; intro v1 w1 howm1 hc1; have hown1 := row_snoc (l := []) (b := 45) howm1; have hb1 := hc1; have HB1 := HB.below hb1 (by simp); have c1 : w1.cell? ⟨w.heap.size, 1, none⟩ = some (.string ⟨D.toArray⟩) := HB1.cell 1; have d1 : w1.cell? ⟨w.heap.size, 2, none⟩ = some (.int .i64 p) := HB1.cell 2; have hs1 := Nat.le_trans hsz1 hb1.size)
          | (at_builtin; refine wp_appS rfl _ _ 22 9 rfl (w.heap.size + 1) 5 Tryz.underlying22 Tryz.underlying9 Tryz.info5 _ ([] ++ [45]) rfl (by exact hown1) _ rfl (by simp [maxLen] <;> omega) (by simp <;> omega) hs1 ?_; intro v2 w2 hown2 hc2; have hb2 := (hb1.trans hc2); have HB2 := HB.below hb2 (by simp); have d2 : w2.cell? ⟨w.heap.size, 2, none⟩ = some (.int .i64 p) := HB2.cell 2; have hs2 := Nat.le_trans hsz1 hb2.size))
        have hstr := put_str _ hown2
        clear hnil HB
        go_wp2
        first | rw [hstr] | skip
        go_wp2
        go_ret
        refine ⟨ret_str (by simp [HT.out]), hb0.trans (hb2.mono (by simp))⟩
      · have hb : (p != 0) = true := by simp [hz]
        have hT : tailI p = 101 :: itoaT Tab.zs p := by unfold tailI; rw [if_neg hz]
        have HT := Lib.hid hT
        clear hz hT
        go_enter Tryz.func55, Tryz.ntmps55
        go_wp2_with (first
          | (at_builtin; refine wp_app1g rfl _ _ 22 rfl (w.heap.size + 1) 5 (.int .u8 0) 1 Tryz.underlying22 Tryz.info5 rfl _ _ _ rfl (by exact hnil) rfl _ _ rfl (by simp) (by simp [maxLen] <;> omega) (by simp <;> omega) hs0 ?_; intro v1 w1 howm1 hc1; have hown1 := row_snoc (l := []) (b := 45) howm1; have hb1 := hc1; have HB1 := HB.below hb1 (by simp); have c1 : w1.cell? ⟨w.heap.size, 1, none⟩ = some (.string ⟨D.toArray⟩) := HB1.cell 1; have d1 : w1.cell? ⟨w.heap.size, 2, none⟩ = some (.int .i64 p) := HB1.cell 2; have hs1 := Nat.le_trans hsz1 hb1.size)
          | (at_builtin; refine wp_appS rfl _ _ 22 9 rfl (w.heap.size + 1) 5 Tryz.underlying22 Tryz.underlying9 Tryz.info5 _ ([] ++ [45]) rfl (by exact hown1) _ rfl (by simp [maxLen] <;> omega) (by simp <;> omega) hs1 ?_; intro v2 w2 hown2 hc2; have hb2 := (hb1.trans hc2); have HB2 := HB.below hb2 (by simp); have d2 : w2.cell? ⟨w.heap.size, 2, none⟩ = some (.int .i64 p) := HB2.cell 2; have hs2 := Nat.le_trans hsz1 hb2.size)
          | (at_builtin; refine wp_app1b rfl _ _ 22 rfl (w.heap.size + 1) 5 (.int .u8 0) 1 Tryz.underlying22 Tryz.info5 rfl _ _ _ rfl (by exact hown2) rfl _ rfl (by simp [maxLen] <;> omega) (by simp <;> omega) hs2 ?_; intro v3 w3 howm3 hc3; have hown3 := row_snoc (b := 101) howm3; have hb3 := (hb2.trans hc3); have HB3 := HB.below hb3 (by simp); have c3 : w3.cell? ⟨w.heap.size, 1, none⟩ = some (.string ⟨D.toArray⟩) := HB3.cell 1; have d3 : w3.cell? ⟨w.heap.size, 2, none⟩ = some (.int .i64 p) := HB3.cell 2; have hs3 := Nat.le_trans hsz1 hb3.size)
          | (go_at_call 66; refine (appInt_T Tab.zs Tab.ok (w.heap.size + 1) _ p (by omega) (by omega) _ _ _ hown3 hs3 (by simp <;> omega) (htab.on hb3)).mono ?_; rintro e w4 ⟨v4, rfl, howm4, hc4⟩; have hown4 := row_cells (by simp) howm4; have hb4 := hb3.trans hc4; have hstr := put_str _ hown4))
        clear hnil HB
        go_wp2
        first | rw [hstr] | skip
        go_wp2
        go_ret
        refine ⟨ret_str (by simp [HT.out]), hb0.trans (hb4.mono (by simp))⟩
end Go.Proofs.YtjepnddndpmnnaaGreatDoor.Nm

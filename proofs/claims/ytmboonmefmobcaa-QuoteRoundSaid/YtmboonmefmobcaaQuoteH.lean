/-
  quote's Print: appendPrinted adds what stands for a byte.
-/
import Derived.Test.YtmboonmefmobcaaQuoteG
import Derived.Deep.RegionLaw
import Derived.IntWalk
namespace Go.Proofs.Ytmboonmefmobcaa
open Go.RowKit Go.Maps
set_option maxRecDepth 100000

section
variable {P : Program} {w : World}
/-- Elements appended that lie somewhere, at a step of a region that draws its order. -/
theorem step_appS {ops : Array Oper} {o : Oper} {a : Act} {K : Act → World → Prop} {Q : Exit → Act → World → Prop} {E : Prop} (hgd : o.guard = none) (s x : Operand) (t : TypeId)
    (ho : o.op = .call { callee := .builtin .append, args := #[s, x], argTypes := #[t, t] })
    (base : Nat) (e : TypeId) (z : Value) (bytes : Nat) (ht : P.underlying t = some (.slice e)) (hinfo : (P.info? e).map (fun i => (i.zero, i.size, i.bytes)) = some (some z, 1, bytes)) (hz1 : z.cells.size = 1)
    (v : Value) (xs news : List Value) (hs : a.eval s = v) (hown : ORow w base e v xs) (hu : ∀ u ∈ news, u.oneCell' = true)
    (A : Addr) (m c : Nat) (hm : news.length = m) (hx : a.eval x = .slice (some A) m c) (hc : ∀ j u, news[j]? = some u → w.cell? (A.add j) = some u)
    (h63 : xs.length + m ≤ maxLen) (hbytes : (xs.length + m) * bytes ≤ 140737488355328) (hbase : base ≤ w.heap.size)
    (h : ∀ v' w', ORow w' base e v' (xs ++ news) → Below base w w' → K (a.put o.dst v') w') :
    if Region.wanted o (yielded ops a.tmps) = true then Oper.wp P o a w K Q else E := by
  have hw : Region.wanted o (yielded ops a.tmps) = true := by simp [Region.wanted, hgd]
  rw [if_pos hw]
  obtain ⟨i, hi, hz, hsize, hby⟩ := info_parts hinfo
  obtain ⟨v', w', hrun, h2, h3, _, h5⟩ := run_append_own_at (P := P) w base t o.type e i z 1 bytes ht hi hz hsize hby hz1 (by decide) v xs.length xs hown
    A m c news (by simp [hm]) hc hu h63 hbytes hbase
  unfold Oper.wp execOp
  simp only [ho, resolve, invoke, builtin, Sem.run_bind, Sem.run_pure, Result.andThen_ok, List.map_toArray, List.map_cons, List.map_nil, hs, hx, hrun]
  refine h v' w' ?_ ?_
  · unfold ORow
    rw [List.length_append, hm]
    exact h2
  · refine ⟨h3.os, h3.tape, h3.output, h3.size, fun k hk => h3.block k (by omega) fun hcc => ?_⟩
    have := World.ownsRow.lt hown k hcc.symm
    omega
end

/-- The cells of a block that was just made. -/
theorem cells_new (w : World) (l : List Value) (t : TypeId) : ∀ j u, l[j]? = some u → (w.alloc (.cells l.toArray t)).cell? ((⟨w.heap.size, 0, none⟩ : Addr).add j) = some u := by
  intro j u hj
  rw [addr_add0]
  exact (Blk.new w t l.toArray).cell j |>.trans (by simpa using hj)

/-- appendPrinted's word. -/
def PrPost (w : World) (base : Nat) (xs : List UInt8) (b : UInt8) (e : Ending) (w' : World) : Prop := ∃ v, e = .returned v ∧ ORow w' base 5 v ((xs ++ prB b).map bV) ∧ Below base w w'

theorem prPost_of {w w' : World} {base : Nat} {v : Value} {xs : List UInt8} {b : UInt8} {news : List Value} (h : (prB b).map bV = news) (ho : ORow w' base 5 v (xs.map bV ++ news)) (hb : Below base w w') : PrPost w base xs b (.returned v) w' :=
  ⟨v, rfl, by rw [List.map_append, h]; exact ho, hb⟩

set_option maxHeartbeats 1000000 in
theorem pr_34 (w : World) (base : Nat) (A : Option Addr) (cap : Nat) (xs : List UInt8) (b : UInt8) (ho : ORow w base 5 (.slice A xs.length cap) (xs.map bV)) (hl : xs.length ≤ 1000) (hbase : base ≤ w.heap.size)
    (HP : Hid ((prB b).map bV = [.int .u8 92, .int .u8 34])) :
    Calls Try.prog 11 #[.slice A xs.length cap, .int .u8 34] w (PrPost w base xs b) := by
  go_enter Try.func11, Try.ntmps11
  go_wp2_with (first
    | (at_builtin; refine wp_appS rfl _ _ 30 rfl base 5 (.int .u8 0) 1 Try.underlying30 Try.info5 rfl _ _ [.int .u8 92, .int .u8 34] rfl (by exact ho.alloc _) (by simp [Value.oneCell']) ⟨w.heap.size, 0, none⟩ 2 2 rfl rfl (cells_new w [.int .u8 92, .int .u8 34] 5) (by simp [maxLen]; omega) (by simp; omega) (by simp; omega) ?_; intro v1 w1 hown1 hb1))
  go_ret
  exact prPost_of HP.out hown1 (((Below.refl base w).alloc hbase _).trans hb1)

set_option maxHeartbeats 1000000 in
theorem pr_92 (w : World) (base : Nat) (A : Option Addr) (cap : Nat) (xs : List UInt8) (b : UInt8) (ho : ORow w base 5 (.slice A xs.length cap) (xs.map bV)) (hl : xs.length ≤ 1000) (hbase : base ≤ w.heap.size)
    (HP : Hid ((prB b).map bV = [.int .u8 92, .int .u8 92])) :
    Calls Try.prog 11 #[.slice A xs.length cap, .int .u8 92] w (PrPost w base xs b) := by
  go_enter Try.func11, Try.ntmps11
  go_wp2_with (first
    | (at_builtin; refine wp_appS rfl _ _ 30 rfl base 5 (.int .u8 0) 1 Try.underlying30 Try.info5 rfl _ _ [.int .u8 92, .int .u8 92] rfl (by exact ho.alloc _) (by simp [Value.oneCell']) ⟨w.heap.size, 0, none⟩ 2 2 rfl rfl (cells_new w [.int .u8 92, .int .u8 92] 5) (by simp [maxLen]; omega) (by simp; omega) (by simp; omega) ?_; intro v1 w1 hown1 hb1))
  go_ret
  exact prPost_of HP.out hown1 (((Below.refl base w).alloc hbase _).trans hb1)

set_option maxHeartbeats 1000000 in
theorem pr_10 (w : World) (base : Nat) (A : Option Addr) (cap : Nat) (xs : List UInt8) (b : UInt8) (ho : ORow w base 5 (.slice A xs.length cap) (xs.map bV)) (hl : xs.length ≤ 1000) (hbase : base ≤ w.heap.size)
    (HP : Hid ((prB b).map bV = [.int .u8 92, .int .u8 110])) :
    Calls Try.prog 11 #[.slice A xs.length cap, .int .u8 10] w (PrPost w base xs b) := by
  go_enter Try.func11, Try.ntmps11
  go_wp2_with (first
    | (at_builtin; refine wp_appS rfl _ _ 30 rfl base 5 (.int .u8 0) 1 Try.underlying30 Try.info5 rfl _ _ [.int .u8 92, .int .u8 110] rfl (by exact ho.alloc _) (by simp [Value.oneCell']) ⟨w.heap.size, 0, none⟩ 2 2 rfl rfl (cells_new w [.int .u8 92, .int .u8 110] 5) (by simp [maxLen]; omega) (by simp; omega) (by simp; omega) ?_; intro v1 w1 hown1 hb1))
  go_ret
  exact prPost_of HP.out hown1 (((Below.refl base w).alloc hbase _).trans hb1)

set_option maxHeartbeats 1000000 in
theorem pr_9 (w : World) (base : Nat) (A : Option Addr) (cap : Nat) (xs : List UInt8) (b : UInt8) (ho : ORow w base 5 (.slice A xs.length cap) (xs.map bV)) (hl : xs.length ≤ 1000) (hbase : base ≤ w.heap.size)
    (HP : Hid ((prB b).map bV = [.int .u8 92, .int .u8 116])) :
    Calls Try.prog 11 #[.slice A xs.length cap, .int .u8 9] w (PrPost w base xs b) := by
  go_enter Try.func11, Try.ntmps11
  go_wp2_with (first
    | (at_builtin; refine wp_appS rfl _ _ 30 rfl base 5 (.int .u8 0) 1 Try.underlying30 Try.info5 rfl _ _ [.int .u8 92, .int .u8 116] rfl (by exact ho.alloc _) (by simp [Value.oneCell']) ⟨w.heap.size, 0, none⟩ 2 2 rfl rfl (cells_new w [.int .u8 92, .int .u8 116] 5) (by simp [maxLen]; omega) (by simp; omega) (by simp; omega) ?_; intro v1 w1 hown1 hb1))
  go_ret
  exact prPost_of HP.out hown1 (((Below.refl base w).alloc hbase _).trans hb1)

set_option maxHeartbeats 1000000 in
theorem pr_13 (w : World) (base : Nat) (A : Option Addr) (cap : Nat) (xs : List UInt8) (b : UInt8) (ho : ORow w base 5 (.slice A xs.length cap) (xs.map bV)) (hl : xs.length ≤ 1000) (hbase : base ≤ w.heap.size)
    (HP : Hid ((prB b).map bV = [.int .u8 92, .int .u8 114])) :
    Calls Try.prog 11 #[.slice A xs.length cap, .int .u8 13] w (PrPost w base xs b) := by
  go_enter Try.func11, Try.ntmps11
  go_wp2_with (first
    | (at_builtin; refine wp_appS rfl _ _ 30 rfl base 5 (.int .u8 0) 1 Try.underlying30 Try.info5 rfl _ _ [.int .u8 92, .int .u8 114] rfl (by exact ho.alloc _) (by simp [Value.oneCell']) ⟨w.heap.size, 0, none⟩ 2 2 rfl rfl (cells_new w [.int .u8 92, .int .u8 114] 5) (by simp [maxLen]; omega) (by simp; omega) (by simp; omega) ?_; intro v1 w1 hown1 hb1))
  go_ret
  exact prPost_of HP.out hown1 (((Below.refl base w).alloc hbase _).trans hb1)

set_option maxHeartbeats 1000000 in
theorem pr_char (w : World) (base : Nat) (A : Option Addr) (cap : Nat) (xs : List UInt8) (b : UInt8) (bi : Int) (ho : ORow w base 5 (.slice A xs.length cap) (xs.map bV)) (hl : xs.length ≤ 1000) (hbase : base ≤ w.heap.size)
    (HP : Hid ((prB b).map bV = [.int .u8 bi])) (h0 : 32 ≤ bi) (h1 : bi ≤ 255) (h2 : (bi == 34) = false) (h3 : (bi == 92) = false) :
    Calls Try.prog 11 #[.slice A xs.length cap, .int .u8 bi] w (PrPost w base xs b) := by
  go_enter Try.func11, Try.ntmps11
  go_wp2_with (first
    | (at_builtin; refine wp_appS rfl _ _ 30 rfl base 5 (.int .u8 0) 1 Try.underlying30 Try.info5 rfl _ _ [.int .u8 bi] rfl (by exact ho.alloc _) (by simp [Value.oneCell']) ⟨w.heap.size, 0, none⟩ 1 1 rfl rfl (cells_new w [.int .u8 bi] 5) (by simp [maxLen]; omega) (by simp; omega) (by simp; omega) ?_; intro v1 w1 hown1 hb1))
  go_ret
  exact prPost_of HP.out hown1 (((Below.refl base w).alloc hbase _).trans hb1)

end Go.Proofs.Ytmboonmefmobcaa

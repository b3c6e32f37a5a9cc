/-
  quote's Print: appendPrinted at a byte that is written with its digits; the text of a text.
-/
import Derived.Test.YtmboonmefmobcaaQuoteH
namespace Go.Proofs.Ytmboonmefmobcaa
open Go.RowKit Go.Maps
set_option maxRecDepth 100000

theorem hexAt_all : ∀ m : Fin 16, (((⟨#[48, 49, 50, 51, 52, 53, 54, 55, 56, 57, 97, 98, 99, 100, 101, 102]⟩ : ByteArray)[m.val]'(by have := m.isLt; exact this)).toNat : Int) = hexD (m.val : Int) := by decide
theorem hexAt (n : Int) (h0 : 0 ≤ n) (h1 : n < 16) (h : n.toNat < (⟨#[48, 49, 50, 51, 52, 53, 54, 55, 56, 57, 97, 98, 99, 100, 101, 102]⟩ : ByteArray).size) :
    (((⟨#[48, 49, 50, 51, 52, 53, 54, 55, 56, 57, 97, 98, 99, 100, 101, 102]⟩ : ByteArray)[n.toNat]'h).toNat : Int) = hexD n := by
  have := hexAt_all ⟨n.toNat, h⟩
  simp only at this
  rw [this]
  congr 1
  omega

section
variable {P : Program} {w : World}
/-- Elements appended that were laid in a new block just before, at a step of a region that draws its order. -/
theorem step_appN {ops : Array Oper} {o : Oper} {a : Act} {K : Act → World → Prop} {Q : Exit → Act → World → Prop} {E : Prop} (hgd : o.guard = none) (s x : Operand) (t : TypeId)
    (ho : o.op = .call { callee := .builtin .append, args := #[s, x], argTypes := #[t, t] })
    (base : Nat) (e : TypeId) (z : Value) (bytes : Nat) (ht : P.underlying t = some (.slice e)) (hinfo : (P.info? e).map (fun i => (i.zero, i.size, i.bytes)) = some (some z, 1, bytes)) (hz1 : z.cells.size = 1)
    (v : Value) (xs : List Value) (C : Array Value) (m : Nat) (hs : a.eval s = v) (hown : ORow w base e v xs) (hu : ∀ u ∈ C.toList, u.oneCell' = true) (hm : C.size = m)
    (c : Nat) (hx : a.eval x = .slice (some ⟨w.heap.size, 0, none⟩) m c)
    (h63 : xs.length + m ≤ maxLen) (hbytes : (xs.length + m) * bytes ≤ 140737488355328) (hbase : base ≤ w.heap.size)
    (h : ∀ v' w', ORow w' base e v' (xs ++ C.toList) → Below base w w' → K (a.put o.dst v') w') :
    if Region.wanted o (yielded ops a.tmps) = true then Oper.wp P o a ((w.alloc (.cells C e)).drew) K Q else E := by
  refine step_appS hgd s x t ho base e z bytes ht hinfo hz1 v xs C.toList hs (hown.alloc _).drew hu ⟨w.heap.size, 0, none⟩ m c hm hx (cells_new w C.toList e) h63 hbytes (by simp; omega) fun v' w' h1 h2 => h v' w' h1 ?_
  exact (below_drew ((Below.refl base w).alloc hbase _)).trans h2
end

set_option maxHeartbeats 1000000 in
theorem pr_ctl (w : World) (base : Nat) (A : Option Addr) (cap : Nat) (xs : List UInt8) (b : UInt8) (bi : Int) (ho : ORow w base 5 (.slice A xs.length cap) (xs.map bV)) (hl : xs.length ≤ 1000) (hbase : base ≤ w.heap.size)
    (HP : Hid ((prB b).map bV = [.int .u8 92, .int .u8 117, .int .u8 48, .int .u8 48, .int .u8 (hexD (bi / 16)), .int .u8 (hexD (bi % 16))])) (h0 : 0 ≤ bi) (h1 : bi < 32) (h2 : (bi == 10) = false) (h3 : (bi == 9) = false) (h4 : (bi == 13) = false) :
    Calls Try.prog 11 #[.slice A xs.length cap, .int .u8 bi] w (PrPost w base xs b) := by
  have e34 : (bi == 34) = false := beq_eq_false_iff_ne.2 (by omega)
  have e92 : (bi == 92) = false := beq_eq_false_iff_ne.2 (by omega)
  have e4 := u8_and15 bi h0 (show bi < 256 by omega)
  go_enter Try.func11, Try.ntmps11
  have q0 : 0 ≤ bi / 16 := by omega
  have q1 : bi / 16 < 16 := by omega
  have q2 : 0 ≤ bi % 16 := by omega
  have q3 : bi % 16 < 16 := by omega
  go_wp2_with fail
  go_region_law ((refine step_appN (by rfl) (.tmp 30) (.tmp 37) 30 (by rfl) base 5 (.int .u8 0) 1 Try.underlying30 Try.info5 (by rfl) _ _ _ 6 (by rfl) (by exact ho) (by simp [Value.oneCell']) (by rfl) _ (by rfl) (by simp [maxLen]; omega) (by simp; omega) (by omega) ?_; intro v1 w1 hown1 hb1))
  all_goals
    go_wp2
    go_ret
    rw [hexAt _ q0 q1, hexAt _ q2 q3] at hown1
    exact prPost_of HP.out hown1 hb1
end Go.Proofs.Ytmboonmefmobcaa

/-
  Rows that the call itself made, of elements of one cell: what append, conversion to a string and reading do with them. Conditions: as each theorem says.
-/
import Derived.Test.YtmboonmefmobcaaMem
import Derived.Maps.AppendAt
import Derived.Laws.BytesString
import Derived.Laws.IdiomStrings
import Derived.Lib.BufferRead
import Derived.Deep.AppendLies
namespace Go.Proofs.Ytmboonmefmobcaa
open Go.RowKit

/-- The slice v owns the cells xs, one cell an element. -/
def ORow (w : World) (base : Nat) (e : TypeId) (v : Value) (xs : List Value) : Prop := w.ownsRow base e 1 v xs.length xs

section
variable {P : Program} {w w' : World} {base : Nat} {e : TypeId} {v : Value} {xs : List Value}
theorem ORow.nil (w : World) (base : Nat) (e : TypeId) : ORow w base e (.slice none 0 0) [] := World.ownsRow_nil w base e 1
theorem ORow.alloc (h : ORow w base e v xs) (o : Obj) : ORow (w.alloc o) base e v xs := World.ownsRow.alloc h o
theorem ORow.drew (h : ORow w base e v xs) : ORow w.drew base e v xs := h
theorem ORow.drewN (h : ORow w base e v xs) (n : Nat) : ORow (w.drewN n) base e v xs := h
theorem ORow.kept {row : Option Nat} (h : ORow w base e v xs) (hg : w.grownBy w' row) (hne : v.ownBlock = none ∨ v.ownBlock ≠ row) : ORow w' base e v xs := World.ownsRow.kept h hg hne
theorem ORow.mono {b : Nat} (h : ORow w base e v xs) (hb : b ≤ base) : ORow w b e v xs := by
  refine ⟨h.1, ?_⟩
  rcases h.2 with hn | ⟨g, cap, cur, hv, hg, r⟩
  · exact .inl hn
  · exact .inr ⟨g, cap, cur, hv, Nat.le_trans hb hg, r⟩
theorem ORow.below {B : Nat} (h : ORow w base e v xs) (hb : Below B w w') (hB : ∀ g, v.ownBlock = some g → g < B) : ORow w' base e v xs := by
  refine ⟨h.1, ?_⟩
  rcases h.2 with hn | ⟨g, cap, cur, hv, hg, hh, r⟩
  · exact .inl hn
  · refine .inr ⟨g, cap, cur, hv, hg, ?_, r⟩
    rw [hb.block g (hB g (by rw [hv]; rfl))]
    exact hh
/-- The form of the value: nil, or at the head of a block. -/
theorem ORow.form (h : ORow w base e v xs) : (v = .slice none 0 0 ∧ xs = []) ∨ ∃ g cap, v = .slice (some ⟨g, 0, none⟩) xs.length cap ∧ base ≤ g ∧ g < w.heap.size ∧ xs.length ≤ cap ∧ cap ≤ maxLen := by
  rcases h.2 with ⟨hn, h0⟩ | ⟨g, cap, cur, hv, hg, hh, hnc, hm, _⟩
  · exact .inl ⟨hn, List.eq_nil_of_length_eq_zero h0⟩
  · exact .inr ⟨g, cap, hv, hg, Blk.lt hh, hnc, hm⟩
theorem ORow.lit (w : World) (base : Nat) (e : TypeId) (cs : Array Value) (hb : base ≤ w.heap.size) (hm : cs.size ≤ maxLen) : ORow (w.alloc (.cells cs e)) base e (.slice (some ⟨w.heap.size, 0, none⟩) cs.size cs.size) cs.toList := by
  have := World.ownsRow_lit (base := base) (e := e) (size := 1) w cs cs.size hb hm (by simp)
  simpa [ORow] using this
theorem ORow.shape (h : ORow w base e v xs) : ∃ A cap, v = .slice A xs.length cap := by
  rcases h.form with ⟨rfl, rfl⟩ | ⟨g, cap, rfl, _⟩
  · exact ⟨_, _, rfl⟩
  · exact ⟨_, _, rfl⟩
theorem ORow.cell {A : Option Addr} {n cap : Nat} (h : ORow w base e (.slice A n cap) xs) {k : Nat} (hk : k < xs.length) :
    ∃ g, A = some ⟨g, 0, none⟩ ∧ base ≤ g ∧ g < w.heap.size ∧ w.cell? ⟨g, k, none⟩ = some xs[k] := by
  rcases h.form with ⟨hv, rfl⟩ | ⟨g, cap', hv, hg, hl, _⟩
  · simp at hk
  · injection hv with h1 h2 h3
    subst h1 h2 h3
    refine ⟨g, rfl, hg, hl, ?_⟩
    rw [World.ownsRow.cellAt h k (by omega)]
    exact List.getElem?_eq_getElem hk
theorem ORow.block {A : Option Addr} {n cap g : Nat} (h : ORow w base e (.slice A n cap) xs) (hA : A = some ⟨g, 0, none⟩) : base ≤ g ∧ g < w.heap.size := by
  rcases h.form with ⟨hv, rfl⟩ | ⟨g', cap', hv, hg, hl, _⟩
  · injection hv with h1; rw [hA] at h1; cases h1
  · injection hv with h1
    rw [hA] at h1
    injection h1 with h1
    injection h1 with h1
    subst h1
    exact ⟨hg, hl⟩

theorem ORow.own_ge (h : ORow w base e v xs) {g : Nat} (hg : v.ownBlock = some g) : base ≤ g := (World.ownsRow.lt h g hg).1
theorem ORow.not_own (h : ORow w base e v xs) {g : Nat} (hg : g < base) : some g ≠ v.ownBlock := fun hc => by have := h.own_ge hc.symm; omega
theorem ORow.kept_far {g : Nat} (h : ORow w base e v xs) (hg : w.grownBy w' (some g)) (hlt : g < base) : ORow w' base e v xs := h.kept hg (.inr fun hc => h.not_own hlt hc.symm)
theorem below_row {a : World} {B : Nat} (h : Below B a w) (k : w.grownBy w' v.ownBlock) (hr : ORow w base e v xs) (hB : B ≤ w.heap.size) (hbase : B ≤ base) : Below B a w' :=
  ⟨k.os.trans h.os, k.tape.trans h.tape, k.output.trans h.output, Nat.le_trans h.size k.size, fun i hi => (k.block i (by omega) (hr.not_own (by omega))).trans (h.block i hi)⟩

/-- One element appended: the value was laid in a new block of its own just before. -/
theorem wp_app1 {ops : Array Oper} {rest : List Oper} {o : Oper} {a : Act} {Q : Exit → Act → World → Prop} (hgd : o.guard = none) (s x : Operand) (t : TypeId)
    (ho : o.op = .call { callee := .builtin .append, args := #[s, x], argTypes := #[t, t] })
    (base : Nat) (e : TypeId) (z : Value) (bytes : Nat) (ht : P.underlying t = some (.slice e)) (hinfo : (P.info? e).map (fun i => (i.zero, i.size, i.bytes)) = some (some z, 1, bytes)) (hz1 : z.cells.size = 1)
    (v : Value) (xs : List Value) (u : Value) (hs : a.eval s = v) (hown : ORow w base e v xs) (hu : u.oneCell' = true)
    (c : Nat) (hx : a.eval x = .slice (some ⟨w.heap.size, 0, none⟩) 1 c)
    (h63 : xs.length + 1 ≤ maxLen) (hbytes : (xs.length + 1) * bytes ≤ 140737488355328) (hbase : base ≤ w.heap.size)
    (h : ∀ v' w', ORow w' base e v' (xs ++ [u]) → w.grownBy w' v.ownBlock → (v'.ownBlock = v.ownBlock ∨ v'.ownBlock = some (w.heap.size + 1)) → wpList P ops Q rest (a.put o.dst v') w') :
    wpList P ops Q (o :: rest) a (w.alloc (.cells #[u] e)) := by
  obtain ⟨i, hi, hz, hsize, hby⟩ := info_parts hinfo
  refine wpList_plain hgd fun K hK => ?_
  obtain ⟨v', w', hrun, h2, h3, _, h5⟩ := run_append_own_at (P := P) (w.alloc (.cells #[u] e)) base t o.type e i z 1 bytes ht hi hz hsize hby hz1 (by decide) v xs.length xs (World.ownsRow.alloc hown _)
    ⟨w.heap.size, 0, none⟩ 1 c [u] rfl (cell_one_new w u e) (fun y hy => by simp at hy; subst hy; exact hu) h63 hbytes (by simp; omega)
  unfold Oper.wp execOp
  simp only [ho, resolve, invoke, builtin, Sem.run_bind, Sem.run_pure, Result.andThen_ok, List.map_toArray, List.map_cons, List.map_nil, hs, hx, hrun]
  refine hK _ _ (h v' w' ?_ ?_ ?_)
  · unfold ORow
    rw [List.length_append]
    exact h2
  · exact ⟨h3.os, h3.tape, h3.output, Nat.le_trans (by simp) h3.size, fun k hk hne => (h3.block k (by simp; omega) hne).trans (Below.heap_alloc w _ k hk)⟩
  · simpa using h5

/-- The same where only the blocks below base matter. -/
theorem wp_app1b {ops : Array Oper} {rest : List Oper} {o : Oper} {a : Act} {Q : Exit → Act → World → Prop} (hgd : o.guard = none) (s x : Operand) (t : TypeId)
    (ho : o.op = .call { callee := .builtin .append, args := #[s, x], argTypes := #[t, t] })
    (base : Nat) (e : TypeId) (z : Value) (bytes : Nat) (ht : P.underlying t = some (.slice e)) (hinfo : (P.info? e).map (fun i => (i.zero, i.size, i.bytes)) = some (some z, 1, bytes)) (hz1 : z.cells.size = 1)
    (v : Value) (xs : List Value) (u : Value) (hs : a.eval s = v) (hown : ORow w base e v xs) (hu : u.oneCell' = true)
    (c : Nat) (hx : a.eval x = .slice (some ⟨w.heap.size, 0, none⟩) 1 c)
    (h63 : xs.length + 1 ≤ maxLen) (hbytes : (xs.length + 1) * bytes ≤ 140737488355328) (hbase : base ≤ w.heap.size)
    (h : ∀ v' w', ORow w' base e v' (xs ++ [u]) → Below base w w' → wpList P ops Q rest (a.put o.dst v') w') :
    wpList P ops Q (o :: rest) a (w.alloc (.cells #[u] e)) := by
  refine wp_app1 hgd s x t ho base e z bytes ht hinfo hz1 v xs u hs hown hu c hx h63 hbytes hbase fun v' w' h1 h2 _ => h v' w' h1 ?_
  refine ⟨h2.os, h2.tape, h2.output, h2.size, fun k hk => h2.block k (by omega) fun hc => ?_⟩
  have := World.ownsRow.lt hown k hc.symm
  omega
end

section
variable {P : Program} {w : World}
/-- Several elements appended at once, laid in a new block of their own just before. -/
theorem wp_appNb {ops : Array Oper} {rest : List Oper} {o : Oper} {a : Act} {Q : Exit → Act → World → Prop} (hgd : o.guard = none) (s x : Operand) (t : TypeId)
    (ho : o.op = .call { callee := .builtin .append, args := #[s, x], argTypes := #[t, t] })
    (base : Nat) (e : TypeId) (z : Value) (bytes : Nat) (ht : P.underlying t = some (.slice e)) (hinfo : (P.info? e).map (fun i => (i.zero, i.size, i.bytes)) = some (some z, 1, bytes)) (hz1 : z.cells.size = 1)
    (v : Value) (xs : List Value) (C : Array Value) (m : Nat) (hs : a.eval s = v) (hown : ORow w base e v xs) (hu : ∀ u ∈ C.toList, u.oneCell' = true) (hm : C.size = m)
    (c : Nat) (hx : a.eval x = .slice (some ⟨w.heap.size, 0, none⟩) m c)
    (h63 : xs.length + m ≤ maxLen) (hbytes : (xs.length + m) * bytes ≤ 140737488355328) (hbase : base ≤ w.heap.size)
    (h : ∀ v' w', ORow w' base e v' (xs ++ C.toList) → Below base w w' → wpList P ops Q rest (a.put o.dst v') w') :
    wpList P ops Q (o :: rest) a (w.alloc (.cells C e)) := by
  obtain ⟨i, hi, hz, hsize, hby⟩ := info_parts hinfo
  refine wpList_plain hgd fun K hK => ?_
  have hb0 : (w.alloc (.cells C e)).heap[w.heap.size]? = some (.cells C e (0, 0)) := heap_alloc_new w _
  obtain ⟨v', w', hrun, h2, h3, _, h5⟩ := run_append_own_at (P := P) (w.alloc (.cells C e)) base t o.type e i z 1 bytes ht hi hz hsize hby hz1 (by decide) v xs.length xs (World.ownsRow.alloc hown _)
    ⟨w.heap.size, 0, none⟩ m c C.toList (by simp [hm]) (World.news_of_block hb0) hu h63 hbytes (by simp; omega)
  unfold Oper.wp execOp
  simp only [ho, resolve, invoke, builtin, Sem.run_bind, Sem.run_pure, Result.andThen_ok, List.map_toArray, List.map_cons, List.map_nil, hs, hx, hrun]
  refine hK _ _ (h v' w' ?_ ?_)
  · unfold ORow
    rw [List.length_append, show C.toList.length = m from hm]
    exact h2
  · refine ⟨h3.os, h3.tape, h3.output, Nat.le_trans (by simp) h3.size, fun k hk => (h3.block k (by simp; omega) fun hc => ?_).trans (Below.heap_alloc w _ k (by omega))⟩
    have := World.ownsRow.lt hown k hc.symm
    omega
end

/-! Bytes. -/
def bV (b : UInt8) : Value := .int .u8 (b.toNat : Int)
def iV (n : Int) : Value := .int .i64 n
theorem bV_of (n : Int) (h0 : 0 ≤ n) (h1 : n < 256) : Value.int .u8 n = bV (UInt8.ofNat n.toNat) := by
  unfold bV
  have e1 : (UInt8.ofNat n.toNat).toNat = n.toNat := UInt8.toNat_ofNat_of_lt' (show n.toNat < 256 by omega)
  rw [e1]
  congr 1
  omega

section
variable {P : Program} {w w' : World} {base : Nat} {e : TypeId} {v : Value}
/-- string(b), b nil or the call's own. -/
theorem run_string_of_row (src dst : TypeId) (l : List UInt8) (hs : P.underlying src = some (.slice e)) (he : P.underlying e = some (.int .u8)) (hd : P.underlying dst = some .string) (h : ORow w base e v (l.map bV)) :
    (convert src dst v).run P w = .ok (.string ⟨l.toArray⟩) w := by
  rcases h.form with ⟨rfl, hn⟩ | ⟨g, cap, hv, _⟩
  · have : l = [] := by simpa using hn
    subst this
    exact Lib.run_convert_nil_bytes w src dst e 0 hs he hd
  · subst hv
    simp only [List.length_map]
    refine run_convert_bytes_back w src dst e ⟨g, 0, none⟩ cap l hs he hd fun j hj => ?_
    have hj' : j < (l.map bV).length := by simpa using hj
    obtain ⟨g', hg, _, _, hc⟩ := h.cell hj'
    injection hg with hg
    injection hg with hg
    subst hg
    have e1 : (⟨g, 0, none⟩ : Addr).add j = ⟨g, j, none⟩ := by unfold Addr.add; split <;> simp_all
    rw [e1, hc]
    simp [bV]
end

end Go.Proofs.Ytmboonmefmobcaa

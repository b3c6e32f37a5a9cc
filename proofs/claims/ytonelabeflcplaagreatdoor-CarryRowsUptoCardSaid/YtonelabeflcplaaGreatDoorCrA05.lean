/-
  Memory words: a block that is known whole, worlds in which one block has turned, small laws.
  Rows that the call itself made, of elements of one cell: what append, conversion to a string and reading do with them. Conditions: as each theorem says.
  Contracts of the small functions of src and of its reference: pure computations on numbers.
  A scope out of which the run jumps forward, a few times at most: to whichever label.
  Put's contract: the bytes of a character, or none.
  Slices of ints and of bytes that can be read: nil, or their cells at an address.
  Quoted strings as plain functions on bytes: the machine of steps, its run, what is printed, and that it is read again. No program is read here.
-/
import Derived.WalkKit
import Derived.Below
import Derived.Laws.OwnMore
import Derived.Deep.Draws
import Derived.Laws.Rows
import Derived.Deep.OwnRows
import Derived.OwnWalk
import Derived.Maps.AppendAt
import Derived.Laws.BytesString
import Derived.Laws.IdiomStrings
import Derived.Lib.BufferRead
import Derived.Deep.AppendLies
import Derived.Test.YtonelabeflcplaaGreatDoorChecked
import Derived.Test.YtonelabeflcplaaGreatDoorCrA01
import Derived.WalkSpells
import Derived.WalkLawsBesides
import Derived.Lib.Hide
import Derived.WalkMore
import Derived.ScopeJumps
namespace Go.Proofs.YtonelabeflcplaaGreatDoor
open Go.RowKit

def Blk (w : World) (g : Nat) (t : TypeId) (cs : Array Value) : Prop := w.heap[g]? = some (.cells cs t (0, 0))

section
variable {w w' : World} {g : Nat} {t : TypeId} {cs : Array Value}
theorem Blk.lt (h : Blk w g t cs) : g < w.heap.size := by
  rcases Nat.lt_or_ge g w.heap.size with hlt | hge
  · exact hlt
  · unfold Blk at h; rw [Array.getElem?_eq_none hge] at h; cases h
theorem Blk.cell (h : Blk w g t cs) (i : Nat) : w.cell? ⟨g, i, none⟩ = cs[i]? := cell_of_row w g i cs t (0, 0) h
theorem Blk.frozen (h : Blk w g t cs) (i : Nat) : w.frozen? ⟨g, i, none⟩ = false := by
  unfold Blk at h
  simp [World.frozen?, h]
theorem Blk.new (w : World) (t : TypeId) (cs : Array Value) : Blk (w.alloc (.cells cs t)) w.heap.size t cs := heap_alloc_new w _
theorem Blk.drew (h : Blk w g t cs) : Blk w.drew g t cs := h
theorem Blk.drewN (h : Blk w g t cs) (n : Nat) : Blk (w.drewN n) g t cs := h
theorem Blk.alloc (h : Blk w g t cs) (o : Obj) : Blk (w.alloc o) g t cs := (Below.heap_alloc w o g h.lt).trans h
theorem Blk.set_ (h : Blk w g t cs) (i : Nat) (u : Value) : Blk (w.setCell ⟨g, i, none⟩ u) g t (cs.setIfInBounds i u) := by
  unfold Blk at h ⊢
  simp [World.setCell, Array.getElem?_modify, h]
theorem Blk.far (h : Blk w g t cs) {p : Addr} (hp : g ≠ p.block) (u : Value) : Blk (w.setCell p u) g t cs := (Below.heap_setCell w p u g hp).trans h
theorem Blk.below {B : Nat} (h : Blk w g t cs) (hb : Below B w w') (hg : g < B) : Blk w' g t cs := (hb.block g hg).trans h
theorem Blk.grown {row : Option Nat} (h : Blk w g t cs) (hb : w.grownBy w' row) (hg : some g ≠ row) : Blk w' g t cs := (hb.block g h.lt hg).trans h
end

theorem only_drewN {a w : World} {row : Option Nat} (h : a.grownBy w row) (n : Nat) : a.grownBy (w.drewN n) row := ⟨h.os, h.tape, h.output, h.size, h.block⟩
theorem only_drew {a w : World} {row : Option Nat} (h : a.grownBy w row) : a.grownBy w.drew row := ⟨h.os, h.tape, h.output, h.size, h.block⟩
theorem only_alloc {a w : World} {row : Option Nat} (h : a.grownBy w row) (o : Obj) : a.grownBy (w.alloc o) row :=
  ⟨h.os, h.tape, h.output, Nat.le_trans h.size (by simp), fun i hi hne => (Below.heap_alloc w o i (Nat.lt_of_lt_of_le hi h.size)).trans (h.block i hi hne)⟩
theorem only_setCell {a w : World} {g : Nat} (h : a.grownBy w (some g)) {p : Addr} (hp : p.block = g ∨ a.heap.size ≤ p.block) (u : Value) : a.grownBy (w.setCell p u) (some g) :=
  ⟨h.os, h.tape, h.output, by simpa [World.setCell] using h.size, fun i hi hne => (Below.heap_setCell w p u i (by
    rintro rfl
    rcases hp with hp | hp
    · exact hne (by rw [hp])
    · omega)).trans (h.block i hi hne)⟩
theorem only_of_below {a w : World} (h : Below a.heap.size a w) (row : Option Nat) : a.grownBy w row := ⟨h.os, h.tape, h.output, h.size, fun i hi _ => h.block i hi⟩
theorem below_drewN {B : Nat} {a w : World} (h : Below B a w) (n : Nat) : Below B a (w.drewN n) := ⟨h.os, h.tape, h.output, h.size, h.block⟩
theorem below_drew {B : Nat} {a w : World} (h : Below B a w) : Below B a w.drew := ⟨h.os, h.tape, h.output, h.size, h.block⟩
theorem below_only {a w w' : World} {B g : Nat} (h : Below B a w) (k : w.grownBy w' (some g)) (hB : B ≤ w.heap.size) (hg : B ≤ g) : Below B a w' :=
  ⟨k.os.trans h.os, k.tape.trans h.tape, k.output.trans h.output, Nat.le_trans h.size k.size, fun i hi => (k.block i (by omega) (fun e => by injection e; omega)).trans (h.block i hi)⟩

end Go.Proofs.YtonelabeflcplaaGreatDoor
namespace Go.Proofs.YtonelabeflcplaaGreatDoor
open Go.RowKit

/-- The slice v owns the cells xs, one cell an element. -/
def ORow (w : World) (base : Nat) (e : TypeId) (v : Value) (xs : List Value) : Prop := w.ownsRow base e 1 v xs.length xs

section
variable {P : Program} {w w' : World} {base : Nat} {e : TypeId} {v : Value} {xs : List Value}
theorem ORow.nil (w : World) (base : Nat) (e : TypeId) : ORow w base e (.slice none 0 0) [] := World.ownsRow_nil w base e 1
theorem ORow.alloc (h : ORow w base e v xs) (o : Obj) : ORow (w.alloc o) base e v xs := World.ownsRow.alloc h o
theorem ORow.drew (h : ORow w base e v xs) : ORow w.drew base e v xs := h
theorem ORow.drewN (h : ORow w base e v xs) (n : Nat) : ORow (w.drewN n) base e v xs := h
theorem ORow.kept {row : Option Nat} (h : ORow w base e v xs) (hg : w.grownBy w' row) (hne : v.ownBlock = none ∨ v.ownBlock ≠ row) : ORow w' base e v xs := World.ownsRow.kept h hg hne
theorem ORow.mono {b : Nat} (h : ORow w base e v xs) (hb : b ≤ base) : ORow w b e v xs := by
  refine ⟨h.1, ?_⟩
  rcases h.2 with hn | ⟨g, cap, cur, hv, hg, r⟩
  · exact .inl hn
  · exact .inr ⟨g, cap, cur, hv, Nat.le_trans hb hg, r⟩
theorem ORow.below {B : Nat} (h : ORow w base e v xs) (hb : Below B w w') (hB : ∀ g, v.ownBlock = some g → g < B) : ORow w' base e v xs := by
  refine ⟨h.1, ?_⟩
  rcases h.2 with hn | ⟨g, cap, cur, hv, hg, hh, r⟩
  · exact .inl hn
  · refine .inr ⟨g, cap, cur, hv, hg, ?_, r⟩
    rw [hb.block g (hB g (by rw [hv]; rfl))]
    exact hh
/-- The form of the value: nil, or at the head of a block. -/
theorem ORow.form (h : ORow w base e v xs) : (v = .slice none 0 0 ∧ xs = []) ∨ ∃ g cap, v = .slice (some ⟨g, 0, none⟩) xs.length cap ∧ base ≤ g ∧ g < w.heap.size ∧ xs.length ≤ cap ∧ cap ≤ maxLen := by
  rcases h.2 with ⟨hn, h0⟩ | ⟨g, cap, cur, hv, hg, hh, hnc, hm, _⟩
  · exact .inl ⟨hn, List.eq_nil_of_length_eq_zero h0⟩
  · exact .inr ⟨g, cap, hv, hg, Blk.lt hh, hnc, hm⟩
theorem ORow.lit (w : World) (base : Nat) (e : TypeId) (cs : Array Value) (hb : base ≤ w.heap.size) (hm : cs.size ≤ maxLen) : ORow (w.alloc (.cells cs e)) base e (.slice (some ⟨w.heap.size, 0, none⟩) cs.size cs.size) cs.toList := by
  have := World.ownsRow_lit (base := base) (e := e) (size := 1) w cs cs.size hb hm (by simp)
  simpa [ORow] using this
theorem ORow.shape (h : ORow w base e v xs) : ∃ A cap, v = .slice A xs.length cap := by
  rcases h.form with ⟨rfl, rfl⟩ | ⟨g, cap, rfl, _⟩
  · exact ⟨_, _, rfl⟩
  · exact ⟨_, _, rfl⟩
theorem ORow.cell {A : Option Addr} {n cap : Nat} (h : ORow w base e (.slice A n cap) xs) {k : Nat} (hk : k < xs.length) :
    ∃ g, A = some ⟨g, 0, none⟩ ∧ base ≤ g ∧ g < w.heap.size ∧ w.cell? ⟨g, k, none⟩ = some xs[k] := by
  rcases h.form with ⟨hv, rfl⟩ | ⟨g, cap', hv, hg, hl, _⟩
  · simp at hk
  · injection hv with h1 h2 h3
    subst h1 h2 h3
    refine ⟨g, rfl, hg, hl, ?_⟩
    rw [World.ownsRow.cellAt h k (by omega)]
    exact List.getElem?_eq_getElem hk
theorem ORow.block {A : Option Addr} {n cap g : Nat} (h : ORow w base e (.slice A n cap) xs) (hA : A = some ⟨g, 0, none⟩) : base ≤ g ∧ g < w.heap.size := by
  rcases h.form with ⟨hv, rfl⟩ | ⟨g', cap', hv, hg, hl, _⟩
  · injection hv with h1; rw [hA] at h1; cases h1
  · injection hv with h1
    rw [hA] at h1
    injection h1 with h1
    injection h1 with h1
    subst h1
    exact ⟨hg, hl⟩

theorem ORow.own_ge (h : ORow w base e v xs) {g : Nat} (hg : v.ownBlock = some g) : base ≤ g := (World.ownsRow.lt h g hg).1
theorem ORow.not_own (h : ORow w base e v xs) {g : Nat} (hg : g < base) : some g ≠ v.ownBlock := fun hc => by have := h.own_ge hc.symm; omega
theorem ORow.kept_far {g : Nat} (h : ORow w base e v xs) (hg : w.grownBy w' (some g)) (hlt : g < base) : ORow w' base e v xs := h.kept hg (.inr fun hc => h.not_own hlt hc.symm)
theorem below_row {a : World} {B : Nat} (h : Below B a w) (k : w.grownBy w' v.ownBlock) (hr : ORow w base e v xs) (hB : B ≤ w.heap.size) (hbase : B ≤ base) : Below B a w' :=
  ⟨k.os.trans h.os, k.tape.trans h.tape, k.output.trans h.output, Nat.le_trans h.size k.size, fun i hi => (k.block i (by omega) (hr.not_own (by omega))).trans (h.block i hi)⟩

/-- One element appended: the value was laid in a new block of its own just before. -/
theorem wp_app1 {ops : Array Oper} {rest : List Oper} {o : Oper} {a : Act} {Q : Exit → Act → World → Prop} (hgd : o.guard = none) (s x : Operand) (t : TypeId)
    (ho : o.op = .call { callee := .builtin .append, args := #[s, x], argTypes := #[t, t] })
    (base : Nat) (e : TypeId) (z : Value) (bytes : Nat) (ht : P.underlying t = some (.slice e)) (hinfo : (P.info? e).map (fun i => (i.zero, i.size, i.bytes)) = some (some z, 1, bytes)) (hz1 : z.cells.size = 1)
    (v : Value) (xs : List Value) (u : Value) (hs : a.eval s = v) (hown : ORow w base e v xs) (hu : u.oneCell' = true)
    (c : Nat) (hx : a.eval x = .slice (some ⟨w.heap.size, 0, none⟩) 1 c)
    (h63 : xs.length + 1 ≤ maxLen) (hbytes : (xs.length + 1) * bytes ≤ 140737488355328) (hbase : base ≤ w.heap.size)
    (h : ∀ v' w', ORow w' base e v' (xs ++ [u]) → w.grownBy w' v.ownBlock → (v'.ownBlock = v.ownBlock ∨ v'.ownBlock = some (w.heap.size + 1)) → wpList P ops Q rest (a.put o.dst v') w') :
    wpList P ops Q (o :: rest) a (w.alloc (.cells #[u] e)) := by
  obtain ⟨i, hi, hz, hsize, hby⟩ := info_parts hinfo
  refine wpList_plain hgd fun K hK => ?_
  obtain ⟨v', w', hrun, h2, h3, _, h5⟩ := run_append_own_at (P := P) (w.alloc (.cells #[u] e)) base t o.type e i z 1 bytes ht hi hz hsize hby hz1 (by decide) v xs.length xs (World.ownsRow.alloc hown _)
    ⟨w.heap.size, 0, none⟩ 1 c [u] rfl (cell_one_new w u e) (fun y hy => by simp at hy; subst hy; exact hu) h63 hbytes (by simp; omega)
  unfold Oper.wp execOp
  simp only [ho, resolve, invoke, builtin, Sem.run_bind, Sem.run_pure, Result.andThen_ok, List.map_toArray, List.map_cons, List.map_nil, hs, hx, hrun]
  refine hK _ _ (h v' w' ?_ ?_ ?_)
  · unfold ORow
    rw [List.length_append]
    exact h2
  · exact ⟨h3.os, h3.tape, h3.output, Nat.le_trans (by simp) h3.size, fun k hk hne => (h3.block k (by simp; omega) hne).trans (Below.heap_alloc w _ k hk)⟩
  · simpa using h5

/-- The same where only the blocks below base matter. -/
theorem wp_app1b {ops : Array Oper} {rest : List Oper} {o : Oper} {a : Act} {Q : Exit → Act → World → Prop} (hgd : o.guard = none) (s x : Operand) (t : TypeId)
    (ho : o.op = .call { callee := .builtin .append, args := #[s, x], argTypes := #[t, t] })
    (base : Nat) (e : TypeId) (z : Value) (bytes : Nat) (ht : P.underlying t = some (.slice e)) (hinfo : (P.info? e).map (fun i => (i.zero, i.size, i.bytes)) = some (some z, 1, bytes)) (hz1 : z.cells.size = 1)
    (v : Value) (xs : List Value) (u : Value) (hs : a.eval s = v) (hown : ORow w base e v xs) (hu : u.oneCell' = true)
    (c : Nat) (hx : a.eval x = .slice (some ⟨w.heap.size, 0, none⟩) 1 c)
    (h63 : xs.length + 1 ≤ maxLen) (hbytes : (xs.length + 1) * bytes ≤ 140737488355328) (hbase : base ≤ w.heap.size)
    (h : ∀ v' w', ORow w' base e v' (xs ++ [u]) → Below base w w' → wpList P ops Q rest (a.put o.dst v') w') :
    wpList P ops Q (o :: rest) a (w.alloc (.cells #[u] e)) := by
  refine wp_app1 hgd s x t ho base e z bytes ht hinfo hz1 v xs u hs hown hu c hx h63 hbytes hbase fun v' w' h1 h2 _ => h v' w' h1 ?_
  refine ⟨h2.os, h2.tape, h2.output, h2.size, fun k hk => h2.block k (by omega) fun hc => ?_⟩
  have := World.ownsRow.lt hown k hc.symm
  omega
end

section
variable {P : Program} {w : World}
/-- Several elements appended at once, laid in a new block of their own just before. -/
theorem wp_appNb {ops : Array Oper} {rest : List Oper} {o : Oper} {a : Act} {Q : Exit → Act → World → Prop} (hgd : o.guard = none) (s x : Operand) (t : TypeId)
    (ho : o.op = .call { callee := .builtin .append, args := #[s, x], argTypes := #[t, t] })
    (base : Nat) (e : TypeId) (z : Value) (bytes : Nat) (ht : P.underlying t = some (.slice e)) (hinfo : (P.info? e).map (fun i => (i.zero, i.size, i.bytes)) = some (some z, 1, bytes)) (hz1 : z.cells.size = 1)
    (v : Value) (xs : List Value) (C : Array Value) (m : Nat) (hs : a.eval s = v) (hown : ORow w base e v xs) (hu : ∀ u ∈ C.toList, u.oneCell' = true) (hm : C.size = m)
    (c : Nat) (hx : a.eval x = .slice (some ⟨w.heap.size, 0, none⟩) m c)
    (h63 : xs.length + m ≤ maxLen) (hbytes : (xs.length + m) * bytes ≤ 140737488355328) (hbase : base ≤ w.heap.size)
    (h : ∀ v' w', ORow w' base e v' (xs ++ C.toList) → Below base w w' → wpList P ops Q rest (a.put o.dst v') w') :
    wpList P ops Q (o :: rest) a (w.alloc (.cells C e)) := by
  obtain ⟨i, hi, hz, hsize, hby⟩ := info_parts hinfo
  refine wpList_plain hgd fun K hK => ?_
  have hb0 : (w.alloc (.cells C e)).heap[w.heap.size]? = some (.cells C e (0, 0)) := heap_alloc_new w _
  obtain ⟨v', w', hrun, h2, h3, _, h5⟩ := run_append_own_at (P := P) (w.alloc (.cells C e)) base t o.type e i z 1 bytes ht hi hz hsize hby hz1 (by decide) v xs.length xs (World.ownsRow.alloc hown _)
    ⟨w.heap.size, 0, none⟩ m c C.toList (by simp [hm]) (World.news_of_block hb0) hu h63 hbytes (by simp; omega)
  unfold Oper.wp execOp
  simp only [ho, resolve, invoke, builtin, Sem.run_bind, Sem.run_pure, Result.andThen_ok, List.map_toArray, List.map_cons, List.map_nil, hs, hx, hrun]
  refine hK _ _ (h v' w' ?_ ?_)
  · unfold ORow
    rw [List.length_append, show C.toList.length = m from hm]
    exact h2
  · refine ⟨h3.os, h3.tape, h3.output, Nat.le_trans (by simp) h3.size, fun k hk => (h3.block k (by simp; omega) fun hc => ?_).trans (Below.heap_alloc w _ k (by omega))⟩
    have := World.ownsRow.lt hown k hc.symm
    omega
end

/-! Bytes. -/
def bV (b : UInt8) : Value := .int .u8 (b.toNat : Int)
def iV (n : Int) : Value := .int .i64 n
theorem bV_of (n : Int) (h0 : 0 ≤ n) (h1 : n < 256) : Value.int .u8 n = bV (UInt8.ofNat n.toNat) := by
  unfold bV
  have e1 : (UInt8.ofNat n.toNat).toNat = n.toNat := UInt8.toNat_ofNat_of_lt' (show n.toNat < 256 by omega)
  rw [e1]
  congr 1
  omega

section
variable {P : Program} {w w' : World} {base : Nat} {e : TypeId} {v : Value}
/-- string(b), b nil or the call's own. -/
theorem run_string_of_row (src dst : TypeId) (l : List UInt8) (hs : P.underlying src = some (.slice e)) (he : P.underlying e = some (.int .u8)) (hd : P.underlying dst = some .string) (h : ORow w base e v (l.map bV)) :
    (convert src dst v).run P w = .ok (.string ⟨l.toArray⟩) w := by
  rcases h.form with ⟨rfl, hn⟩ | ⟨g, cap, hv, _⟩
  · have : l = [] := by simpa using hn
    subst this
    exact Lib.run_convert_nil_bytes w src dst e 0 hs he hd
  · subst hv
    simp only [List.length_map]
    refine run_convert_bytes_back w src dst e ⟨g, 0, none⟩ cap l hs he hd fun j hj => ?_
    have hj' : j < (l.map bV).length := by simpa using hj
    obtain ⟨g', hg, _, _, hc⟩ := h.cell hj'
    injection hg with hg
    injection hg with hg
    subst hg
    have e1 : (⟨g, 0, none⟩ : Addr).add j = ⟨g, j, none⟩ := by unfold Addr.add; split <;> simp_all
    rw [e1, hc]
    simp [bV]
end

end Go.Proofs.YtonelabeflcplaaGreatDoor
namespace Go.Proofs.YtonelabeflcplaaGreatDoor
open Go.RowKit

theorem ret_bool {a b : Bool} (h : a = b) : Ending.returned (.bool a) = .returned (.bool b) := by rw [h]
theorem ret_int {k : IntKind} {a b : Int} (h : a = b) : Ending.returned (.int k a) = .returned (.int k b) := by rw [h]

theorem may_any (r : Int) (w : World) :
    Calls Tryz.prog 118 #[.int .i64 r] w fun e w' => e = .returned (.bool (mayB r)) ∧ w = w' := by
  go_enter Tryz.func118, Tryz.ntmps118
  go_wp2
  all_goals go_ret
  all_goals refine ⟨ret_bool ?_, rfl⟩
  all_goals simp only [mayB]
  all_goals (rw [Bool.eq_iff_iff]; simp; try omega)


theorem long_any (r : Int) (w : World) :
    Calls Tryz.prog 119 #[.int .i64 r] w fun e w' => e = .returned (.int .i64 (longI r)) ∧ w = w' := by
  go_enter Tryz.func119, Tryz.ntmps119
  go_wp2
  all_goals go_ret
  all_goals refine ⟨ret_int ?_, rfl⟩
  all_goals simp only [longI]
  all_goals repeat (first | rw [if_pos (by omega)] | rw [if_neg (by omega)])

theorem i64_and63 (r : Int) (h0 : 0 ≤ r) (h1 : r < 9223372036854775808) : bits .and .i64 r 63 = r % 64 :=
  bits_mask .i64 63 (by decide) (fun n a b => by rw [IntKind.wrap_i64]; omega) 6 (by decide) r h0 h1


theorem Tryz.info5 : (Tryz.prog.info? 5).map (fun i => (i.zero, i.size, i.bytes)) = some (some (.int .u8 0), 1, 1) := by kernel_rfl
theorem Tryz.info3 : (Tryz.prog.info? 3).map (fun i => (i.zero, i.size, i.bytes)) = some (some (.int .i64 0), 1, 8) := by kernel_rfl
end Go.Proofs.YtonelabeflcplaaGreatDoor
namespace Go
/-- As Q; by a goto to a label of c: what stands behind the label, with one jump fewer left. -/
def Exit.fwd (P : Program) (c : Code) (Q : Exit → Act → World → Prop) : Nat → Exit → Act → World → Prop
  | 0, .goto _, _, _ => False
  | n + 1, .goto l, a, w => ∃ rest, findLabel c l = some rest ∧ rest.wp P (Exit.fwd P c Q n) a w
  | _, e, a, w => Q e a w

section
variable {P : Program} {a : Act} {w : World} {Q : Exit → Act → World → Prop} {c : Code}
theorem Exit.fwd_normal (n : Nat) : Exit.fwd P c Q n .normal a w = Q .normal a w := by cases n <;> rfl
theorem Exit.fwd_exit (n : Nat) (id : Nat) : Exit.fwd P c Q n (.exit id) a w = Q (.exit id) a w := by cases n <;> rfl
theorem Exit.fwd_ret (n : Nat) : Exit.fwd P c Q n .ret a w = Q .ret a w := by cases n <;> rfl
theorem Exit.fwd_panic (n : Nat) (ch : List PanicEntry) : Exit.fwd P c Q n (.panic ch) a w = Q (.panic ch) a w := by cases n <;> rfl
theorem Exit.fwd_goto (n l : Nat) (rest : Code) (h : findLabel c l = some rest) (k : rest.wp P (Exit.fwd P c Q n) a w) : Exit.fwd P c Q (n + 1) (.goto l) a w := ⟨rest, h, k⟩

theorem wp_scope_fwd (n : Nat) (first : c.wp P (Exit.fwd P c Q n) a w) : (Code.scope c).wp P Q a w := by
  intro b k cs
  have key : ∀ n (body : Code) a w, body.wp P (Exit.fwd P c Q n) a w → ∃ e a' w', Q e a' w' ∧ Arrives P (lone (b.at a (.code body :: .inScope c :: k)) cs w) b k cs e a' w' := by
    intro n
    induction n with
    | zero =>
      intro body a w h
      obtain ⟨e, a₁, w₁, hq, harr⟩ := h b (.inScope c :: k) cs
      cases e with
      | normal => exact ⟨.normal, a₁, w₁, hq, Steps.trans harr (.one step_inScope)⟩
      | exit id => exact ⟨.exit id, a₁, w₁, hq, fun k' hk => harr k' (by simp [exitTo, hk])⟩
      | goto l' => exact hq.elim
      | ret => exact ⟨_, a₁, w₁, hq, harr⟩
      | panic ch => exact ⟨_, a₁, w₁, hq, harr⟩
      | outgrown => exact ⟨_, a₁, w₁, hq, harr⟩
    | succ n ih =>
      intro body a w h
      obtain ⟨e, a₁, w₁, hq, harr⟩ := h b (.inScope c :: k) cs
      cases e with
      | normal => exact ⟨.normal, a₁, w₁, hq, Steps.trans harr (.one step_inScope)⟩
      | exit id => exact ⟨.exit id, a₁, w₁, hq, fun k' hk => harr k' (by simp [exitTo, hk])⟩
      | goto l' =>
        obtain ⟨rest, hf, hr⟩ := hq
        have hg : gotoIn l' (.inScope c :: k) = some (.code rest :: .inScope c :: k) := by simp [gotoIn, hf]
        obtain ⟨e₂, a₂, w₂, hq₂, harr₂⟩ := ih rest a₁ w₁ hr
        exact ⟨e₂, a₂, w₂, hq₂, .of_steps (harr _ hg) harr₂⟩
      | ret => exact ⟨_, a₁, w₁, hq, harr⟩
      | panic ch => exact ⟨_, a₁, w₁, hq, harr⟩
      | outgrown => exact ⟨_, a₁, w₁, hq, harr⟩
  obtain ⟨e, a₁, w₁, hq, harr⟩ := key n c a w first
  cases e with
  | normal => exact ⟨.normal, a₁, w₁, hq, .head step_scope harr⟩
  | exit id => exact ⟨.exit id, a₁, w₁, hq, fun k' hk => .head step_scope (harr k' hk)⟩
  | goto l' => exact ⟨.goto l', a₁, w₁, hq, fun k' hk => .head step_scope (harr k' hk)⟩
  | ret => exact ⟨_, a₁, w₁, hq, .of_steps (.one step_scope) harr⟩
  | panic ch => exact ⟨_, a₁, w₁, hq, .of_steps (.one step_scope) harr⟩
  | outgrown => exact ⟨_, a₁, w₁, hq, .of_steps (.one step_scope) harr⟩
end
end Go
namespace Go.Proofs.YtonelabeflcplaaGreatDoor
open Go.RowKit
set_option maxRecDepth 100000
theorem bV_b8 (n : Int) (h0 : 0 ≤ n) (h1 : n < 256) : bV (b8 n) = .int .u8 n := (bV_of n h0 h1).symm
theorem put_str {w : World} {base : Nat} {v : Value} (l : List UInt8) (h : ORow w base 5 v (l.map bV)) : (convert 51 9 v).run Tryz.prog w = .ok (.string ⟨l.toArray⟩) w :=
  run_string_of_row _ _ l Tryz.underlying51 Tryz.underlying5 Tryz.underlying9 h

def putS (r : Int) : ByteArray := if mayB r then ⟨(putL r).toArray⟩ else ⟨#[]⟩
end Go.Proofs.YtonelabeflcplaaGreatDoor
namespace Go.Proofs.YtonelabeflcplaaGreatDoor
open Go.RowKit

def IRead (w : World) (v : Value) (xs : List Int) : Prop := ∃ A c, v = .slice A xs.length c ∧ (0 < xs.length → ∃ ad : Addr, A = some ad ∧ ∀ j (h : j < xs.length), w.cell? (ad.add j) = some (.int .i64 xs[j]))
def BRead (w : World) (v : Value) (xs : List UInt8) : Prop := ∃ A c, v = .slice A xs.length c ∧ (0 < xs.length → ∃ ad : Addr, A = some ad ∧ ∀ j (h : j < xs.length), w.cell? (ad.add j) = some (.int .u8 (xs[j].toNat : Int)))

theorem addr_add0 (g j : Nat) : (⟨g, 0, none⟩ : Addr).add j = ⟨g, j, none⟩ := by unfold Addr.add; split <;> simp_all
theorem IRead.nil (w : World) (c : Nat) : IRead w (.slice none 0 c) [] := ⟨none, c, rfl, fun h => absurd h (by simp)⟩
theorem BRead.nil (w : World) (c : Nat) : BRead w (.slice none 0 c) [] := ⟨none, c, rfl, fun h => absurd h (by simp)⟩
theorem IRead.of_row {w : World} {base : Nat} {e : TypeId} {v : Value} {xs : List Int} (h : ORow w base e v (xs.map iV)) : IRead w v xs := by
  rcases h.form with ⟨rfl, hn⟩ | ⟨g, cap, rfl, _⟩
  · have : xs = [] := by simpa using hn
    subst this
    exact IRead.nil _ _
  · refine ⟨some ⟨g, 0, none⟩, cap, by simp, fun _ => ⟨_, rfl, fun j hj => ?_⟩⟩
    obtain ⟨g', hg, _, _, hc⟩ := h.cell (k := j) (by simpa using hj)
    injection hg with hg
    injection hg with hg
    subst hg
    rw [addr_add0, hc]
    simp [iV]
theorem BRead.of_row {w : World} {base : Nat} {e : TypeId} {v : Value} {xs : List UInt8} (h : ORow w base e v (xs.map bV)) : BRead w v xs := by
  rcases h.form with ⟨rfl, hn⟩ | ⟨g, cap, rfl, _⟩
  · have : xs = [] := by simpa using hn
    subst this
    exact BRead.nil _ _
  · refine ⟨some ⟨g, 0, none⟩, cap, by simp, fun _ => ⟨_, rfl, fun j hj => ?_⟩⟩
    obtain ⟨g', hg, _, _, hc⟩ := h.cell (k := j) (by simpa using hj)
    injection hg with hg
    injection hg with hg
    subst hg
    rw [addr_add0, hc]
    simp [bV]
theorem IRead.of_cells {w : World} {x : Addr} {l c B : Nat} {zs : List Int} (hz : zs.length = c) (hl : l ≤ c) (hcell : ∀ i, i < zs.length → w.cell? (x.add i) = some (.int .i64 (zs.getD i 0))) (_hwz : ∀ n ∈ zs, (Lit.int .i64 n).wf = true) (hB : l ≤ B) :
    ∃ xs : List Int, IRead w (.slice (some x) l c) xs ∧ xs.length ≤ B := by
  have hlen : (zs.take l).length = l := by simp; omega
  refine ⟨zs.take l, ⟨some x, c, by rw [hlen], fun _ => ⟨x, rfl, fun j hj => ?_⟩⟩, by omega⟩
  rw [hcell j (by omega), List.getElem_take]
  simp [List.getD_eq_getElem?_getD, List.getElem?_eq_getElem (show j < zs.length by omega)]
theorem wf_u8 {n : Int} (h : (Lit.int .u8 n).wf = true) : 0 ≤ n ∧ n ≤ 255 := by simpa [Lit.wf, IntKind.min, IntKind.max, IntKind.signed, IntKind.bits] using h
theorem BRead.of_cells {w : World} {x : Addr} {l c B : Nat} {zs : List Int} (hz : zs.length = c) (hl : l ≤ c) (hcell : ∀ i, i < zs.length → w.cell? (x.add i) = some (.int .u8 (zs.getD i 0))) (hwz : ∀ n ∈ zs, (Lit.int .u8 n).wf = true) (hB : l ≤ B) :
    ∃ xs : List UInt8, BRead w (.slice (some x) l c) xs ∧ xs.length ≤ B := by
  have hlen : ((zs.take l).map fun n => UInt8.ofNat n.toNat).length = l := by simp; omega
  refine ⟨(zs.take l).map fun n => UInt8.ofNat n.toNat, ⟨some x, c, by rw [hlen], fun _ => ⟨x, rfl, fun j hj => ?_⟩⟩, by omega⟩
  have hj' : j < zs.length := by omega
  have hw := wf_u8 (hwz zs[j] (List.getElem_mem hj'))
  rw [hcell j hj']
  simp only [List.getElem_map, List.getElem_take]
  have e1 : (UInt8.ofNat (zs[j]).toNat).toNat = (zs[j]).toNat := UInt8.toNat_ofNat_of_lt' (show (zs[j]).toNat < 256 by omega)
  rw [e1, List.getD_eq_getElem?_getD, List.getElem?_eq_getElem hj']
  congr 2
  simp
  omega
theorem IRead.keep {w w' : World} {v : Value} {xs : List Int} (h : IRead w v xs) (hk : ∀ p : Addr, (∃ u, w.cell? p = some u) → w'.cell? p = w.cell? p) : IRead w' v xs := by
  obtain ⟨A, c, hv, hr⟩ := h
  refine ⟨A, c, hv, fun hp => ?_⟩
  obtain ⟨ad, hA, hc⟩ := hr hp
  exact ⟨ad, hA, fun j hj => (hk _ ⟨_, hc j hj⟩).trans (hc j hj)⟩
theorem BRead.keep {w w' : World} {v : Value} {xs : List UInt8} (h : BRead w v xs) (hk : ∀ p : Addr, (∃ u, w.cell? p = some u) → w'.cell? p = w.cell? p) : BRead w' v xs := by
  obtain ⟨A, c, hv, hr⟩ := h
  refine ⟨A, c, hv, fun hp => ?_⟩
  obtain ⟨ad, hA, hc⟩ := hr hp
  exact ⟨ad, hA, fun j hj => (hk _ ⟨_, hc j hj⟩).trans (hc j hj)⟩
theorem cell_lt {w : World} {p : Addr} {u : Value} (h : w.cell? p = some u) : p.block < w.heap.size := by
  rcases Nat.lt_or_ge p.block w.heap.size with hlt | hge
  · exact hlt
  · unfold World.cell? at h
    rw [Array.getElem?_eq_none hge] at h
    simp at h
theorem IRead.below {w w' : World} {v : Value} {xs : List Int} (h : IRead w v xs) (hb : Below w.heap.size w w') : IRead w' v xs :=
  h.keep fun _ ⟨_, hu⟩ => hb.cell (cell_lt hu)
theorem BRead.below {w w' : World} {v : Value} {xs : List UInt8} (h : BRead w v xs) (hb : Below w.heap.size w w') : BRead w' v xs :=
  h.keep fun _ ⟨_, hu⟩ => hb.cell (cell_lt hu)
end Go.Proofs.YtonelabeflcplaaGreatDoor
namespace Go.Proofs.YtonelabeflcplaaGreatDoor.Qt
set_option maxRecDepth 8000

/-- What was said so far; what the next byte may be (0: anything, 1: behind a stroke, 2: a digit, 3: nothing); of digits how many there were, and their number. -/
structure QS where
  xs : List UInt8
  st : Int
  d : Int
  n : Int
structure QR where
  done : Bool
  e : Int
  q : QS

def escI (b : Int) : Int := if b = 34 ∨ b = 92 ∨ b = 47 then b else if b = 110 then 10 else if b = 116 then 9 else if b = 114 then 13 else if b = 98 then 8 else if b = 102 then 12 else -1
def hexI (b : Int) : Int := if 48 ≤ b ∧ b ≤ 57 then b - 48 else if 97 ≤ b ∧ b ≤ 102 then b - 97 + 10 else if 65 ≤ b ∧ b ≤ 70 then b - 65 + 10 else -1
def plainQ (xs : List UInt8) : QS := ⟨xs, 0, 0, 0⟩
def qAdd (q : QS) (ch : List UInt8) : QR := if 48 < q.xs.length + ch.length then ⟨false, 4, q⟩ else ⟨false, 0, plainQ (q.xs ++ ch)⟩
def qLetter (q : QS) (b : Int) : QR := if b = 117 then ⟨false, 0, ⟨q.xs, 2, 0, 0⟩⟩ else if escI b < 0 then ⟨false, 9, q⟩ else qAdd q [b8 (escI b)]
def qDigit (q : QS) (b : Int) : QR :=
  if hexI b < 0 then ⟨false, 9, q⟩ else if q.d < 3 then ⟨false, 0, ⟨q.xs, 2, q.d + 1, q.n * 16 + hexI b⟩⟩
  else if mayB (q.n * 16 + hexI b) = true then qAdd q (putL (q.n * 16 + hexI b)) else ⟨false, 9, q⟩
def qPlain (q : QS) (b : Int) : QR :=
  if b < 32 then ⟨false, 2, q⟩ else if b = 34 then ⟨true, 0, ⟨q.xs, 3, 0, 0⟩⟩ else if b = 92 then ⟨false, 0, ⟨q.xs, 1, 0, 0⟩⟩ else qAdd q [b8 b]
def qStep (q : QS) (b : Int) : QR := if q.st = 1 then qLetter q b else if q.st = 2 then qDigit q b else if q.st = 3 then ⟨false, 2, q⟩ else qPlain q b

def QInv (q : QS) : Prop := q.xs.length ≤ 48 ∧ (q.st = 0 ∨ q.st = 1 ∨ q.st = 3 ∨ (q.st = 2 ∧ 0 ≤ q.n ∧ ((q.d = 0 ∧ q.n = 0) ∨ (q.d = 1 ∧ q.n < 16) ∨ (q.d = 2 ∧ q.n < 256) ∨ (q.d = 3 ∧ q.n < 4096))))

theorem hexI_lt (b : Int) : hexI b < 16 := by unfold hexI; repeat' split <;> omega
theorem escI_lt (b : Int) : escI b < 256 := by unfold escI; repeat' split <;> omega
theorem qInv0 : QInv (plainQ []) := ⟨by simp [plainQ], .inl rfl⟩
theorem qInv_plain {xs : List UInt8} (h : xs.length ≤ 48) : QInv (plainQ xs) := ⟨h, .inl rfl⟩
theorem qInv_add {q : QS} {ch : List UInt8} (h : QInv q) : QInv (qAdd q ch).q := by
  unfold qAdd
  split
  · exact h
  · exact qInv_plain (by simp; omega)
theorem qInv_step {q : QS} {b : Int} (h : QInv q) : QInv (qStep q b).q := by
  unfold qStep
  split
  · unfold qLetter
    split
    · exact ⟨h.1, .inr (.inr (.inr ⟨rfl, by simp, .inl ⟨rfl, rfl⟩⟩))⟩
    · split
      · exact h
      · exact qInv_add h
  · split
    · unfold qDigit
      have := hexI_lt b
      rename_i h2
      obtain ⟨hl, hs⟩ := h
      split
      · exact ⟨hl, hs⟩
      · split
        · refine ⟨hl, .inr (.inr (.inr ⟨rfl, ?_⟩))⟩
          simp only
          omega
        · split
          · exact qInv_add ⟨hl, hs⟩
          · exact ⟨hl, hs⟩
    · split
      · exact h
      · unfold qPlain
        split
        · exact h
        · split
          · exact ⟨h.1, .inr (.inr (.inl rfl))⟩
          · split
            · exact ⟨h.1, .inr (.inl rfl)⟩
            · exact qInv_add h

/-- How a run ends: what was said, how many bytes were taken, whether the last was the last quote, an error. -/
structure QE where
  text : List UInt8
  n : Nat
  done : Bool
  e : Int

def qRun : QS → Nat → List UInt8 → QE
  | q, i, [] => ⟨q.xs, i, false, 0⟩
  | q, i, b :: t => if (qStep q (b.toNat : Int)).done = true ∨ (qStep q (b.toNat : Int)).e ≠ 0 then ⟨(qStep q (b.toNat : Int)).q.xs, i, (qStep q (b.toNat : Int)).done, (qStep q (b.toNat : Int)).e⟩ else qRun (qStep q (b.toNat : Int)).q (i + 1) t
def qAll (l : List UInt8) : QE := qRun (plainQ []) 0 l

theorem qRun_on {q q' : QS} {i : Nat} {b : UInt8} {t : List UInt8} (h : qStep q (b.toNat : Int) = ⟨false, 0, q'⟩) : qRun q i (b :: t) = qRun q' (i + 1) t := by
  rw [qRun, h]; simp
theorem qRun_done {q q' : QS} {i : Nat} {b : UInt8} {t : List UInt8} (h : qStep q (b.toNat : Int) = ⟨true, 0, q'⟩) : qRun q i (b :: t) = ⟨q'.xs, i, true, 0⟩ := by
  rw [qRun, h]; simp
theorem qRun_err {q q' : QS} {i : Nat} {b : UInt8} {t : List UInt8} {d : Bool} {e : Int} (h : qStep q (b.toNat : Int) = ⟨d, e, q'⟩) (he : e ≠ 0) : qRun q i (b :: t) = ⟨q'.xs, i, d, e⟩ := by
  rw [qRun, h]; simp [he]

theorem qAdd_ok {q : QS} {ch : List UInt8} (h : q.xs.length + ch.length ≤ 48) : qAdd q ch = ⟨false, 0, plainQ (q.xs ++ ch)⟩ := by unfold qAdd; rw [if_neg (by omega)]

/-! What is printed. -/
def hexD (n : Int) : Int := if n < 10 then 48 + n else 87 + n
def prB (b : UInt8) : List UInt8 :=
  if (b.toNat : Int) = 34 ∨ (b.toNat : Int) = 92 then [92, b] else if (b.toNat : Int) = 10 then [92, 110] else if (b.toNat : Int) = 9 then [92, 116] else if (b.toNat : Int) = 13 then [92, 114]
  else if (b.toNat : Int) < 32 then [92, 117, 48, 48, b8 (hexD (b.toNat / 16)), b8 (hexD (b.toNat % 16))] else [b]
def prAll (l : List UInt8) : List UInt8 := l.flatMap prB
def printL (l : List UInt8) : List UInt8 := 34 :: (prAll l ++ [34])

theorem hexI_hexD (n : Int) (h0 : 0 ≤ n) (h1 : n < 16) : hexI (hexD n) = n := by
  unfold hexD
  split
  · unfold hexI; rw [if_pos (by omega)]; omega
  · unfold hexI; rw [if_neg (by omega), if_pos (by omega)]; omega
theorem hexD_rg (n : Int) (h0 : 0 ≤ n) (h1 : n < 16) : 0 ≤ hexD n ∧ hexD n < 256 := by unfold hexD; split <;> omega

theorem b8_of (b : UInt8) : b8 (b.toNat : Int) = b := by unfold b8; simp
theorem prB_len (b : UInt8) : 1 ≤ (prB b).length ∧ (prB b).length ≤ 6 := by
  unfold prB
  repeat' split
  all_goals simp

theorem step_stroke (xs : List UInt8) : qStep (plainQ xs) 92 = ⟨false, 0, ⟨xs, 1, 0, 0⟩⟩ := rfl
theorem step_u (xs : List UInt8) : qStep ⟨xs, 1, 0, 0⟩ 117 = ⟨false, 0, ⟨xs, 2, 0, 0⟩⟩ := rfl
theorem step_letter (xs : List UInt8) (b : Int) (h : b ≠ 117) (he : 0 ≤ escI b) (hl : xs.length + 1 ≤ 48) : qStep ⟨xs, 1, 0, 0⟩ b = ⟨false, 0, plainQ (xs ++ [b8 (escI b)])⟩ := by
  show qLetter _ b = _
  unfold qLetter
  rw [if_neg h, if_neg (by omega)]
  exact qAdd_ok (by simpa using hl)
theorem step_digit (xs : List UInt8) (d n v : Int) (h0 : 0 ≤ v) (h1 : v < 16) (hd : d < 3) : qStep ⟨xs, 2, d, n⟩ (hexD v) = ⟨false, 0, ⟨xs, 2, d + 1, n * 16 + v⟩⟩ := by
  show qDigit _ _ = _
  unfold qDigit
  rw [hexI_hexD v h0 h1, if_neg (by omega), if_pos hd]
theorem step_last (xs : List UInt8) (n v : Int) (h0 : 0 ≤ v) (h1 : v < 16) (hm : mayB (n * 16 + v) = true) (hl : xs.length + (putL (n * 16 + v)).length ≤ 48) : qStep ⟨xs, 2, 3, n⟩ (hexD v) = ⟨false, 0, plainQ (xs ++ putL (n * 16 + v))⟩ := by
  show qDigit _ _ = _
  unfold qDigit
  rw [hexI_hexD v h0 h1, if_neg (by omega), if_neg (show ¬ (3 : Int) < 3 by omega), if_pos hm]
  exact qAdd_ok hl
theorem step_char (xs : List UInt8) (b : Int) (h : 32 ≤ b) (h1 : b ≠ 34) (h2 : b ≠ 92) (hl : xs.length + 1 ≤ 48) : qStep (plainQ xs) b = ⟨false, 0, plainQ (xs ++ [b8 b])⟩ := by
  show qPlain _ b = _
  unfold qPlain
  rw [if_neg (by omega), if_neg h1, if_neg h2]
  exact qAdd_ok (by simpa [plainQ] using hl)

theorem run_pr (xs : List UInt8) (b : UInt8) (i : Nat) (rest : List UInt8) (hl : xs.length + 1 ≤ 48) : qRun (plainQ xs) i (prB b ++ rest) = qRun (plainQ (xs ++ [b])) (i + (prB b).length) rest := by
  have hb := byte_le b
  unfold prB
  split
  · rename_i h
    have e : escI (b.toNat : Int) = b.toNat := by unfold escI; rw [if_pos (by omega)]
    have s2 := step_letter xs (b.toNat : Int) (by omega) (by omega) hl
    rw [e, b8_of] at s2
    simp only [List.cons_append, List.nil_append]
    rw [qRun_on (b := 92) (step_stroke xs), qRun_on s2]
    rfl
  · split
    · rename_i h
      have s2 := step_letter xs 110 (by decide) (by decide) hl
      rw [show escI 110 = (b.toNat : Int) from by rw [h]; rfl, b8_of] at s2
      simp only [List.cons_append, List.nil_append]
      rw [qRun_on (b := 92) (step_stroke xs), qRun_on (b := 110) s2]
      rfl
    · split
      · rename_i h
        have s2 := step_letter xs 116 (by decide) (by decide) hl
        rw [show escI 116 = (b.toNat : Int) from by rw [h]; rfl, b8_of] at s2
        simp only [List.cons_append, List.nil_append]
        rw [qRun_on (b := 92) (step_stroke xs), qRun_on (b := 116) s2]
        rfl
      · split
        · rename_i h
          have s2 := step_letter xs 114 (by decide) (by decide) hl
          rw [show escI 114 = (b.toNat : Int) from by rw [h]; rfl, b8_of] at s2
          simp only [List.cons_append, List.nil_append]
          rw [qRun_on (b := 92) (step_stroke xs), qRun_on (b := 114) s2]
          rfl
        · split
          · rename_i h
            have q0 : 0 ≤ (b.toNat : Int) / 16 ∧ (b.toNat : Int) / 16 < 16 := by omega
            have q1 : 0 ≤ (b.toNat : Int) % 16 ∧ (b.toNat : Int) % 16 < 16 := by omega
            have r0 := hexD_rg _ q0.1 q0.2
            have r1 := hexD_rg _ q1.1 q1.2
            have s3 : qStep ⟨xs, 2, 0, 0⟩ 48 = ⟨false, 0, ⟨xs, 2, 1, 0⟩⟩ := step_digit xs 0 0 0 (by decide) (by decide) (by decide)
            have s4 : qStep ⟨xs, 2, 1, 0⟩ 48 = ⟨false, 0, ⟨xs, 2, 2, 0⟩⟩ := step_digit xs 1 0 0 (by decide) (by decide) (by decide)
            have s5 : qStep ⟨xs, 2, 2, 0⟩ (hexD ((b.toNat : Int) / 16)) = ⟨false, 0, ⟨xs, 2, 3, 0 * 16 + (b.toNat : Int) / 16⟩⟩ := step_digit xs 2 0 _ q0.1 q0.2 (by decide)
            have hv : (0 * 16 + (b.toNat : Int) / 16) * 16 + (b.toNat : Int) % 16 = b.toNat := by omega
            have hp : putL (b.toNat : Int) = [b] := by unfold putL; rw [if_pos (by omega), b8_of]
            have s6 := step_last xs (0 * 16 + (b.toNat : Int) / 16) _ q1.1 q1.2 (by rw [hv]; unfold mayB; rw [decide_eq_true_iff]; omega) (by rw [hv, hp]; exact hl)
            rw [hv, hp] at s6
            rw [← b8_nat _ r0.1 r0.2] at s5
            rw [← b8_nat _ r1.1 r1.2] at s6
            simp only [List.cons_append, List.nil_append]
            rw [qRun_on (b := 92) (step_stroke xs), qRun_on (b := 117) (step_u xs), qRun_on (b := 48) s3, qRun_on (b := 48) s4, qRun_on s5, qRun_on s6]
            rfl
          · have s1 := step_char xs (b.toNat : Int) (by omega) (by omega) (by omega) hl
            rw [b8_of] at s1
            simp only [List.cons_append, List.nil_append]
            rw [qRun_on s1]
            rfl

theorem run_prAll (l : List UInt8) : ∀ (xs : List UInt8) (i : Nat) (rest : List UInt8), xs.length + l.length ≤ 48 → qRun (plainQ xs) i (prAll l ++ rest) = qRun (plainQ (xs ++ l)) (i + (prAll l).length) rest := by
  induction l with
  | nil => intro xs i rest _; simp [prAll]
  | cons b t ih =>
    intro xs i rest h
    simp only [List.length_cons] at h
    have e : prAll (b :: t) = prB b ++ prAll t := by simp [prAll]
    rw [e, List.append_assoc, run_pr xs b i _ (by omega), ih (xs ++ [b]) _ rest (by simp; omega)]
    simp only [List.append_assoc, List.cons_append, List.nil_append, List.length_append, Nat.add_assoc]

theorem quote_step (xs : List UInt8) : qStep (plainQ xs) 34 = ⟨true, 0, ⟨xs, 3, 0, 0⟩⟩ := rfl
/-- What is printed says what it was made of, and ends just at its last byte. -/
theorem all_print (l : List UInt8) (h : l.length ≤ 48) : qAll ((printL l).drop 1) = ⟨l, (printL l).length - 2, true, 0⟩ := by
  unfold qAll printL
  rw [List.drop_succ_cons, List.drop_zero, run_prAll l [] 0 [34] (by simpa using h)]
  rw [qRun_done (b := 34) (quote_step _)]
  simp
theorem print_inj {a b : List UInt8} (ha : a.length ≤ 48) (hb : b.length ≤ 48) (h : printL a = printL b) : a = b := by
  have e1 := all_print a ha
  have e2 := all_print b hb
  rw [h, e2] at e1
  injection e1 with e1
  exact e1.symm
theorem prAll_len (l : List UInt8) : l.length ≤ (prAll l).length ∧ (prAll l).length ≤ 6 * l.length := by
  induction l with
  | nil => simp [prAll]
  | cons b t ih =>
    have e : prAll (b :: t) = prB b ++ prAll t := by simp [prAll]
    have := prB_len b
    rw [e, List.length_append, List.length_cons]
    omega
theorem prAll_snoc (l : List UInt8) (b : UInt8) : prAll (l ++ [b]) = prAll l ++ prB b := by simp [prAll]
theorem printL_len (l : List UInt8) : (printL l).length = (prAll l).length + 2 := by simp [printL]
end Go.Proofs.YtonelabeflcplaaGreatDoor.Qt

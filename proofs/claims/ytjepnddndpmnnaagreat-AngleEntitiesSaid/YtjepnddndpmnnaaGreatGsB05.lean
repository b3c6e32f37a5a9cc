/-
  Rows that the call itself made, of elements of one cell: what append, conversion to a string and reading do with them. Conditions: as each theorem says.
  Slices of ints and of bytes that can be read: nil, or their cells at an address.
  Contracts of num's exponent, the order of texts, compareSizes.
  The shape of a number's bytes, and where its parts are found.
-/
import Derived.Test.YtjepnddndpmnnaaGreatGsB04
import Derived.Maps.AppendAt
import Derived.Laws.BytesString
import Derived.Laws.IdiomStrings
import Derived.Lib.BufferRead
import Derived.Deep.AppendLies
import Derived.Test.YtjepnddndpmnnaaGreatGsB03
import Derived.Test.YtjepnddndpmnnaaGreatShelf
import Derived.WalkSmall
import Derived.Lib.LaidTab
import Derived.Lib.AppendIntMem
import Derived.BigQuiet
import Derived.Deep.QuietTactic
import Derived.Lib.IndexAny
import Derived.Lib.IndexMore
namespace Go.Proofs.YtjepnddndpmnnaaGreat
open Go.RowKit

/-- The slice v owns the cells xs, one cell an element. -/
def ORow (w : World) (base : Nat) (e : TypeId) (v : Value) (xs : List Value) : Prop := w.ownsRow base e 1 v xs.length xs

section
variable {P : Program} {w w' : World} {base : Nat} {e : TypeId} {v : Value} {xs : List Value}
theorem ORow.nil (w : World) (base : Nat) (e : TypeId) : ORow w base e (.slice none 0 0) [] := World.ownsRow_nil w base e 1
theorem ORow.alloc (h : ORow w base e v xs) (o : Obj) : ORow (w.alloc o) base e v xs := World.ownsRow.alloc h o
theorem ORow.drew (h : ORow w base e v xs) : ORow w.drew base e v xs := h
theorem ORow.drewN (h : ORow w base e v xs) (n : Nat) : ORow (w.drewN n) base e v xs := h
theorem ORow.kept {row : Option Nat} (h : ORow w base e v xs) (hg : w.grownBy w' row) (hne : v.ownBlock = none ∨ v.ownBlock ≠ row) : ORow w' base e v xs := World.ownsRow.kept h hg hne
theorem ORow.mono {b : Nat} (h : ORow w base e v xs) (hb : b ≤ base) : ORow w b e v xs := by
  refine ⟨h.1, ?_⟩
  rcases h.2 with hn | ⟨g, cap, cur, hv, hg, r⟩
  · exact .inl hn
  · exact .inr ⟨g, cap, cur, hv, Nat.le_trans hb hg, r⟩
theorem ORow.below {B : Nat} (h : ORow w base e v xs) (hb : Below B w w') (hB : ∀ g, v.ownBlock = some g → g < B) : ORow w' base e v xs := by
  refine ⟨h.1, ?_⟩
  rcases h.2 with hn | ⟨g, cap, cur, hv, hg, hh, r⟩
  · exact .inl hn
  · refine .inr ⟨g, cap, cur, hv, hg, ?_, r⟩
    rw [hb.block g (hB g (by rw [hv]; rfl))]
    exact hh
/-- The form of the value: nil, or at the head of a block. -/
theorem ORow.form (h : ORow w base e v xs) : (v = .slice none 0 0 ∧ xs = []) ∨ ∃ g cap, v = .slice (some ⟨g, 0, none⟩) xs.length cap ∧ base ≤ g ∧ g < w.heap.size ∧ xs.length ≤ cap ∧ cap ≤ maxLen := by
  rcases h.2 with ⟨hn, h0⟩ | ⟨g, cap, cur, hv, hg, hh, hnc, hm, _⟩
  · exact .inl ⟨hn, List.eq_nil_of_length_eq_zero h0⟩
  · exact .inr ⟨g, cap, hv, hg, Blk.lt hh, hnc, hm⟩
theorem ORow.lit (w : World) (base : Nat) (e : TypeId) (cs : Array Value) (hb : base ≤ w.heap.size) (hm : cs.size ≤ maxLen) : ORow (w.alloc (.cells cs e)) base e (.slice (some ⟨w.heap.size, 0, none⟩) cs.size cs.size) cs.toList := by
  have := World.ownsRow_lit (base := base) (e := e) (size := 1) w cs cs.size hb hm (by simp)
  simpa [ORow] using this
theorem ORow.shape (h : ORow w base e v xs) : ∃ A cap, v = .slice A xs.length cap := by
  rcases h.form with ⟨rfl, rfl⟩ | ⟨g, cap, rfl, _⟩
  · exact ⟨_, _, rfl⟩
  · exact ⟨_, _, rfl⟩
theorem ORow.cell {A : Option Addr} {n cap : Nat} (h : ORow w base e (.slice A n cap) xs) {k : Nat} (hk : k < xs.length) :
    ∃ g, A = some ⟨g, 0, none⟩ ∧ base ≤ g ∧ g < w.heap.size ∧ w.cell? ⟨g, k, none⟩ = some xs[k] := by
  rcases h.form with ⟨hv, rfl⟩ | ⟨g, cap', hv, hg, hl, _⟩
  · simp at hk
  · injection hv with h1 h2 h3
    subst h1 h2 h3
    refine ⟨g, rfl, hg, hl, ?_⟩
    rw [World.ownsRow.cellAt h k (by omega)]
    exact List.getElem?_eq_getElem hk
theorem ORow.block {A : Option Addr} {n cap g : Nat} (h : ORow w base e (.slice A n cap) xs) (hA : A = some ⟨g, 0, none⟩) : base ≤ g ∧ g < w.heap.size := by
  rcases h.form with ⟨hv, rfl⟩ | ⟨g', cap', hv, hg, hl, _⟩
  · injection hv with h1; rw [hA] at h1; cases h1
  · injection hv with h1
    rw [hA] at h1
    injection h1 with h1
    injection h1 with h1
    subst h1
    exact ⟨hg, hl⟩

theorem ORow.own_ge (h : ORow w base e v xs) {g : Nat} (hg : v.ownBlock = some g) : base ≤ g := (World.ownsRow.lt h g hg).1
theorem ORow.not_own (h : ORow w base e v xs) {g : Nat} (hg : g < base) : some g ≠ v.ownBlock := fun hc => by have := h.own_ge hc.symm; omega
theorem ORow.kept_far {g : Nat} (h : ORow w base e v xs) (hg : w.grownBy w' (some g)) (hlt : g < base) : ORow w' base e v xs := h.kept hg (.inr fun hc => h.not_own hlt hc.symm)
theorem below_row {a : World} {B : Nat} (h : Below B a w) (k : w.grownBy w' v.ownBlock) (hr : ORow w base e v xs) (hB : B ≤ w.heap.size) (hbase : B ≤ base) : Below B a w' :=
  ⟨k.os.trans h.os, k.tape.trans h.tape, k.output.trans h.output, Nat.le_trans h.size k.size, fun i hi => (k.block i (by omega) (hr.not_own (by omega))).trans (h.block i hi)⟩

/-- One element appended: the value was laid in a new block of its own just before. -/
theorem wp_app1 {ops : Array Oper} {rest : List Oper} {o : Oper} {a : Act} {Q : Exit → Act → World → Prop} (hgd : o.guard = none) (s x : Operand) (t : TypeId)
    (ho : o.op = .call { callee := .builtin .append, args := #[s, x], argTypes := #[t, t] })
    (base : Nat) (e : TypeId) (z : Value) (bytes : Nat) (ht : P.underlying t = some (.slice e)) (hinfo : (P.info? e).map (fun i => (i.zero, i.size, i.bytes)) = some (some z, 1, bytes)) (hz1 : z.cells.size = 1)
    (v : Value) (xs : List Value) (u : Value) (hs : a.eval s = v) (hown : ORow w base e v xs) (hu : u.oneCell' = true)
    (c : Nat) (hx : a.eval x = .slice (some ⟨w.heap.size, 0, none⟩) 1 c)
    (h63 : xs.length + 1 ≤ maxLen) (hbytes : (xs.length + 1) * bytes ≤ 140737488355328) (hbase : base ≤ w.heap.size)
    (h : ∀ v' w', ORow w' base e v' (xs ++ [u]) → w.grownBy w' v.ownBlock → (v'.ownBlock = v.ownBlock ∨ v'.ownBlock = some (w.heap.size + 1)) → wpList P ops Q rest (a.put o.dst v') w') :
    wpList P ops Q (o :: rest) a (w.alloc (.cells #[u] e)) := by
  obtain ⟨i, hi, hz, hsize, hby⟩ := info_parts hinfo
  refine wpList_plain hgd fun K hK => ?_
  obtain ⟨v', w', hrun, h2, h3, _, h5⟩ := run_append_own_at (P := P) (w.alloc (.cells #[u] e)) base t o.type e i z 1 bytes ht hi hz hsize hby hz1 (by decide) v xs.length xs (World.ownsRow.alloc hown _)
    ⟨w.heap.size, 0, none⟩ 1 c [u] rfl (cell_one_new w u e) (fun y hy => by simp at hy; subst hy; exact hu) h63 hbytes (by simp; omega)
  unfold Oper.wp execOp
  simp only [ho, resolve, invoke, builtin, Sem.run_bind, Sem.run_pure, Result.andThen_ok, List.map_toArray, List.map_cons, List.map_nil, hs, hx, hrun]
  refine hK _ _ (h v' w' ?_ ?_ ?_)
  · unfold ORow
    rw [List.length_append]
    exact h2
  · exact ⟨h3.os, h3.tape, h3.output, Nat.le_trans (by simp) h3.size, fun k hk hne => (h3.block k (by simp; omega) hne).trans (Below.heap_alloc w _ k hk)⟩
  · simpa using h5

/-- The same where only the blocks below base matter. -/
theorem wp_app1b {ops : Array Oper} {rest : List Oper} {o : Oper} {a : Act} {Q : Exit → Act → World → Prop} (hgd : o.guard = none) (s x : Operand) (t : TypeId)
    (ho : o.op = .call { callee := .builtin .append, args := #[s, x], argTypes := #[t, t] })
    (base : Nat) (e : TypeId) (z : Value) (bytes : Nat) (ht : P.underlying t = some (.slice e)) (hinfo : (P.info? e).map (fun i => (i.zero, i.size, i.bytes)) = some (some z, 1, bytes)) (hz1 : z.cells.size = 1)
    (v : Value) (xs : List Value) (u : Value) (hs : a.eval s = v) (hown : ORow w base e v xs) (hu : u.oneCell' = true)
    (c : Nat) (hx : a.eval x = .slice (some ⟨w.heap.size, 0, none⟩) 1 c)
    (h63 : xs.length + 1 ≤ maxLen) (hbytes : (xs.length + 1) * bytes ≤ 140737488355328) (hbase : base ≤ w.heap.size)
    (h : ∀ v' w', ORow w' base e v' (xs ++ [u]) → Below base w w' → wpList P ops Q rest (a.put o.dst v') w') :
    wpList P ops Q (o :: rest) a (w.alloc (.cells #[u] e)) := by
  refine wp_app1 hgd s x t ho base e z bytes ht hinfo hz1 v xs u hs hown hu c hx h63 hbytes hbase fun v' w' h1 h2 _ => h v' w' h1 ?_
  refine ⟨h2.os, h2.tape, h2.output, h2.size, fun k hk => h2.block k (by omega) fun hc => ?_⟩
  have := World.ownsRow.lt hown k hc.symm
  omega
end

section
variable {P : Program} {w : World}
/-- Several elements appended at once, laid in a new block of their own just before. -/
theorem wp_appNb {ops : Array Oper} {rest : List Oper} {o : Oper} {a : Act} {Q : Exit → Act → World → Prop} (hgd : o.guard = none) (s x : Operand) (t : TypeId)
    (ho : o.op = .call { callee := .builtin .append, args := #[s, x], argTypes := #[t, t] })
    (base : Nat) (e : TypeId) (z : Value) (bytes : Nat) (ht : P.underlying t = some (.slice e)) (hinfo : (P.info? e).map (fun i => (i.zero, i.size, i.bytes)) = some (some z, 1, bytes)) (hz1 : z.cells.size = 1)
    (v : Value) (xs : List Value) (C : Array Value) (m : Nat) (hs : a.eval s = v) (hown : ORow w base e v xs) (hu : ∀ u ∈ C.toList, u.oneCell' = true) (hm : C.size = m)
    (c : Nat) (hx : a.eval x = .slice (some ⟨w.heap.size, 0, none⟩) m c)
    (h63 : xs.length + m ≤ maxLen) (hbytes : (xs.length + m) * bytes ≤ 140737488355328) (hbase : base ≤ w.heap.size)
    (h : ∀ v' w', ORow w' base e v' (xs ++ C.toList) → Below base w w' → wpList P ops Q rest (a.put o.dst v') w') :
    wpList P ops Q (o :: rest) a (w.alloc (.cells C e)) := by
  obtain ⟨i, hi, hz, hsize, hby⟩ := info_parts hinfo
  refine wpList_plain hgd fun K hK => ?_
  have hb0 : (w.alloc (.cells C e)).heap[w.heap.size]? = some (.cells C e (0, 0)) := heap_alloc_new w _
  obtain ⟨v', w', hrun, h2, h3, _, h5⟩ := run_append_own_at (P := P) (w.alloc (.cells C e)) base t o.type e i z 1 bytes ht hi hz hsize hby hz1 (by decide) v xs.length xs (World.ownsRow.alloc hown _)
    ⟨w.heap.size, 0, none⟩ m c C.toList (by simp [hm]) (World.news_of_block hb0) hu h63 hbytes (by simp; omega)
  unfold Oper.wp execOp
  simp only [ho, resolve, invoke, builtin, Sem.run_bind, Sem.run_pure, Result.andThen_ok, List.map_toArray, List.map_cons, List.map_nil, hs, hx, hrun]
  refine hK _ _ (h v' w' ?_ ?_)
  · unfold ORow
    rw [List.length_append, show C.toList.length = m from hm]
    exact h2
  · refine ⟨h3.os, h3.tape, h3.output, Nat.le_trans (by simp) h3.size, fun k hk => (h3.block k (by simp; omega) fun hc => ?_).trans (Below.heap_alloc w _ k (by omega))⟩
    have := World.ownsRow.lt hown k hc.symm
    omega
end

/-! Bytes. -/
def bV (b : UInt8) : Value := .int .u8 (b.toNat : Int)
def iV (n : Int) : Value := .int .i64 n
theorem bV_of (n : Int) (h0 : 0 ≤ n) (h1 : n < 256) : Value.int .u8 n = bV (UInt8.ofNat n.toNat) := by
  unfold bV
  have e1 : (UInt8.ofNat n.toNat).toNat = n.toNat := UInt8.toNat_ofNat_of_lt' (show n.toNat < 256 by omega)
  rw [e1]
  congr 1
  omega

section
variable {P : Program} {w w' : World} {base : Nat} {e : TypeId} {v : Value}
/-- string(b), b nil or the call's own. -/
theorem run_string_of_row (src dst : TypeId) (l : List UInt8) (hs : P.underlying src = some (.slice e)) (he : P.underlying e = some (.int .u8)) (hd : P.underlying dst = some .string) (h : ORow w base e v (l.map bV)) :
    (convert src dst v).run P w = .ok (.string ⟨l.toArray⟩) w := by
  rcases h.form with ⟨rfl, hn⟩ | ⟨g, cap, hv, _⟩
  · have : l = [] := by simpa using hn
    subst this
    exact Lib.run_convert_nil_bytes w src dst e 0 hs he hd
  · subst hv
    simp only [List.length_map]
    refine run_convert_bytes_back w src dst e ⟨g, 0, none⟩ cap l hs he hd fun j hj => ?_
    have hj' : j < (l.map bV).length := by simpa using hj
    obtain ⟨g', hg, _, _, hc⟩ := h.cell hj'
    injection hg with hg
    injection hg with hg
    subst hg
    have e1 : (⟨g, 0, none⟩ : Addr).add j = ⟨g, j, none⟩ := by unfold Addr.add; split <;> simp_all
    rw [e1, hc]
    simp [bV]
end

end Go.Proofs.YtjepnddndpmnnaaGreat
namespace Go.Proofs.YtjepnddndpmnnaaGreat
open Go.RowKit

def IRead (w : World) (v : Value) (xs : List Int) : Prop := ∃ A c, v = .slice A xs.length c ∧ (0 < xs.length → ∃ ad : Addr, A = some ad ∧ ∀ j (h : j < xs.length), w.cell? (ad.add j) = some (.int .i64 xs[j]))
def BRead (w : World) (v : Value) (xs : List UInt8) : Prop := ∃ A c, v = .slice A xs.length c ∧ (0 < xs.length → ∃ ad : Addr, A = some ad ∧ ∀ j (h : j < xs.length), w.cell? (ad.add j) = some (.int .u8 (xs[j].toNat : Int)))

theorem addr_add0 (g j : Nat) : (⟨g, 0, none⟩ : Addr).add j = ⟨g, j, none⟩ := by unfold Addr.add; split <;> simp_all
theorem IRead.nil (w : World) (c : Nat) : IRead w (.slice none 0 c) [] := ⟨none, c, rfl, fun h => absurd h (by simp)⟩
theorem BRead.nil (w : World) (c : Nat) : BRead w (.slice none 0 c) [] := ⟨none, c, rfl, fun h => absurd h (by simp)⟩
theorem IRead.of_row {w : World} {base : Nat} {e : TypeId} {v : Value} {xs : List Int} (h : ORow w base e v (xs.map iV)) : IRead w v xs := by
  rcases h.form with ⟨rfl, hn⟩ | ⟨g, cap, rfl, _⟩
  · have : xs = [] := by simpa using hn
    subst this
    exact IRead.nil _ _
  · refine ⟨some ⟨g, 0, none⟩, cap, by simp, fun _ => ⟨_, rfl, fun j hj => ?_⟩⟩
    obtain ⟨g', hg, _, _, hc⟩ := h.cell (k := j) (by simpa using hj)
    injection hg with hg
    injection hg with hg
    subst hg
    rw [addr_add0, hc]
    simp [iV]
theorem BRead.of_row {w : World} {base : Nat} {e : TypeId} {v : Value} {xs : List UInt8} (h : ORow w base e v (xs.map bV)) : BRead w v xs := by
  rcases h.form with ⟨rfl, hn⟩ | ⟨g, cap, rfl, _⟩
  · have : xs = [] := by simpa using hn
    subst this
    exact BRead.nil _ _
  · refine ⟨some ⟨g, 0, none⟩, cap, by simp, fun _ => ⟨_, rfl, fun j hj => ?_⟩⟩
    obtain ⟨g', hg, _, _, hc⟩ := h.cell (k := j) (by simpa using hj)
    injection hg with hg
    injection hg with hg
    subst hg
    rw [addr_add0, hc]
    simp [bV]
theorem IRead.of_cells {w : World} {x : Addr} {l c B : Nat} {zs : List Int} (hz : zs.length = c) (hl : l ≤ c) (hcell : ∀ i, i < zs.length → w.cell? (x.add i) = some (.int .i64 (zs.getD i 0))) (_hwz : ∀ n ∈ zs, (Lit.int .i64 n).wf = true) (hB : l ≤ B) :
    ∃ xs : List Int, IRead w (.slice (some x) l c) xs ∧ xs.length ≤ B := by
  have hlen : (zs.take l).length = l := by simp; omega
  refine ⟨zs.take l, ⟨some x, c, by rw [hlen], fun _ => ⟨x, rfl, fun j hj => ?_⟩⟩, by omega⟩
  rw [hcell j (by omega), List.getElem_take]
  simp [List.getD_eq_getElem?_getD, List.getElem?_eq_getElem (show j < zs.length by omega)]
theorem wf_u8 {n : Int} (h : (Lit.int .u8 n).wf = true) : 0 ≤ n ∧ n ≤ 255 := by simpa [Lit.wf, IntKind.min, IntKind.max, IntKind.signed, IntKind.bits] using h
theorem BRead.of_cells {w : World} {x : Addr} {l c B : Nat} {zs : List Int} (hz : zs.length = c) (hl : l ≤ c) (hcell : ∀ i, i < zs.length → w.cell? (x.add i) = some (.int .u8 (zs.getD i 0))) (hwz : ∀ n ∈ zs, (Lit.int .u8 n).wf = true) (hB : l ≤ B) :
    ∃ xs : List UInt8, BRead w (.slice (some x) l c) xs ∧ xs.length ≤ B := by
  have hlen : ((zs.take l).map fun n => UInt8.ofNat n.toNat).length = l := by simp; omega
  refine ⟨(zs.take l).map fun n => UInt8.ofNat n.toNat, ⟨some x, c, by rw [hlen], fun _ => ⟨x, rfl, fun j hj => ?_⟩⟩, by omega⟩
  have hj' : j < zs.length := by omega
  have hw := wf_u8 (hwz zs[j] (List.getElem_mem hj'))
  rw [hcell j hj']
  simp only [List.getElem_map, List.getElem_take]
  have e1 : (UInt8.ofNat (zs[j]).toNat).toNat = (zs[j]).toNat := UInt8.toNat_ofNat_of_lt' (show (zs[j]).toNat < 256 by omega)
  rw [e1, List.getD_eq_getElem?_getD, List.getElem?_eq_getElem hj']
  congr 2
  simp
  omega
theorem IRead.keep {w w' : World} {v : Value} {xs : List Int} (h : IRead w v xs) (hk : ∀ p : Addr, (∃ u, w.cell? p = some u) → w'.cell? p = w.cell? p) : IRead w' v xs := by
  obtain ⟨A, c, hv, hr⟩ := h
  refine ⟨A, c, hv, fun hp => ?_⟩
  obtain ⟨ad, hA, hc⟩ := hr hp
  exact ⟨ad, hA, fun j hj => (hk _ ⟨_, hc j hj⟩).trans (hc j hj)⟩
theorem BRead.keep {w w' : World} {v : Value} {xs : List UInt8} (h : BRead w v xs) (hk : ∀ p : Addr, (∃ u, w.cell? p = some u) → w'.cell? p = w.cell? p) : BRead w' v xs := by
  obtain ⟨A, c, hv, hr⟩ := h
  refine ⟨A, c, hv, fun hp => ?_⟩
  obtain ⟨ad, hA, hc⟩ := hr hp
  exact ⟨ad, hA, fun j hj => (hk _ ⟨_, hc j hj⟩).trans (hc j hj)⟩
theorem cell_lt {w : World} {p : Addr} {u : Value} (h : w.cell? p = some u) : p.block < w.heap.size := by
  rcases Nat.lt_or_ge p.block w.heap.size with hlt | hge
  · exact hlt
  · unfold World.cell? at h
    rw [Array.getElem?_eq_none hge] at h
    simp at h
theorem IRead.below {w w' : World} {v : Value} {xs : List Int} (h : IRead w v xs) (hb : Below w.heap.size w w') : IRead w' v xs :=
  h.keep fun _ ⟨_, hu⟩ => hb.cell (cell_lt hu)
theorem BRead.below {w w' : World} {v : Value} {xs : List UInt8} (h : BRead w v xs) (hb : Below w.heap.size w w') : BRead w' v xs :=
  h.keep fun _ ⟨_, hu⟩ => hb.cell (cell_lt hu)
end Go.Proofs.YtjepnddndpmnnaaGreat
namespace Go.Proofs.YtjepnddndpmnnaaGreat.Nm
open Go.RowKit

/-! What the walks lean on in the world: variables of the library. -/
theorem gMax : Tryz.prog.globalNamed "internal/bytealg.MaxLen" = some 0 := by kernel_rfl
theorem gRange : Tryz.prog.globalNamed "strconv.ErrRange" = some 2 := by kernel_rfl
theorem gPow : Tryz.prog.globalNamed "internal/strconv.uint64pow10" = some 5 := by kernel_rfl
set_option linter.unusedSectionVars false
variable [Tab]
structure StdW (w : World) : Prop where
  max : ∃ m, w.cell? ⟨0, 0, none⟩ = some (.int .i64 m)
  range : ∃ ev, w.cell? ⟨2, 0, none⟩ = some ev ∧ (ev = .nilIface ∨ ∃ te pe, ev = .iface te pe)
  pow : Lib.TabIs Tryz.prog w "internal/strconv.uint64pow10" .u64 Tab.zs
theorem StdW.below {w w' : World} (h : StdW w) (hb : Below w.heap.size w w') : StdW w' := by
  obtain ⟨⟨m, hm⟩, ⟨ev, hr, hv⟩, hp⟩ := h
  exact ⟨⟨m, (hb.cell (p := ⟨0, 0, none⟩) (cell_lt hm)).trans hm⟩, ⟨ev, (hb.cell (p := ⟨2, 0, none⟩) (cell_lt hr)).trans hr, hv⟩, Lib.tabBelow_of_tabIs hp w' hb⟩
theorem StdW.drewN {w : World} (h : StdW w) (n : Nat) : StdW (w.drewN n) := h.below (below_drewN (Below.refl _ _) n)

theorem expo_any (s : ByteArray) (w : World) (hw : StdW w) (hs : s.size ≤ 30) (h1 : sgn s.data.toList ≠ []) (h2 : (sgn s.data.toList).all dig = true) :
    Calls Tryz.prog 189 #[.string s] w fun e w' => e = .returned (.int .i64 (clampI (atoiI s.data.toList))) ∧ Below w.heap.size w w' := by
  rcases (atoi_tail _ h1 h2).1 with ha | ⟨v, ha⟩
  · have hv : atoiI s.data.toList = Lib.atoiSat s.data.toList := by unfold atoiI; rw [ha]; rfl
    rw [hv]
    have HA := Lib.hid ha
    clear ha hv
    obtain ⟨ev, hr, hev⟩ := hw.range
    go_enter Tryz.func189, Tryz.ntmps189
    go_wp2_with fail
    refine (Tryz.strconv_Atoi_range s (by omega) HA.out ev _ hr hev).mono ?_
    rintro e w1 ⟨N, rfl, _, _, hb⟩
    go_wp2
    go_ret
    exact ⟨rfl, hb⟩
  · have hv : atoiI s.data.toList = v := by unfold atoiI; rw [ha]; rfl
    rw [hv]
    have HA := Lib.hid ha
    clear ha hv
    go_enter Tryz.func189, Tryz.ntmps189
    go_wp2_with fail
    refine (Tryz.strconv_Atoi_ok s (by omega) v HA.out _).mono ?_
    rintro e w1 ⟨rfl, hw1⟩
    have hb : Below w.heap.size w w1 := by
      rcases hw1 with rfl | ⟨t, rfl⟩
      · exact Below.refl _ _
      · exact Lib.bytesWorld_below _ _ _
    clear hw1
    go_wp2
    go_ret
    exact ⟨rfl, hb⟩

theorem lex_lss (x y : List UInt8) : Op.bytesLess x y = decide (lexC x y < 0) := by
  induction x generalizing y with
  | nil => cases y <;> simp [Op.bytesLess, lexC]
  | cons a x ih =>
    cases y with
    | nil => simp [Op.bytesLess, lexC]
    | cons b y =>
      simp only [Op.bytesLess, lexC]
      by_cases h : a.toNat < b.toNat
      · have : a < b := by rwa [UInt8.lt_iff_toNat_lt]
        simp [h, this]
      · have : ¬ a < b := by rwa [UInt8.lt_iff_toNat_lt]
        by_cases h2 : b.toNat < a.toNat
        · have h3 : (a == b) = false := by rw [beq_eq_false_iff_ne]; intro hc; subst hc; omega
          simp [h, this, h2, h3]
        · have h3 : a = b := UInt8.toNat_inj.1 (by omega)
          subst h3
          simp [ih]
theorem lex_eq (x y : List UInt8) : (x == y) = decide (lexC x y = 0) := by
  by_cases h : x = y
  · subst h; rw [lexC_self]; simp
  · have : lexC x y ≠ 0 := fun hc => h (lexC_zero hc)
    simp [h, this]

/-- A decimal as the program holds it. -/
def decA (v : Val) : Value := .agg #[.int .i64 (sgI v), .string ⟨v.digs.toArray⟩, .int .i64 v.pow]

end Go.Proofs.YtjepnddndpmnnaaGreat.Nm
namespace Go.Proofs.YtjepnddndpmnnaaGreat.Nm
set_option linter.unusedSectionVars false
variable [Tab]

def sgL (l : List UInt8) : List UInt8 := if negL l then [45] else []
theorem sgL_split (l : List UInt8) : l = sgL l ++ unsigned l := by
  cases l with
  | nil => rfl
  | cons b l =>
    unfold sgL unsigned
    by_cases h : b.toNat = 45
    · have hb : b = 45 := UInt8.toNat_inj.1 h
      subst hb
      rfl
    · rw [show negL (b :: l) = false from decide_eq_false h]
      rfl
def PtOf (F pt : List UInt8) : Prop := (pt = [] ∧ F = []) ∨ (pt = 46 :: F ∧ F ≠ [])
def EtOf (T et : List UInt8) : Prop := (et = [] ∧ T = []) ∨ (∃ c, isE c = true ∧ et = c :: T ∧ sgn T ≠ [] ∧ (sgn T).all dig = true)
structure ShapeOf (p : Parts) (u pt et : List UInt8) : Prop where
  ne : p.whole ≠ []
  whole : p.whole.all dig = true
  part : p.part.all dig = true
  hpt : PtOf p.part pt
  het : EtOf p.tail et
  eq : u = p.whole ++ pt ++ et
theorem all_tw (l : List UInt8) : (l.takeWhile dig).all dig = true := by
  induction l with
  | nil => rfl
  | cons b l ih =>
    rw [List.takeWhile_cons]
    split
    · rw [List.all_cons, ih]; simp [*]
    · rfl
theorem shape_E (W F x pt : List UInt8) (c : UInt8) (hc : isE c = true) (hW : W ≠ []) (hW2 : W.all dig = true) (hF : F.all dig = true) (hp : PtOf F pt) (h : (partsE W F x).is = true) :
    ShapeOf (partsE W F x) (W ++ pt ++ (c :: x)) pt (c :: x) := by
  unfold partsE at h ⊢
  by_cases k : (sgn x).all dig = true
  · rw [if_pos k] at h ⊢
    exact ⟨hW, hW2, hF, hp, .inr ⟨c, hc, rfl, of_decide_eq_true h, k⟩, rfl⟩
  · rw [if_neg k] at h
    cases h
theorem shape_X (W F r pt : List UInt8) (hW : W ≠ []) (hW2 : W.all dig = true) (hF : F.all dig = true) (hp : PtOf F pt) (h : (partsX W F r).is = true) :
    ShapeOf (partsX W F r) (W ++ pt ++ r) pt r := by
  cases r with
  | nil => cases h
  | cons c x =>
    simp only [partsX] at h ⊢
    by_cases k : isE c = true
    · rw [if_pos k] at h ⊢; exact shape_E W F x pt c k hW hW2 hF hp h
    · rw [if_neg k] at h; cases h
theorem shape_W (W r : List UInt8) (hW2 : W.all dig = true) (hW : W ≠ []) (h : (partsW W r).is = true) : ∃ pt et, ShapeOf (partsW W r) (W ++ r) pt et := by
  cases r with
  | nil => exact ⟨[], [], hW, hW2, rfl, .inl ⟨rfl, rfl⟩, .inl ⟨rfl, rfl⟩, by simp [partsW]⟩
  | cons c r =>
    simp only [partsW] at h ⊢
    by_cases k : c.toNat = 46
    · have hc : c = 46 := UInt8.toNat_inj.1 k
      subst hc
      rw [if_pos k] at h ⊢
      unfold partsF at h ⊢
      have hs := List.takeWhile_append_dropWhile (p := dig) (l := r)
      by_cases k1 : r.dropWhile dig = []
      · rw [if_pos k1] at h ⊢
        rw [k1, List.append_nil] at hs
        have h2 : r.takeWhile dig ≠ [] := of_decide_eq_true h
        exact ⟨46 :: r.takeWhile dig, [], hW, hW2, all_tw r, .inr ⟨rfl, h2⟩, .inl ⟨rfl, rfl⟩, by simp [hs]⟩
      · rw [if_neg k1] at h ⊢
        by_cases k2 : r.takeWhile dig = []
        · rw [if_pos k2] at h; cases h
        · rw [if_neg k2] at h ⊢
          have := shape_X W (r.takeWhile dig) (r.dropWhile dig) (46 :: r.takeWhile dig) hW hW2 (all_tw r) (.inr ⟨rfl, k2⟩) h
          rw [show W ++ 46 :: List.takeWhile dig r ++ List.dropWhile dig r = W ++ 46 :: r from by simp [hs]] at this
          exact ⟨_, _, this⟩
    · rw [if_neg k] at h ⊢
      have := shape_X W [] (c :: r) [] hW hW2 rfl (.inl ⟨rfl, rfl⟩) h
      rw [List.append_nil] at this
      exact ⟨_, _, this⟩
theorem shape_of {l : List UInt8} (h : isB l = true) : ∃ pt et, ShapeOf (parts l) (unsigned l) pt et := by
  rw [← parts_is] at h
  unfold parts at h ⊢
  generalize unsigned l = u at *
  unfold partsU at h ⊢
  split at h
  · cases h
  · rename_i k1
    rw [if_neg k1]
    split at h
    · cases h
    · rename_i k2
      rw [if_neg k2]
      have hs := List.takeWhile_append_dropWhile (p := dig) (l := u)
      by_cases k3 : u.takeWhile dig = []
      · have k4 : u.dropWhile dig = [] := by
          apply Decidable.byContradiction
          intro hc
          exact k1 ⟨hc, k3⟩
        rw [k3, k4] at h
        cases h
      · have := shape_W _ _ (all_tw u) k3 h
        rw [hs] at this
        exact this

theorem dig_range {b : UInt8} (h : dig b = true) : 48 ≤ b.toNat ∧ b.toNat ≤ 57 := (dig_iff b).1 h
theorem isE_iff (b : UInt8) : isE b = true ↔ b.toNat = 101 ∨ b.toNat = 69 := by unfold isE; simp
theorem step_ascii {a : Int} {b : UInt8} (h : stepI a b.toNat ≠ 0) : b.toNat < 128 := by
  apply Decidable.byContradiction
  intro hc
  apply h
  unfold stepI
  repeat' split
  all_goals omega
theorem ascii_of_is {l : List UInt8} (h : isB l = true) : ∀ (j : Nat) b, l[j]? = some b → b.toNat < 128 := by
  have h1 := is_begins h
  unfold begB at h1
  have h2 := of_decide_eq_true h1
  intro j b hb
  have hj : j < l.length := by
    rcases Nat.lt_or_ge j l.length with h' | h'
    · exact h'
    · rw [List.getElem?_eq_none h'] at hb; cases hb
  rw [List.getElem?_eq_getElem hj] at hb
  injection hb with hb
  apply Decidable.byContradiction
  intro hc
  apply h2
  have e : l = l.take j ++ (b :: l.drop (j + 1)) := by
    have := List.take_append_drop j l
    rw [List.drop_eq_getElem_cons hj, hb] at this
    exact this.symm
  rw [e, mst_append, mst]
  have h0 : stepI (mst 1 (l.take j)) b.toNat = 0 := by
    apply Decidable.byContradiction
    intro hk
    exact hc (step_ascii hk)
  rw [h0, mst_0]

/-! Where the e stands, and the point. -/
def noE (l : List UInt8) : Prop := ∀ b ∈ l, isE b = false
theorem contains_e (b : UInt8) : ([101, 69] : List UInt8).contains b = isE b := by
  have e : isE b = decide (b.toNat = 101 ∨ b.toNat = 69) := rfl
  rw [e, Bool.eq_iff_iff]
  simp [← UInt8.toNat_inj]
theorem idx_none (l : List UInt8) (h : noE l) : Lib.indexAny l [101, 69] = -1 := by
  induction l with
  | nil => rfl
  | cons b l ih =>
    rw [Lib.indexAny, contains_e, h b (by simp), ih (fun x hx => h x (by simp [hx]))]
    rfl
theorem idx_hit (l : List UInt8) (c : UInt8) (r : List UInt8) (h : noE l) (hc : isE c = true) : Lib.indexAny (l ++ c :: r) [101, 69] = l.length := by
  induction l with
  | nil => simp only [List.nil_append]; rw [Lib.indexAny, contains_e, hc]; rfl
  | cons b l ih =>
    rw [List.cons_append, Lib.indexAny, contains_e, h b (by simp), ih (fun x hx => h x (by simp [hx]))]
    have : ((l.length : Int) == -1) = false := by rw [beq_eq_false_iff_ne]; omega
    rw [this]
    simp
theorem dig_noE {l : List UInt8} (h : l.all dig = true) : noE l := by
  intro b hb
  have := dig_range (List.all_eq_true.1 h b hb)
  cases he : isE b
  · rfl
  · rw [isE_iff] at he; omega
theorem sgL_noE (l : List UInt8) : noE (sgL l) := by
  unfold sgL
  split
  · intro b hb
    simp at hb
    subst hb
    rfl
  · intro b hb; cases hb
theorem noE_append {a b : List UInt8} (h1 : noE a) (h2 : noE b) : noE (a ++ b) := by
  intro x hx
  rcases List.mem_append.1 hx with h | h
  · exact h1 x h
  · exact h2 x h
theorem pt_noE {F pt : List UInt8} (h : PtOf F pt) (hF : F.all dig = true) : noE pt := by
  rcases h with ⟨rfl, _⟩ | ⟨rfl, _⟩
  · intro b hb; cases hb
  · intro b hb
    rcases List.mem_cons.1 hb with rfl | hb
    · rfl
    · exact dig_noE hF b hb
theorem point_none (l : List UInt8) (h : l.all dig = true) : Lib.index l [46] = -1 := by
  induction l with
  | nil => rfl
  | cons b l ih =>
    rw [List.all_cons, Bool.and_eq_true] at h
    have := dig_range h.1
    have hp : ([46] : List UInt8).isPrefixOf (b :: l) = false := by
      simp [List.isPrefixOf]
      intro hc; subst hc; simp at this
    rw [Lib.index, hp, ih h.2]
    rfl
theorem point_hit (l r : List UInt8) (h : l.all dig = true) : Lib.index (l ++ 46 :: r) [46] = l.length := by
  induction l with
  | nil => simp only [List.nil_append]; rw [Lib.index]; simp [List.isPrefixOf]
  | cons b l ih =>
    rw [List.all_cons, Bool.and_eq_true] at h
    have := dig_range h.1
    have hp : ([46] : List UInt8).isPrefixOf (b :: (l ++ 46 :: r)) = false := by
      simp [List.isPrefixOf]
      intro hc; subst hc; simp at this
    rw [List.cons_append, Lib.index, hp, ih h.2]
    have : ((l.length : Int) == -1) = false := by rw [beq_eq_false_iff_ne]; omega
    rw [this]
    simp
theorem cut_point {W F pt : List UInt8} (h : W.all dig = true) (hp : PtOf F pt) : (Lib.cut (W ++ pt) [46]).1 = W ∧ (Lib.cut (W ++ pt) [46]).2.1 = F := by
  unfold Lib.cut
  rcases hp with ⟨rfl, rfl⟩ | ⟨rfl, _⟩
  · rw [List.append_nil, point_none W h, if_neg (by omega)]
    exact ⟨rfl, rfl⟩
  · rw [point_hit W F h, if_pos (by omega)]
    refine ⟨?_, ?_⟩
    · simp
    · simp only [List.length_cons, List.length_nil, Int.toNat_natCast]
      rw [List.drop_append]
      simp
/-- What the number is cut into by its first e. -/
structure CutE (l : List UInt8) (H : List UInt8) (pt : List UInt8) : Prop where
  sh : ∃ et, ShapeOf (parts l) (unsigned l) pt et
  head : H = sgL l ++ ((parts l).whole ++ pt)
  neg : negL H = negL l
  uns : unsigned H = (parts l).whole ++ pt
theorem neg_head {l u W : List UInt8} (hW : W ≠ []) (hW2 : W.all dig = true) : negL (sgL l ++ (W ++ u)) = negL l ∧ unsigned (sgL l ++ (W ++ u)) = W ++ u := by
  cases hn : negL l
  · unfold sgL
    rw [hn]
    cases W with
    | nil => exact absurd rfl hW
    | cons b W =>
      rw [List.all_cons, Bool.and_eq_true] at hW2
      have := dig_range hW2.1
      have e : negL (b :: (W ++ u)) = false := decide_eq_false (by omega)
      refine ⟨e, ?_⟩
      unfold unsigned
      simp only [List.nil_append, List.cons_append, Bool.false_eq_true, if_false]
      rw [e]
      rfl
  · unfold sgL
    rw [hn]
    exact ⟨rfl, rfl⟩
theorem cutE {l : List UInt8} (h : isB l = true) :
    (∃ H pt, CutE l H pt ∧ l = H ∧ (parts l).tail = [] ∧ Lib.indexAny l [101, 69] = -1) ∨
    (∃ H pt c, CutE l H pt ∧ l = H ++ c :: (parts l).tail ∧ sgn (parts l).tail ≠ [] ∧ (sgn (parts l).tail).all dig = true ∧ Lib.indexAny l [101, 69] = H.length) := by
  obtain ⟨pt, et, hs⟩ := shape_of h
  have hn := neg_head (l := l) (u := pt) hs.ne hs.whole
  have hc : CutE l (sgL l ++ ((parts l).whole ++ pt)) pt := ⟨⟨et, hs⟩, rfl, hn.1, hn.2⟩
  have hno : noE (sgL l ++ ((parts l).whole ++ pt)) := noE_append (sgL_noE l) (noE_append (dig_noE hs.whole) (pt_noE hs.hpt hs.part))
  have e0 := sgL_split l
  rw [hs.eq] at e0
  rcases hs.het with ⟨rfl, ht⟩ | ⟨c, hce, rfl, h1, h2⟩
  · left
    rw [List.append_nil] at e0
    exact ⟨_, pt, hc, e0, ht, (congrArg (fun x => Lib.indexAny x [101, 69]) e0).trans (idx_none _ hno)⟩
  · right
    rw [← List.append_assoc] at e0
    refine ⟨_, pt, c, hc, e0, h1, h2, ?_⟩
    exact (congrArg (fun x => Lib.indexAny x [101, 69]) e0).trans (idx_hit _ c _ hno hce)
/-- What the program reckons the exponent to be. -/
def eprog (l : List UInt8) : Int := if (parts l).tail = [] then 0 else clampI (atoiI (parts l).tail)
theorem near_prog {l : List UInt8} (h : isB l = true) : Near (eexp (parts l).tail) (eprog l) := by
  unfold eprog
  rcases cutE h with ⟨_, _, _, _, h1, _⟩ | ⟨_, _, _, _, _, h1, h2, _⟩
  · rw [if_pos h1, h1]; exact .inl (by decide)
  · have : (parts l).tail ≠ [] := fun hc => h1 (by rw [hc]; rfl)
    rw [if_neg this]
    exact near_atoi _ h1 h2
end Go.Proofs.YtjepnddndpmnnaaGreat.Nm

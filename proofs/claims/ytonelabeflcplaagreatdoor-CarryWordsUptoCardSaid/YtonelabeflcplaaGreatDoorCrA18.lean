/-
  Rows of nodes that a call makes; bare, Copy.
  tree: Copy.
  tree: build and the closure that takes a kid.
  tree: build.
  tree: Build.
  tree: Walk.
  Same: the reference's, the program's (by slices.EqualFunc), and the reference's of lists of events.
  The program's Same, by slices.EqualFunc.
  tree: At; what a place selects.
-/
import Derived.Test.YtonelabeflcplaaGreatDoorCrA10
import Derived.Test.YtonelabeflcplaaGreatDoorCrA11
import Derived.Test.YtonelabeflcplaaGreatDoorCrA08
import Derived.Test.YtonelabeflcplaaGreatDoorCrA16
import Derived.Test.YtonelabeflcplaaGreatDoorCrA17
import Derived.Test.YtonelabeflcplaaGreatDoorCrA04
import Derived.Test.YtonelabeflcplaaGreatDoorCrA13
import Derived.Test.YtonelabeflcplaaGreatDoorCrA05
namespace Go.Proofs.YtonelabeflcplaaGreatDoor
open Go.RowKit Go.Maps
set_option maxRecDepth 100000
set_option linter.unusedSimpArgs false

theorem Tryz.infoNd : (Tryz.prog.info? 24).map (fun i => (i.zero, i.size, i.bytes)) = some (some (.agg #[.int .i64 0, .string ⟨#[]⟩, .string ⟨#[]⟩, .slice none 0 0]), 4, 64) := by kernel_rfl

def NodeBlk (w : World) (b : Nat) : Prop := ∃ cur, w.heap[b]? = some (.cells cur 24 (0, 0))
/-- A node with where its kids lie. -/
structure KV where
  n : Nd
  a : Option Addr
  c : Nat
def kvC (q : KV) : List Value := ndC q.n q.a q.c
def kvCs (l : List KV) : List Value := l.flatMap kvC
theorem kvCs_len (l : List KV) : (kvCs l).length = l.length * 4 := by
  induction l with
  | nil => rfl
  | cons x l ih => simp only [kvCs, List.flatMap_cons, List.length_append, List.length_cons] at ih ⊢; rw [ih]; simp [kvC, ndC]; omega
theorem kvCs_get : ∀ (l : List KV) (k : Nat) (h : k < l.length) (j : Nat) (_ : j < 4), (kvCs l)[k * 4 + j]? = (kvC l[k])[j]?
  | x :: l, 0, _, j, hj => by
    simp only [kvCs, List.flatMap_cons]
    rw [List.getElem?_append_left (by simp [kvC, ndC]; omega)]
    simp
  | x :: l, k + 1, h, j, hj => by
    have ih := kvCs_get l k (by simpa using h) j hj
    simp only [kvCs, List.flatMap_cons] at ih ⊢
    rw [List.getElem?_append_right (by simp [kvC, ndC]; omega), show (k + 1) * 4 + j - (kvC x).length = k * 4 + j by simp [kvC, ndC]; omega, ih]
    simp
theorem kvCs_snoc (l : List KV) (x : KV) : kvCs (l ++ [x]) = kvCs l ++ kvC x := by simp [kvCs]

/-- What is new: at or beyond base, at the head of a block of nodes. -/
def Fresh (base : Nat) (w : World) (b o : Nat) : Prop := base ≤ b ∧ o = 0 ∧ NodeBlk w b
/-- A row of nodes that the call has made; none of them leads back to it. -/
structure NRow (w : World) (base : Nat) (v : Value) (ks : List KV) : Prop where
  row : w.ownsRow base 24 4 v ks.length (kvCs ks)
  kids : ∀ q ∈ ks, NAt (fun b o => Fresh base w b o ∧ some b ≠ v.ownBlock) w q.n q.a q.c

section
variable {w w' : World} {base : Nat} {v v' : Value} {ks : List KV}
theorem cell_lt' {b : Nat} (h : ∃ i u, w.cell? ⟨b, i, none⟩ = some u) : b < w.heap.size := by obtain ⟨_, _, h⟩ := h; exact cell_lt h
theorem cells_same {b : Nat} (h : w'.heap[b]? = w.heap[b]?) : ∀ i u, w.cell? ⟨b, i, none⟩ = some u → w'.cell? ⟨b, i, none⟩ = some u := fun i u hu => by
  rw [← hu]; unfold World.cell?; rw [h]
theorem NRow.nil (w : World) (base : Nat) : NRow w base (.slice none 0 0) [] := ⟨World.ownsRow_nil w base _ 4, fun q hq => (by cases hq)⟩
theorem NRow.below (h : NRow w base v ks) (hb : Below w.heap.size w w') : NRow w' base v ks :=
  ⟨row_tch (base := base) (p := fun _ => False) h.row (Tch.of_below hb) (fun _ _ h => h), fun q hq => (h.kids q hq).keep fun b o hs hc =>
    ⟨cells_same (hb.block b (cell_lt' hc)), ⟨hs.1.1, hs.1.2.1, by obtain ⟨cur, hh⟩ := hs.1.2.2; exact ⟨cur, by rw [hb.block b (cell_lt' hc)]; exact hh⟩⟩, hs.2⟩⟩
/-- What a later step leaves of a node that is not in the row's block. -/
theorem own_step {n : Nd} {A : Option Addr} {c : Nat} (h : NAt (fun b o => Fresh base w b o ∧ some b ≠ v.ownBlock) w n A c) (hO : OStep w v w' v') : NAt (fun b o => Fresh base w' b o ∧ some b ≠ v'.ownBlock) w' n A c :=
  h.keep fun b o hs hc => by
    have hl := cell_lt' hc
    have he := hO.heap hl hs.2
    refine ⟨cells_same he, ⟨hs.1.1, hs.1.2.1, ?_⟩, fun e => ?_⟩
    · obtain ⟨cur, hh⟩ := hs.1.2.2
      exact ⟨cur, by rw [he]; exact hh⟩
    · rcases hO.own with h1 | ⟨g', h1, h2⟩
      · exact hs.2 (e.trans h1)
      · rw [h1] at e; injection e with e; omega
/-- A node appended. -/
theorem NRow.push (h : NRow w base v ks) {q : KV} (hq : NAt (fun b o => Fresh base w b o ∧ some b ≠ v.ownBlock) w q.n q.a q.c) (hO : OStep w v w' v') (hr : w'.ownsRow base 24 4 v' (ks.length + 1) (kvCs ks ++ kvC q)) : NRow w' base v' (ks ++ [q]) := by
  refine ⟨by rw [kvCs_snoc, List.length_append]; exact hr, fun q' hq' => ?_⟩
  rcases List.mem_append.1 hq' with hq' | hq'
  · exact own_step (h.kids q' hq') hO
  · simp at hq'
    subst hq'
    exact own_step hq hO
/-- The node whose kids the row holds. -/
theorem NRow.node (h : NRow w base v ks) (k : Int) (t s : ByteArray) : ∃ A c, v = .slice A ks.length c ∧ NAt (Fresh base w) w (.mk k t s (ks.map (·.n))) A c := by
  rcases h.row.2 with ⟨rfl, h0⟩ | ⟨g, c, cur, rfl, hg, hh, hnc, hm, hs, ht⟩
  · have hk : ks = [] := List.eq_nil_of_length_eq_zero h0
    subst hk
    exact ⟨none, 0, rfl, NAt.leaf _ _ _ _ _ _⟩
  · refine ⟨some ⟨g, 0, none⟩, c, rfl, ?_⟩
    rw [NAt.def_]
    refine ⟨by simp only [Nd.kids, List.length_map]; exact hnc, hm, fun hp => ⟨g, 0, rfl, ⟨hg, rfl, cur, hh⟩, fun j hj => ?_⟩⟩
    simp only [Nd.kids, List.length_map] at hj
    simp only [Nd.kids, List.getElem_map]
    have hat : ∀ i, i < 4 → w.cell? ⟨g, j * 4 + i, none⟩ = (kvC ks[j])[i]? := fun i hi => by
      rw [rowN_cell h.row (by omega)]
      exact kvCs_get ks j hj i hi
    rw [Nat.zero_add]
    exact ⟨ks[j].a, ks[j].c, hat 0 (by omega), hat 1 (by omega), hat 2 (by omega), hat 3 (by omega), (h.kids _ (List.getElem_mem hj)).weaken fun b o hs => hs.1⟩
/-- A node that is wholly beyond what a row holds. -/
theorem own_fresh {B : Nat} {n : Nd} {A : Option Addr} {c : Nat} (h : NAt (Fresh B w) w n A c) (hB : base ≤ B) (hv : ∀ g, v.ownBlock = some g → g < B) : NAt (fun b o => Fresh base w b o ∧ some b ≠ v.ownBlock) w n A c :=
  h.weaken fun b o hs => ⟨⟨Nat.le_trans hB hs.1, hs.2⟩, fun e => by have := hv b e.symm; have := hs.1; omega⟩
theorem Fresh.below {n : Nd} {A : Option Addr} {c : Nat} (h : NAt (Fresh base w) w n A c) (hb : Below w.heap.size w w') : NAt (Fresh base w') w' n A c :=
  h.keep fun b _ hs hc => ⟨cells_same (hb.block b (cell_lt' hc)), hs.1, hs.2.1, by obtain ⟨cur, hh⟩ := hs.2.2; exact ⟨cur, by rw [hb.block b (cell_lt' hc)]; exact hh⟩⟩
theorem NRow.set (h : NRow w base v ks) {p : Addr} (hp : p.block < base) (u : Value) : NRow (w.setCell p u) base v ks :=
  ⟨World.ownsRow.kept h.row (only_setCell (g := p.block) (World.grownBy.refl w _) (.inl rfl) u) (.inr fun e => by have := (World.ownsRow.lt h.row p.block e).1; omega), fun q hq => (h.kids q hq).keep fun b _ hs _ => by
    have hh := Below.heap_setCell w p u b (by have := hs.1.1; omega)
    exact ⟨cells_same hh, ⟨hs.1.1, hs.1.2.1, by obtain ⟨cur, h1⟩ := hs.1.2.2; exact ⟨cur, by rw [hh]; exact h1⟩⟩, hs.2⟩⟩
theorem Fresh.set {n : Nd} {A : Option Addr} {c : Nat} (h : NAt (Fresh base w) w n A c) {p : Addr} (hp : p.block < base) (u : Value) : NAt (Fresh base (w.setCell p u)) (w.setCell p u) n A c :=
  h.keep fun b _ hs _ => by
    have hh := Below.heap_setCell w p u b (by have := hs.1; omega)
    exact ⟨cells_same hh, hs.1, hs.2.1, by obtain ⟨cur, h1⟩ := hs.2.2; exact ⟨cur, by rw [hh]; exact h1⟩⟩
theorem Fresh.lower {B : Nat} {n : Nd} {A : Option Addr} {c : Nat} (h : NAt (Fresh B w) w n A c) (hB : base ≤ B) : NAt (Fresh base w) w n A c := h.weaken fun _ _ hs => ⟨Nat.le_trans hB hs.1, hs.2⟩
theorem NRow.hold (h : NRow w base v ks) (hh : ∀ i, base ≤ i → i < w.heap.size → w'.heap[i]? = w.heap[i]?) : NRow w' base v ks := by
  refine ⟨⟨h.row.1, ?_⟩, fun q hq => (h.kids q hq).keep fun b _ hs hc => ?_⟩
  · rcases h.row.2 with hn | ⟨g, cap, cur, hv, hg, hb, r⟩
    · exact .inl hn
    · exact .inr ⟨g, cap, cur, hv, hg, by rw [hh g hg (Blk.lt hb)]; exact hb, r⟩
  · have he := hh b hs.1.1 (cell_lt' hc)
    exact ⟨cells_same he, ⟨hs.1.1, hs.1.2.1, by obtain ⟨cur, h1⟩ := hs.1.2.2; exact ⟨cur, by rw [he]; exact h1⟩⟩, hs.2⟩
theorem Fresh.hold {n : Nd} {A : Option Addr} {c : Nat} (h : NAt (Fresh base w) w n A c) (hh : ∀ i, base ≤ i → i < w.heap.size → w'.heap[i]? = w.heap[i]?) : NAt (Fresh base w') w' n A c :=
  h.keep fun b _ hs hc => by
    have he := hh b hs.1 (cell_lt' hc)
    exact ⟨cells_same he, hs.1, hs.2.1, by obtain ⟨cur, h1⟩ := hs.2.2; exact ⟨cur, by rw [he]; exact h1⟩⟩
theorem NRow.lt (h : NRow w base v ks) : ∀ g, v.ownBlock = some g → g < w.heap.size := fun g hg => (World.ownsRow.lt h.row g hg).2
theorem NRow.shape (h : NRow w base v ks) : ∃ A c, v = .slice A ks.length c := by
  rcases h.row.2 with ⟨rfl, h0⟩ | ⟨g, cap, cur, rfl, _⟩
  · exact ⟨_, _, by rw [h0]⟩
  · exact ⟨_, _, rfl⟩
end
theorem NRow.shapeN {w : World} {base : Nat} {v : Value} {ks : List KV} (h : NRow w base v ks) {n : Nat} (hn : ks.length = n) : ∃ A c, v = .slice A n c := by subst hn; exact h.shape
theorem cellsOf4 (w : World) (a b c d : Value) (t : TypeId) : ∀ j u, [a, b, c, d][j]? = some u → (w.alloc (.cells #[a, b, c, d] t)).cell? ((⟨w.heap.size, 0, none⟩ : Addr).add j) = some u := by
  intro j u h
  rw [addr_add0, (Blk.new w t #[a, b, c, d]).cell j]
  rw [← h]; simp

end Go.Proofs.YtonelabeflcplaaGreatDoor
namespace Go.Proofs.YtonelabeflcplaaGreatDoor
open Go.RowKit Go.Maps
set_option maxRecDepth 100000
set_option linter.unusedSimpArgs false

/-- A node that has been made anew. -/
def CPost (n : Nd) (w : World) (e : Ending) (w' : World) : Prop :=
  ∃ A c, e = .returned (.agg #[.int .i64 n.k, .string n.t, .string n.v, .slice A n.kids.length c]) ∧ NAt (Fresh w.heap.size w') w' n A c ∧ Below w.heap.size w w'

end Go.Proofs.YtonelabeflcplaaGreatDoor
namespace Go.Proofs.YtonelabeflcplaaGreatDoor
open Go.RowKit Go.Maps
set_option maxRecDepth 100000
set_option linter.unusedSimpArgs false

section
variable {P : Program} {ops : Array Oper} {Q : Exit → Act → World → Prop} {md : Region.Mode} {S : World → Prop} {Es : List Nat}
/-- One of several operations comes up. -/
def GStep (P : Program) (md : Region.Mode) (ops : Array Oper) (Q : Exit → Act → World → Prop) (Es : List Nat) (S : World → Prop) (fuel : Nat) (listed : Array Bool) (a : Act) (w : World) (i : Nat) : Prop :=
  ∃ o, ops[i]? = some o ∧ ∀ K' : Act → World → Prop, Shut (∀ a w, (i ∉ Es → S w) → ((i ∉ Es → S w) → wpAnyG P md ops Q Es S fuel (listed.setIfInBounds i true) a w) → K' a w) → if Region.wanted o (yielded ops a.tmps) = true then Oper.wp P o a w K' Q else K' (a.put o.dst undef) w
theorem g_all {rs : List Nat} {fuel : Nat} {listed : Array Bool} {a : Act} {w : World} (hr : Region.ready md ops listed = rs) (hne : rs ≠ []) (h : ∀ i ∈ rs, GStep P md ops Q Es S fuel listed a w i) : wpAnyG P md ops Q Es S (fuel + 1) listed a w := by
  refine ⟨fun h0 => absurd (hr ▸ h0) hne, fun j hj => ?_⟩
  rw [hr] at hj
  obtain ⟨o, ho, h2⟩ := h j hj
  exact wpOp_step ho (fun K' hK => h2 K' (fun a w hS hW => hK a w ⟨hS, hW hS⟩))
end

section
variable {P : Program} {ops : Array Oper} {Q : Exit → Act → World → Prop} {md : Region.Mode} {S : World → Prop} {Es : List Nat}
theorem g_of_any : ∀ (fuel : Nat) (listed : Array Bool) (a : Act) (w : World), (∀ i, listed.getD i true = false → i ∈ Es) → wpAny P md ops Q fuel listed a w → wpAnyG P md ops Q Es S fuel listed a w
  | 0, _, _, _, _, h => h
  | fuel + 1, listed, a, w, hE, h => ⟨h.1, fun i hi => by
    have hiE := hE i (mem_ready.1 hi).1
    refine wpOp_mono (fun a' w' h' => ⟨fun hn => absurd hiE hn, g_of_any fuel _ a' w' (fun k hk => hE k ?_) h'⟩) (h.2 i hi)
    by_cases e : i = k
    · subst e; exact (mem_ready.1 hi).1
    · rw [getD_set_ne true e] at hk; exact hk⟩
theorem g_free {fuel : Nat} {listed : Array Bool} {a : Act} {w : World} (hE : (List.range listed.size).all (fun i => listed.getD i true || Es.contains i) = true) (h : wpAny P md ops Q fuel listed a w) : wpAnyG P md ops Q Es S fuel listed a w := by
  refine g_of_any fuel listed a w (fun i hi => ?_) h
  have hl : i < listed.size := by
    rcases Nat.lt_or_ge i listed.size with h | h
    · exact h
    · simp [Array.getElem?_eq_none h] at hi
  have := List.all_eq_true.1 hE i (List.mem_range.2 hl)
  rw [hi] at this
  simpa using this
end

/-- A list of events, but for its first. -/
theorem ERead.tail {w : World} {b o c : Nat} {x : Ev} {xs : List Ev} (h : ERead w (.slice (some ⟨b, o, none⟩) (xs.length + 1) c) (x :: xs)) : ERead w (.slice (some (if c = 1 then ⟨b, o, none⟩ else ⟨b, o + 3, none⟩)) xs.length (c - 1)) xs := by
  obtain ⟨A, c', hv, h1, h2, h3⟩ := h
  injection hv with e1 e2 e3
  subst e1 e3
  simp only [List.length_cons] at h1
  obtain ⟨b', o', hA, hc⟩ := h3 (by simp)
  injection hA with hA
  injection hA with hb ho
  subst hb ho
  refine ⟨_, _, rfl, by omega, by omega, fun hp => ⟨b, o + 3, by rw [if_neg (by omega)], fun j hj => ?_⟩⟩
  obtain ⟨q0, q1, q2⟩ := hc (j + 1) (by simp; omega)
  simp only [List.getElem_cons_succ] at q0 q1 q2
  rw [show o + 3 + j * 3 = o + (j + 1) * 3 by omega]
  exact ⟨q0, q1, q2⟩
theorem ERead.head {w : World} {v : Value} {x : Ev} {xs : List Ev} (h : ERead w v (x :: xs)) : ∃ b o c, v = .slice (some ⟨b, o, none⟩) (xs.length + 1) c ∧ xs.length + 1 ≤ c ∧ c ≤ maxLen ∧ w.cell? ⟨b, o, none⟩ = some (.int .i64 x.k) ∧ w.cell? ⟨b, o + 1, none⟩ = some (.string x.t) ∧ w.cell? ⟨b, o + 2, none⟩ = some (.string x.v) := by
  obtain ⟨A, c, rfl, h1, h2, h3⟩ := h
  obtain ⟨b, o, rfl, hc⟩ := h3 (by simp)
  obtain ⟨q0, q1, q2⟩ := hc 0 (by simp)
  refine ⟨b, o, c, by simp, by simpa using h1, h2, ?_, ?_, ?_⟩
  · simpa using q0
  · simpa using q1
  · simpa using q2

/-- A list of events that lies below a bound. -/
def ELow (B : Nat) (w : World) (v : Value) (xs : List Ev) : Prop := ERead w v xs ∧ (0 < xs.length → ∃ b o l c, v = .slice (some ⟨b, o, none⟩) l c ∧ b < B)
theorem ELow.hold {B : Nat} {w w' : World} {v : Value} {xs : List Ev} (h : ELow B w v xs) (hh : ∀ i, i < B → w'.heap[i]? = w.heap[i]?) : ELow B w' v xs := by
  obtain ⟨⟨A, c, rfl, h1, h2, h3⟩, hl⟩ := h
  refine ⟨⟨A, c, rfl, h1, h2, fun hp => ?_⟩, hl⟩
  obtain ⟨b, o, rfl, hc⟩ := h3 hp
  obtain ⟨b', o', l', c', hv, hb⟩ := hl hp
  injection hv with hv
  injection hv with hv
  injection hv with e1
  subst e1
  have hs := cells_same (hh b hb)
  exact ⟨b, o, rfl, fun j hj => ⟨hs _ _ (hc j hj).1, hs _ _ (hc j hj).2.1, hs _ _ (hc j hj).2.2⟩⟩
theorem ELow.below {B : Nat} {w w' : World} {v : Value} {xs : List Ev} (h : ELow B w v xs) (hb : Below w.heap.size w w') (hB : B ≤ w.heap.size) : ELow B w' v xs := h.hold fun i hi => hb.block i (by omega)
theorem ELow.head {B : Nat} {w : World} {v : Value} {x : Ev} {xs : List Ev} (h : ELow B w v (x :: xs)) : ∃ b o c, v = .slice (some ⟨b, o, none⟩) (xs.length + 1) c ∧ xs.length + 1 ≤ c ∧ c ≤ maxLen ∧ w.cell? ⟨b, o, none⟩ = some (.int .i64 x.k) ∧ w.cell? ⟨b, o + 1, none⟩ = some (.string x.t) ∧ w.cell? ⟨b, o + 2, none⟩ = some (.string x.v) ∧
    ELow B w (.slice (some (if c = 1 then ⟨b, o, none⟩ else ⟨b, o + 3, none⟩)) xs.length (c - 1)) xs := by
  obtain ⟨b, o, c, rfl, h1, h2, q0, q1, q2⟩ := h.1.head
  refine ⟨b, o, c, rfl, h1, h2, q0, q1, q2, ERead.tail h.1, fun hp => ?_⟩
  obtain ⟨b', o', l', c', hv, hb⟩ := h.2 (by simp)
  injection hv with hv
  injection hv with hv
  injection hv with e1
  subst e1
  exact ⟨b, o + 3, _, _, by rw [if_neg (by omega)], hb⟩

/-- What build tells. -/
def BPost (B : Nat) (n : Nd) (rest : List Ev) (w : World) (e : Ending) (w' : World) : Prop :=
  ∃ A c A2 c2, e = .returned (.tuple #[.agg #[.int .i64 n.k, .string n.t, .string n.v, .slice A n.kids.length c], .slice A2 rest.length c2]) ∧ NAt (Fresh w.heap.size w') w' n A c ∧ ELow B w' (.slice A2 rest.length c2) rest ∧ Below w.heap.size w w'
theorem set4 (xs : List Value) (L : Nat) (h : xs.length = L * 4) (z0 z1 z2 z3 a b c d : Value) : ((((xs ++ [z0, z1, z2, z3]).set (L * 4) a).set (L * 4 + 1) b).set (L * 4 + 2) c).set (L * 4 + 3) d = xs ++ [a, b, c, d] := by
  rw [List.set_append_right _ _ (by omega), List.set_append_right _ _ (by omega), List.set_append_right _ _ (by omega), List.set_append_right _ _ (by omega), h, Nat.sub_self,
    show L * 4 + 1 - L * 4 = 1 by omega, show L * 4 + 2 - L * 4 = 2 by omega, show L * 4 + 3 - L * 4 = 3 by omega]
  rfl
theorem NRow.fill {w6 w7 W : World} {base g7 c7 : Nat} {v : Value} {ks : List KV} {q : KV} (hN : NRow w6 base v ks) (hO : OStep w6 v w7 (.slice (some ⟨g7, 0, none⟩) (ks.length + 1) c7)) (hq : NAt (fun b o => Fresh base w6 b o ∧ some b ≠ v.ownBlock) w6 q.n q.a q.c)
    (hrow : W.ownsRow base 24 4 (.slice (some ⟨g7, 0, none⟩) (ks.length + 1) c7) (ks.length + 1) (kvCs ks ++ kvC q)) (hh : ∀ i, base ≤ i → i ≠ g7 → W.heap[i]? = w7.heap[i]?) : NRow W base (.slice (some ⟨g7, 0, none⟩) (ks.length + 1) c7) (ks ++ [q]) := by
  have key : ∀ {n : Nd} {A : Option Addr} {c : Nat}, NAt (fun b o => Fresh base w6 b o ∧ some b ≠ v.ownBlock) w6 n A c → NAt (fun b o => Fresh base W b o ∧ some b ≠ (Value.slice (some ⟨g7, 0, none⟩) (ks.length + 1) c7).ownBlock) W n A c := fun h =>
    (own_step h hO).keep fun b o hs hc => by
      have he := hh b hs.1.1 (fun e => hs.2 (by subst e; rfl))
      exact ⟨cells_same he, ⟨hs.1.1, hs.1.2.1, by obtain ⟨cur, h1⟩ := hs.1.2.2; exact ⟨cur, by rw [he]; exact h1⟩⟩, hs.2⟩
  refine ⟨by rw [kvCs_snoc, List.length_append]; exact hrow, fun q' hq' => ?_⟩
  rcases List.mem_append.1 hq' with hq' | hq'
  · exact key (hN.kids q' hq')
  · simp at hq'
    subst hq'
    exact key hq

theorem shape_kids {k : Int} {n : Nat} (h : okShape k n = true) : (opensK k = true) ∨ (opensK k = false ∧ leafK k = true ∧ n = 0 ∧ k ≠ 8) ∨ (opensK k = false ∧ k = 8 ∧ n = 1) := by
  unfold okShape at h
  cases ho : opensK k with
  | true => exact .inl rfl
  | false =>
    rw [ho] at h
    simp only [Bool.false_or, Bool.or_eq_true, Bool.and_eq_true, decide_eq_true_iff] at h
    rcases h with ⟨h1, h2⟩ | ⟨h1, h2⟩
    · exact .inr (.inl ⟨rfl, h1, h2, fun e => by subst e; exact absurd h1 (by decide)⟩)
    · exact .inr (.inr ⟨rfl, h1, h2⟩)
theorem flat_sizes {k : Int} {t v : ByteArray} {kids : List Nd} (h : ∀ x ∈ flat (.mk k t v kids), x.t.size ≤ 140737488355328 ∧ x.v.size ≤ 140737488355328) : (t.size ≤ 140737488355328 ∧ v.size ≤ 140737488355328) ∧ ∀ m ∈ kids, ∀ x ∈ flat m, x.t.size ≤ 140737488355328 ∧ x.v.size ≤ 140737488355328 := by
  refine ⟨h ⟨k, t, v⟩ (by simp [flat]), fun m hm x hx => h x ?_⟩
  obtain ⟨a, b, rfl⟩ := List.append_of_mem hm
  simp [flat, flatL_append, flatL, hx]

end Go.Proofs.YtonelabeflcplaaGreatDoor
namespace Go.Proofs.YtonelabeflcplaaGreatDoor
open Go.RowKit Go.Maps
set_option maxRecDepth 100000
set_option linter.unusedSimpArgs false

/-- The two boxes of build. -/
def Two (W1 X : World) (nb rb : Nat) : Prop :=
  nb ≠ rb ∧ W1.heap.size ≤ nb ∧ W1.heap.size ≤ rb ∧ Blk X nb 24 #[.int .i64 0, .string ⟨#[]⟩, .string ⟨#[]⟩, .slice none 0 0] ∧ Blk X rb 38 #[.slice none 0 0] ∧ Below W1.heap.size W1 X
theorem drew_size (w : World) : w.drew.heap.size = w.heap.size := rfl
theorem below_dr (w : World) : Below w.heap.size w w.drew := below_drew (Below.refl _ _)
section
variable {w w5 : World}
theorem twoA (h : Below w.drew.heap.size w.drew w5) : Two w ((w5.alloc (.cells #[.int .i64 0, .string ⟨#[]⟩, .string ⟨#[]⟩, .slice none 0 0] 24)).alloc (.cells #[.slice none 0 0] 38)) w5.heap.size (w5.heap.size + 1) := by
  have hs := h.size
  rw [drew_size] at hs
  have hb := (below_dr w).trans h
  have a := (Blk.new w5 24 #[.int .i64 0, .string ⟨#[]⟩, .string ⟨#[]⟩, .slice none 0 0])
  have b := (Blk.new (w5.alloc (.cells #[.int .i64 0, .string ⟨#[]⟩, .string ⟨#[]⟩, .slice none 0 0] 24)) 38 #[.slice none 0 0])
  rw [World.size_alloc] at b
  exact ⟨by omega, hs, by omega, a.below ((Below.refl _ _).alloc (Nat.le_refl _) _) a.lt, b, (hb.alloc hs _).alloc (by simp; omega) _⟩
theorem twoB (h : Below w.drew.heap.size w.drew w5) : Two w ((w5.alloc (.cells #[.slice none 0 0] 38)).alloc (.cells #[.int .i64 0, .string ⟨#[]⟩, .string ⟨#[]⟩, .slice none 0 0] 24)) (w5.heap.size + 1) w5.heap.size := by
  have hs := h.size
  rw [drew_size] at hs
  have hb := (below_dr w).trans h
  have a := (Blk.new w5 38 #[.slice none 0 0])
  have b := (Blk.new (w5.alloc (.cells #[.slice none 0 0] 38)) 24 #[.int .i64 0, .string ⟨#[]⟩, .string ⟨#[]⟩, .slice none 0 0])
  rw [World.size_alloc] at b
  exact ⟨by omega, by omega, hs, b, a.below ((Below.refl _ _).alloc (Nat.le_refl _) _) a.lt, (hb.alloc hs _).alloc (by simp; omega) _⟩
theorem twoC (h : Below (w.alloc (.cells #[.int .i64 0, .string ⟨#[]⟩, .string ⟨#[]⟩, .slice none 0 0] 24)).drew.heap.size (w.alloc (.cells #[.int .i64 0, .string ⟨#[]⟩, .string ⟨#[]⟩, .slice none 0 0] 24)).drew w5) : Two w (w5.alloc (.cells #[.slice none 0 0] 38)) w.heap.size w5.heap.size := by
  have h : Below (w.drew.alloc (.cells #[.int .i64 0, .string ⟨#[]⟩, .string ⟨#[]⟩, .slice none 0 0] 24)).heap.size (w.drew.alloc (.cells #[.int .i64 0, .string ⟨#[]⟩, .string ⟨#[]⟩, .slice none 0 0] 24)) w5 := h
  have hs := h.size
  rw [World.size_alloc, drew_size] at hs
  have hb := ((below_dr w).alloc (Nat.le_refl _) (.cells #[.int .i64 0, .string ⟨#[]⟩, .string ⟨#[]⟩, .slice none 0 0] 24)).trans (h.mono (by rw [World.size_alloc, drew_size]; omega))
  have a := (Blk.new w.drew 24 #[.int .i64 0, .string ⟨#[]⟩, .string ⟨#[]⟩, .slice none 0 0])
  rw [drew_size] at a
  have a5 := a.below h a.lt
  exact ⟨by omega, Nat.le_refl _, by omega, a5.below ((Below.refl _ _).alloc (Nat.le_refl _) _) a5.lt, Blk.new w5 _ _, hb.alloc (by omega) _⟩
theorem twoE (h : Below (w.alloc (.cells #[.slice none 0 0] 38)).drew.heap.size (w.alloc (.cells #[.slice none 0 0] 38)).drew w5) : Two w (w5.alloc (.cells #[.int .i64 0, .string ⟨#[]⟩, .string ⟨#[]⟩, .slice none 0 0] 24)) w5.heap.size w.heap.size := by
  have h : Below (w.drew.alloc (.cells #[.slice none 0 0] 38)).heap.size (w.drew.alloc (.cells #[.slice none 0 0] 38)) w5 := h
  have hs := h.size
  rw [World.size_alloc, drew_size] at hs
  have hb := ((below_dr w).alloc (Nat.le_refl _) (.cells #[.slice none 0 0] 38)).trans (h.mono (by rw [World.size_alloc, drew_size]; omega))
  have a := (Blk.new w.drew 38 #[.slice none 0 0])
  rw [drew_size] at a
  have a5 := a.below h a.lt
  exact ⟨by omega, by omega, Nat.le_refl _, Blk.new w5 _ _, a5.below ((Below.refl _ _).alloc (Nat.le_refl _) _) a5.lt, hb.alloc (by omega) _⟩
theorem twoD (h : Below ((w.alloc (.cells #[.int .i64 0, .string ⟨#[]⟩, .string ⟨#[]⟩, .slice none 0 0] 24)).alloc (.cells #[.slice none 0 0] 38)).drew.heap.size ((w.alloc (.cells #[.int .i64 0, .string ⟨#[]⟩, .string ⟨#[]⟩, .slice none 0 0] 24)).alloc (.cells #[.slice none 0 0] 38)).drew w5) : Two w w5 w.heap.size (w.heap.size + 1) := by
  have h : Below ((w.drew.alloc (.cells #[.int .i64 0, .string ⟨#[]⟩, .string ⟨#[]⟩, .slice none 0 0] 24)).alloc (.cells #[.slice none 0 0] 38)).heap.size ((w.drew.alloc (.cells #[.int .i64 0, .string ⟨#[]⟩, .string ⟨#[]⟩, .slice none 0 0] 24)).alloc (.cells #[.slice none 0 0] 38)) w5 := h
  have hb := (((below_dr w).alloc (Nat.le_refl _) (.cells #[.int .i64 0, .string ⟨#[]⟩, .string ⟨#[]⟩, .slice none 0 0] 24)).alloc (by rw [World.size_alloc, drew_size]; omega) (.cells #[.slice none 0 0] 38)).trans (h.mono (by simp [drew_size] <;> omega))
  have a := (Blk.new w.drew 24 #[.int .i64 0, .string ⟨#[]⟩, .string ⟨#[]⟩, .slice none 0 0])
  have b := (Blk.new (w.drew.alloc (.cells #[.int .i64 0, .string ⟨#[]⟩, .string ⟨#[]⟩, .slice none 0 0] 24)) 38 #[.slice none 0 0])
  have a1 := a.below ((Below.refl _ _).alloc (Nat.le_refl _) (.cells #[.slice none 0 0] 38)) a.lt
  rw [World.size_alloc] at b
  exact ⟨by omega, Nat.le_refl _, by omega, a1.below h a1.lt, b.below h b.lt, hb⟩
theorem twoF (h : Below ((w.alloc (.cells #[.slice none 0 0] 38)).alloc (.cells #[.int .i64 0, .string ⟨#[]⟩, .string ⟨#[]⟩, .slice none 0 0] 24)).drew.heap.size ((w.alloc (.cells #[.slice none 0 0] 38)).alloc (.cells #[.int .i64 0, .string ⟨#[]⟩, .string ⟨#[]⟩, .slice none 0 0] 24)).drew w5) : Two w w5 (w.heap.size + 1) w.heap.size := by
  have h : Below ((w.drew.alloc (.cells #[.slice none 0 0] 38)).alloc (.cells #[.int .i64 0, .string ⟨#[]⟩, .string ⟨#[]⟩, .slice none 0 0] 24)).heap.size ((w.drew.alloc (.cells #[.slice none 0 0] 38)).alloc (.cells #[.int .i64 0, .string ⟨#[]⟩, .string ⟨#[]⟩, .slice none 0 0] 24)) w5 := h
  have hb := (((below_dr w).alloc (Nat.le_refl _) (.cells #[.slice none 0 0] 38)).alloc (by rw [World.size_alloc, drew_size]; omega) (.cells #[.int .i64 0, .string ⟨#[]⟩, .string ⟨#[]⟩, .slice none 0 0] 24)).trans (h.mono (by simp [drew_size] <;> omega))
  have a := (Blk.new w.drew 38 #[.slice none 0 0])
  have b := (Blk.new (w.drew.alloc (.cells #[.slice none 0 0] 38)) 24 #[.int .i64 0, .string ⟨#[]⟩, .string ⟨#[]⟩, .slice none 0 0])
  have a1 := a.below ((Below.refl _ _).alloc (Nat.le_refl _) (.cells #[.int .i64 0, .string ⟨#[]⟩, .string ⟨#[]⟩, .slice none 0 0] 24)) a.lt
  rw [World.size_alloc] at b
  exact ⟨by omega, by omega, Nat.le_refl _, b.below h b.lt, a1.below h a1.lt, hb⟩
end
theorem bpost_of {B : Nat} {k : Int} {t s : ByteArray} {kids : List Nd} {rest : List Ev} {w WW : World} {A A2 : Option Addr} {c c2 m : Nat} {ks : List KV} (hNR : NRow WW m (.slice A ks.length c) ks) (hmap : ks.map (·.n) = kids) (hE : ELow B WW (.slice A2 rest.length c2) rest)
    (hbW : Below w.heap.size w WW) (hm : w.heap.size < m) (hBw : B ≤ w.heap.size) (u0 u1 u2 u3 : Value) :
    BPost B (.mk k t s kids) rest w (.returned (.tuple #[.agg #[.int .i64 k, .string t, .string s, .slice A ks.length c], .slice A2 rest.length c2])) ((((WW.setCell ⟨w.heap.size, 0, none⟩ u0).setCell ⟨w.heap.size, 1, none⟩ u1).setCell ⟨w.heap.size, 2, none⟩ u2).setCell ⟨w.heap.size, 3, none⟩ u3) := by
  have hh : ∀ i, i ≠ w.heap.size → ((((WW.setCell ⟨w.heap.size, 0, none⟩ u0).setCell ⟨w.heap.size, 1, none⟩ u1).setCell ⟨w.heap.size, 2, none⟩ u2).setCell ⟨w.heap.size, 3, none⟩ u3).heap[i]? = WW.heap[i]? := fun i hi =>
    (Below.heap_setCell _ ⟨w.heap.size, 3, none⟩ _ i hi).trans ((Below.heap_setCell _ ⟨w.heap.size, 2, none⟩ _ i hi).trans ((Below.heap_setCell _ ⟨w.heap.size, 1, none⟩ _ i hi).trans (Below.heap_setCell _ ⟨w.heap.size, 0, none⟩ _ i hi)))
  obtain ⟨A9, c9, hA9, HND⟩ := hNR.node k t s
  injection hA9 with e1 e2 e3
  subst e1 e3
  rw [hmap] at HND
  have hl : ks.length = kids.length := by rw [← hmap]; simp
  refine ⟨A, c, A2, c2, by rw [hl]; rfl, (Fresh.hold HND fun i h1 _ => hh i (by omega)).weaken fun b o hs => ⟨by have := hs.1; omega, hs.2⟩, hE.hold fun i hi => hh i (by omega), ?_⟩
  exact (((hbW.setCell (p := ⟨w.heap.size, 0, none⟩) (Nat.le_refl _) _).setCell (p := ⟨w.heap.size, 1, none⟩) (Nat.le_refl _) _).setCell (p := ⟨w.heap.size, 2, none⟩) (Nat.le_refl _) _).setCell (p := ⟨w.heap.size, 3, none⟩) (Nat.le_refl _) _
theorem ends_endI {k : Int} (h : opensK k = true) : endsK (endI k) = true := by
  unfold opensK at h
  rw [decide_eq_true_iff] at h
  rcases h with rfl | rfl | rfl <;> decide
theorem shapedL_in : ∀ {l : List Nd} {n : Nd}, shapedL l = true → n ∈ l → shaped n = true
  | x :: r, n, h, hn => by
    simp only [shapedL, Bool.and_eq_true] at h
    rcases List.mem_cons.1 hn with rfl | hn
    · exact h.1
    · exact shapedL_in h.2 hn
theorem sizeL_in : ∀ {l : List Nd} {n : Nd}, n ∈ l → sizeN n ≤ sizeL l
  | x :: r, n, hn => by
    simp only [sizeL]
    rcases List.mem_cons.1 hn with rfl | hn
    · omega
    · have := sizeL_in hn; omega
def lenA (b : Nat) (w : World) : Nat := match w.cell? ⟨b, 0, none⟩ with | some (.slice _ n _) => n | _ => 0
theorem lenA_of {b : Nat} {w : World} {A : Option Addr} {n c : Nat} (h : w.cell? ⟨b, 0, none⟩ = some (.slice A n c)) : lenA b w = n := by unfold lenA; rw [h]
/-- Where a round of build stands. -/
structure LoopAt (W1 wr : World) (B m rb nb : Nat) (k ek : Int) (t s : ByteArray) (kids : List Nd) (rest : List Ev) (A1 A2 : Option Addr) (c1 c2 L2 : Nat) (ks : List KV) : Prop where
  len : ks.length ≤ kids.length
  map : ks.map (·.n) = kids.take ks.length
  row : NRow wr m (.slice A1 ks.length c1) ks
  ev : ELow B wr (.slice A2 L2 c2) (flatL (kids.drop ks.length) ++ endE ek :: rest)
  el : (flatL (kids.drop ks.length) ++ endE ek :: rest).length = L2
  below : Below W1.heap.size W1 wr
  m : m ≤ wr.heap.size
/-- A round that takes a kid. -/
theorem LoopAt.head {W1 wr : World} {B m rb nb : Nat} {k ek : Int} {t s : ByteArray} {kids : List Nd} {rest : List Ev} {A1 A2 : Option Addr} {c1 c2 L2 : Nat} {ks : List KV} (h : LoopAt W1 wr B m rb nb k ek t s kids rest A1 A2 c1 c2 L2 ks) (hsh : shapedL kids = true) (hek : endsK ek = true) (hlt : ks.length < kids.length) :
    ∃ b o kx x, A2 = some ⟨b, o, none⟩ ∧ 0 < L2 ∧ wr.cell? ⟨b, o, none⟩ = some (.int .i64 kx) ∧ kx ≠ ek ∧ x ∈ kids ∧ kids.drop ks.length = x :: kids.drop (ks.length + 1) ∧ ELow B wr (.slice A2 L2 c2) (flat x ++ (flatL (kids.drop (ks.length + 1)) ++ endE ek :: rest)) ∧
      (flatL (kids.drop (ks.length + 1)) ++ endE ek :: rest).length < L2 ∧ kids.take (ks.length + 1) = kids.take ks.length ++ [x] := by
  have hdr : kids.drop ks.length = kids[ks.length] :: kids.drop (ks.length + 1) := List.drop_eq_getElem_cons hlt
  have hm := List.getElem_mem hlt
  have ht := List.take_succ_eq_append_getElem hlt
  have hsx := shapedL_in hsh hm
  have hE := h.ev
  have hl := h.el
  rw [hdr] at hE hl
  generalize kids[ks.length] = x at *
  cases x with
  | mk kx tx sx lx =>
    simp only [flatL, List.append_assoc] at hE hl
    simp only [shaped, Bool.and_eq_true] at hsx
    have hh := hE
    have e0 : flat (.mk kx tx sx lx) ++ (flatL (kids.drop (ks.length + 1)) ++ endE ek :: rest) = ⟨kx, tx, sx⟩ :: (flatL lx ++ endL kx ++ (flatL (kids.drop (ks.length + 1)) ++ endE ek :: rest)) := by simp [flat]
    have hl2 := hl
    rw [e0] at hh hl2
    obtain ⟨b, o, c, hv, _, _, q0, _⟩ := hh.head
    injection hv with e1 e2 e3
    refine ⟨b, o, kx, _, e1, by omega, q0, fun e => ?_, hm, hdr, hE, ?_, ht⟩
    · have := shape_head hsx.1
      rw [e, hek] at this
      exact absurd this (by decide)
    · rw [← hl2]
      simp
      omega
/-- The round that ends. -/
theorem LoopAt.last {W1 wr : World} {B m rb nb : Nat} {k ek : Int} {t s : ByteArray} {kids : List Nd} {rest : List Ev} {A1 A2 : Option Addr} {c1 c2 L2 : Nat} {ks : List KV} (h : LoopAt W1 wr B m rb nb k ek t s kids rest A1 A2 c1 c2 L2 ks) (hlt : ¬ ks.length < kids.length) :
    ks.map (·.n) = kids ∧ ∃ b o, A2 = some ⟨b, o, none⟩ ∧ L2 = rest.length + 1 ∧ L2 ≤ c2 ∧ c2 ≤ 9223372036854775807 ∧ wr.cell? ⟨b, o, none⟩ = some (.int .i64 ek) ∧ ELow B wr (.slice (some (if c2 = 1 then ⟨b, o, none⟩ else ⟨b, o + 3, none⟩)) rest.length (c2 - 1)) rest := by
  have hl := h.len
  have hE := h.ev
  rw [List.drop_eq_nil_of_le (by omega)] at hE
  simp only [flatL, List.nil_append] at hE
  obtain ⟨b, o, c, hv, h1, h2, q0, _, _, hT⟩ := hE.head
  injection hv with e1 e2 e3
  subst e3
  refine ⟨by rw [h.map, List.take_of_length_le (by omega)], b, o, e1, e2, by omega, by simpa [maxLen] using h2, q0, hT⟩
theorem NRow.mle {w : World} {base : Nat} {v : Value} {ks : List KV} (h : NRow w base v ks) (hn : 0 < ks.length) : base ≤ w.heap.size := by
  rcases h.row.2 with ⟨_, h0⟩ | ⟨g, cap, cur, hv, hg, hb, _⟩
  · omega
  · exact Nat.le_trans hg (Nat.le_of_lt (Blk.lt hb))

end Go.Proofs.YtonelabeflcplaaGreatDoor
namespace Go.Proofs.YtonelabeflcplaaGreatDoor
open Go.RowKit Go.Maps
set_option maxRecDepth 100000
set_option linter.unusedSimpArgs false

theorem sizeN_flat (n : Nd) : sizeN n ≤ (flat n).length := by
  induction n using Nd.ind with
  | h k t v kids ih =>
    have key : ∀ l : List Nd, (∀ m ∈ l, sizeN m ≤ (flat m).length) → sizeL l ≤ (flatL l).length := by
      intro l
      induction l with
      | nil => simp [sizeL]
      | cons x l ihl =>
        intro h
        have h1 := h x (by simp)
        have h2 := ihl (fun m hm => h m (List.mem_cons_of_mem _ hm))
        simp only [sizeL, flatL, List.length_append]
        omega
    have := key kids ih
    simp only [sizeN, flat, List.length_cons, List.length_append]
    omega

/-- What Build tells. -/
def MPost (l : List Ev) (w : World) (e : Ending) (w' : World) : Prop :=
  Below w.heap.size w w' ∧ ((wholeE l ≠ 0 ∧ e = .returned (.tuple #[.agg #[.int .i64 0, .string ⟨#[]⟩, .string ⟨#[]⟩, .slice none 0 0], .int .i64 (wholeE l)])) ∨
    ∃ n A c, wholeE l = 0 ∧ shaped n = true ∧ flat n = l ∧ mayN n = 0 ∧ e = .returned (.tuple #[.agg #[.int .i64 n.k, .string n.t, .string n.v, .slice A n.kids.length c], .int .i64 0]) ∧ NAt (Fresh w.heap.size w') w' n A c)

end Go.Proofs.YtonelabeflcplaaGreatDoor
namespace Go.Proofs.YtonelabeflcplaaGreatDoor
open Go.RowKit Go.Maps Go.Shelf
attribute [local go_sem] Oper.semAt_some
set_option maxRecDepth 100000
set_option linter.unusedSimpArgs false

theorem eObj_needs {b0 B : Nat} (k : Nat) (o : Obj) (h : Needs cWalk b0 B k o) : k < b0 ∨ ¬ (eObj o ∨ ∃ cs fr, o = .cells cs 38 fr) := by
  rcases h with h | h | ⟨_, h⟩
  · exact .inl h
  · refine .inr ?_
    cases o <;> simp only [cWalk, eObj] at h ⊢
    rintro (h2 | ⟨cs, fr, h2⟩)
    · subst h2; exact absurd h (by decide)
    · cases h2; exact absurd h (by decide)
  · refine .inr ?_
    rintro (h2 | ⟨cs, fr, rfl⟩)
    · cases o <;> simp [isBk, eObj] at h h2
    · cases h
/-- What Walk's rounds turn. -/
def lObj (o : Obj) : Prop := eObj o ∨ ∃ cs fr, o = .cells cs 38 fr

end Go.Proofs.YtonelabeflcplaaGreatDoor
namespace Go.Proofs.YtonelabeflcplaaGreatDoor
open Go.RowKit Go.Maps
set_option maxRecDepth 100000
set_option linter.unusedSimpArgs false

/-- Two texts as the walk compares them. -/
def teq (x y : ByteArray) : Bool := decide (x = y)
theorem teq_spell (x y : ByteArray) : (x.toList == y.toList) = teq x y := by
  unfold teq
  by_cases h : x = y
  · subst h; simp
  · rw [(str_diff h).1, decide_eq_false h]
theorem sameN_unfold (k k' : Int) (t t' v v' : ByteArray) (l l' : List Nd) : sameN (.mk k t v l) (.mk k' t' v' l') = (decide (k = k') && (decide (t = t') && (decide (v = v') && sameL l l'))) := by simp only [sameN]
def dN : Nd := .mk 0 ⟨#[]⟩ ⟨#[]⟩ []
theorem getD_at {l : List Nd} {j : Nat} (h : j < l.length) : l.getD j dN = l[j] := by rw [List.getD_eq_getElem?_getD, List.getElem?_eq_getElem h]; rfl
theorem sameL_at {l m : List Nd} (h : l.length = m.length) {j : Nat} (hj : j < l.length) (hp : sameL (l.take j) (m.take j) = true) :
    sameL (l.take (j + 1)) (m.take (j + 1)) = sameN l[j] (m[j]'(by omega)) ∧ (sameN l[j] (m[j]'(by omega)) = false → sameL l m = false) := by
  have h1 : sameL (l.take (j + 1)) (m.take (j + 1)) = sameN l[j] (m[j]'(by omega)) := by
    rw [List.take_succ_eq_append_getElem hj, List.take_succ_eq_append_getElem (by omega : j < m.length), sameL_snoc _ _ _ _ (by simp; omega), hp, Bool.true_and]
  refine ⟨h1, fun hn => ?_⟩
  rw [Bool.eq_false_iff]
  intro hs
  have := (sameL_iff _ _).1 hs
  subst this
  rw [sameN_refl] at hn
  cases hn
theorem sameL_diff {l m : List Nd} (h : l.length ≠ m.length) : sameL l m = false := by
  rw [Bool.eq_false_iff]
  exact fun hs => h (sameL_len hs)
theorem sameL_atD {l m : List Nd} (h : l.length = m.length) {j : Nat} (hj : j < l.length) (hp : sameL (l.take j) (m.take j) = true) :
    sameL (l.take (j + 1)) (m.take (j + 1)) = sameN (l.getD j dN) (m.getD j dN) ∧ (sameN (l.getD j dN) (m.getD j dN) = false → sameL l m = false) := by
  rw [getD_at hj, getD_at (by omega : j < m.length)]
  exact sameL_at h hj hp
end Go.Proofs.YtonelabeflcplaaGreatDoor
namespace Go.Proofs.YtonelabeflcplaaGreatDoor
open Go.RowKit Go.Maps
set_option maxRecDepth 100000

end Go.Proofs.YtonelabeflcplaaGreatDoor
namespace Go.Proofs.YtonelabeflcplaaGreatDoor
open Go.RowKit Go.Maps
set_option maxRecDepth 100000

/-- What stands at a place. -/
def atN : Nd → List Int → Option Nd
  | n, [] => some n
  | n, i :: r => if h : 0 ≤ i ∧ i.toNat < n.kids.length then atN (n.kids[i.toNat]) r else none
theorem atN_step (n : Nd) (i : Int) (r : List Int) (h : 0 ≤ i ∧ i.toNat < n.kids.length) : atN n (i :: r) = atN (n.kids[i.toNat]'h.2) r := by simp only [atN]; rw [dif_pos h]
theorem atN_none (n : Nd) (i : Int) (r : List Int) (h : ¬ (0 ≤ i ∧ i.toNat < n.kids.length)) : atN n (i :: r) = none := by simp only [atN]; rw [dif_neg h]

/-- What At tells. -/
def TRes (o : Option Nd) (w : World) (e : Ending) (w' : World) : Prop := match o with
    | some m => ∃ A c, e = .returned (.tuple #[.agg #[.int .i64 m.k, .string m.t, .string m.v, .slice A m.kids.length c], .int .i64 0]) ∧ NAt (Fresh w.heap.size w') w' m A c
    | none => e = .returned (.tuple #[.agg #[.int .i64 0, .string ⟨#[]⟩, .string ⟨#[]⟩, .slice none 0 0], .int .i64 21])
def TPost (o : Option Nd) (w : World) (e : Ending) (w' : World) : Prop := Below w.heap.size w w' ∧ TRes o w e w'
theorem okT_kid {n : Nd} (h : okT n) {j : Nat} (hj : j < n.kids.length) : okT n.kids[j] := h.kids _ (List.getElem_mem hj)

end Go.Proofs.YtonelabeflcplaaGreatDoor

/-
  Rows of nodes that a call makes; bare, Copy.
  tree: Copy.
  lives: the document's examples of layer 5 come out true.
-/
import Derived.Test.YtfilonbhcalkoaaGreatDoorTrM07
import Derived.Test.YtfilonbhcalkoaaGreatDoorTrM08
import Derived.Test.YtfilonbhcalkoaaGreatDoorTrM09
import Derived.Test.YtfilonbhcalkoaaGreatDoorTrM16
import Derived.KernelRfl
namespace Go.Proofs.YtfilonbhcalkoaaGreatDoor
open Go.RowKit Go.Maps
set_option maxRecDepth 100000
set_option linter.unusedSimpArgs false

theorem Tryz.infoNd : (Tryz.prog.info? 24).map (fun i => (i.zero, i.size, i.bytes)) = some (some (.agg #[.int .i64 0, .string ⟨#[]⟩, .string ⟨#[]⟩, .slice none 0 0]), 4, 64) := by kernel_rfl

def NodeBlk (w : World) (b : Nat) : Prop := ∃ cur, w.heap[b]? = some (.cells cur 24 (0, 0))
/-- A node with where its kids lie. -/
structure KV where
  n : Nd
  a : Option Addr
  c : Nat
def kvC (q : KV) : List Value := ndC q.n q.a q.c
def kvCs (l : List KV) : List Value := l.flatMap kvC
theorem kvCs_len (l : List KV) : (kvCs l).length = l.length * 4 := by
  induction l with
  | nil => rfl
  | cons x l ih => simp only [kvCs, List.flatMap_cons, List.length_append, List.length_cons] at ih ⊢; rw [ih]; simp [kvC, ndC]; omega
theorem kvCs_get : ∀ (l : List KV) (k : Nat) (h : k < l.length) (j : Nat) (_ : j < 4), (kvCs l)[k * 4 + j]? = (kvC l[k])[j]?
  | x :: l, 0, _, j, hj => by
    simp only [kvCs, List.flatMap_cons]
    rw [List.getElem?_append_left (by simp [kvC, ndC]; omega)]
    simp
  | x :: l, k + 1, h, j, hj => by
    have ih := kvCs_get l k (by simpa using h) j hj
    simp only [kvCs, List.flatMap_cons] at ih ⊢
    rw [List.getElem?_append_right (by simp [kvC, ndC]; omega), show (k + 1) * 4 + j - (kvC x).length = k * 4 + j by simp [kvC, ndC]; omega, ih]
    simp
theorem kvCs_snoc (l : List KV) (x : KV) : kvCs (l ++ [x]) = kvCs l ++ kvC x := by simp [kvCs]

/-- What is new: at or beyond base, at the head of a block of nodes. -/
def Fresh (base : Nat) (w : World) (b o : Nat) : Prop := base ≤ b ∧ o = 0 ∧ NodeBlk w b
/-- A row of nodes that the call has made; none of them leads back to it. -/
structure NRow (w : World) (base : Nat) (v : Value) (ks : List KV) : Prop where
  row : w.ownsRow base 24 4 v ks.length (kvCs ks)
  kids : ∀ q ∈ ks, NAt (fun b o => Fresh base w b o ∧ some b ≠ v.ownBlock) w q.n q.a q.c

section
variable {w w' : World} {base : Nat} {v v' : Value} {ks : List KV}
theorem cell_lt' {b : Nat} (h : ∃ i u, w.cell? ⟨b, i, none⟩ = some u) : b < w.heap.size := by obtain ⟨_, _, h⟩ := h; exact cell_lt h
theorem cells_same {b : Nat} (h : w'.heap[b]? = w.heap[b]?) : ∀ i u, w.cell? ⟨b, i, none⟩ = some u → w'.cell? ⟨b, i, none⟩ = some u := fun i u hu => by
  rw [← hu]; unfold World.cell?; rw [h]
theorem NRow.nil (w : World) (base : Nat) : NRow w base (.slice none 0 0) [] := ⟨World.ownsRow_nil w base _ 4, fun q hq => (by cases hq)⟩
theorem NRow.below (h : NRow w base v ks) (hb : Below w.heap.size w w') : NRow w' base v ks :=
  ⟨row_tch (base := base) (p := fun _ => False) h.row (Tch.of_below hb) (fun _ _ h => h), fun q hq => (h.kids q hq).keep fun b o hs hc =>
    ⟨cells_same (hb.block b (cell_lt' hc)), ⟨hs.1.1, hs.1.2.1, by obtain ⟨cur, hh⟩ := hs.1.2.2; exact ⟨cur, by rw [hb.block b (cell_lt' hc)]; exact hh⟩⟩, hs.2⟩⟩
/-- What a later step leaves of a node that is not in the row's block. -/
theorem own_step {n : Nd} {A : Option Addr} {c : Nat} (h : NAt (fun b o => Fresh base w b o ∧ some b ≠ v.ownBlock) w n A c) (hO : OStep w v w' v') : NAt (fun b o => Fresh base w' b o ∧ some b ≠ v'.ownBlock) w' n A c :=
  h.keep fun b o hs hc => by
    have hl := cell_lt' hc
    have he := hO.heap hl hs.2
    refine ⟨cells_same he, ⟨hs.1.1, hs.1.2.1, ?_⟩, fun e => ?_⟩
    · obtain ⟨cur, hh⟩ := hs.1.2.2
      exact ⟨cur, by rw [he]; exact hh⟩
    · rcases hO.own with h1 | ⟨g', h1, h2⟩
      · exact hs.2 (e.trans h1)
      · rw [h1] at e; injection e with e; omega
/-- A node appended. -/
theorem NRow.push (h : NRow w base v ks) {q : KV} (hq : NAt (fun b o => Fresh base w b o ∧ some b ≠ v.ownBlock) w q.n q.a q.c) (hO : OStep w v w' v') (hr : w'.ownsRow base 24 4 v' (ks.length + 1) (kvCs ks ++ kvC q)) : NRow w' base v' (ks ++ [q]) := by
  refine ⟨by rw [kvCs_snoc, List.length_append]; exact hr, fun q' hq' => ?_⟩
  rcases List.mem_append.1 hq' with hq' | hq'
  · exact own_step (h.kids q' hq') hO
  · simp at hq'
    subst hq'
    exact own_step hq hO
/-- The node whose kids the row holds. -/
theorem NRow.node (h : NRow w base v ks) (k : Int) (t s : ByteArray) : ∃ A c, v = .slice A ks.length c ∧ NAt (Fresh base w) w (.mk k t s (ks.map (·.n))) A c := by
  rcases h.row.2 with ⟨rfl, h0⟩ | ⟨g, c, cur, rfl, hg, hh, hnc, hm, hs, ht⟩
  · have hk : ks = [] := List.eq_nil_of_length_eq_zero h0
    subst hk
    exact ⟨none, 0, rfl, NAt.leaf _ _ _ _ _ _⟩
  · refine ⟨some ⟨g, 0, none⟩, c, rfl, ?_⟩
    rw [NAt.def_]
    refine ⟨by simp only [Nd.kids, List.length_map]; exact hnc, hm, fun hp => ⟨g, 0, rfl, ⟨hg, rfl, cur, hh⟩, fun j hj => ?_⟩⟩
    simp only [Nd.kids, List.length_map] at hj
    simp only [Nd.kids, List.getElem_map]
    have hat : ∀ i, i < 4 → w.cell? ⟨g, j * 4 + i, none⟩ = (kvC ks[j])[i]? := fun i hi => by
      rw [rowN_cell h.row (by omega)]
      exact kvCs_get ks j hj i hi
    rw [Nat.zero_add]
    exact ⟨ks[j].a, ks[j].c, hat 0 (by omega), hat 1 (by omega), hat 2 (by omega), hat 3 (by omega), (h.kids _ (List.getElem_mem hj)).weaken fun b o hs => hs.1⟩
/-- A node that is wholly beyond what a row holds. -/
theorem own_fresh {B : Nat} {n : Nd} {A : Option Addr} {c : Nat} (h : NAt (Fresh B w) w n A c) (hB : base ≤ B) (hv : ∀ g, v.ownBlock = some g → g < B) : NAt (fun b o => Fresh base w b o ∧ some b ≠ v.ownBlock) w n A c :=
  h.weaken fun b o hs => ⟨⟨Nat.le_trans hB hs.1, hs.2⟩, fun e => by have := hv b e.symm; have := hs.1; omega⟩
theorem Fresh.below {n : Nd} {A : Option Addr} {c : Nat} (h : NAt (Fresh base w) w n A c) (hb : Below w.heap.size w w') : NAt (Fresh base w') w' n A c :=
  h.keep fun b _ hs hc => ⟨cells_same (hb.block b (cell_lt' hc)), hs.1, hs.2.1, by obtain ⟨cur, hh⟩ := hs.2.2; exact ⟨cur, by rw [hb.block b (cell_lt' hc)]; exact hh⟩⟩
theorem NRow.set (h : NRow w base v ks) {p : Addr} (hp : p.block < base) (u : Value) : NRow (w.setCell p u) base v ks :=
  ⟨World.ownsRow.kept h.row (only_setCell (g := p.block) (World.grownBy.refl w _) (.inl rfl) u) (.inr fun e => by have := (World.ownsRow.lt h.row p.block e).1; omega), fun q hq => (h.kids q hq).keep fun b _ hs _ => by
    have hh := Below.heap_setCell w p u b (by have := hs.1.1; omega)
    exact ⟨cells_same hh, ⟨hs.1.1, hs.1.2.1, by obtain ⟨cur, h1⟩ := hs.1.2.2; exact ⟨cur, by rw [hh]; exact h1⟩⟩, hs.2⟩⟩
theorem Fresh.set {n : Nd} {A : Option Addr} {c : Nat} (h : NAt (Fresh base w) w n A c) {p : Addr} (hp : p.block < base) (u : Value) : NAt (Fresh base (w.setCell p u)) (w.setCell p u) n A c :=
  h.keep fun b _ hs _ => by
    have hh := Below.heap_setCell w p u b (by have := hs.1; omega)
    exact ⟨cells_same hh, hs.1, hs.2.1, by obtain ⟨cur, h1⟩ := hs.2.2; exact ⟨cur, by rw [hh]; exact h1⟩⟩
theorem Fresh.lower {B : Nat} {n : Nd} {A : Option Addr} {c : Nat} (h : NAt (Fresh B w) w n A c) (hB : base ≤ B) : NAt (Fresh base w) w n A c := h.weaken fun _ _ hs => ⟨Nat.le_trans hB hs.1, hs.2⟩
theorem NRow.hold (h : NRow w base v ks) (hh : ∀ i, base ≤ i → i < w.heap.size → w'.heap[i]? = w.heap[i]?) : NRow w' base v ks := by
  refine ⟨⟨h.row.1, ?_⟩, fun q hq => (h.kids q hq).keep fun b _ hs hc => ?_⟩
  · rcases h.row.2 with hn | ⟨g, cap, cur, hv, hg, hb, r⟩
    · exact .inl hn
    · exact .inr ⟨g, cap, cur, hv, hg, by rw [hh g hg (Blk.lt hb)]; exact hb, r⟩
  · have he := hh b hs.1.1 (cell_lt' hc)
    exact ⟨cells_same he, ⟨hs.1.1, hs.1.2.1, by obtain ⟨cur, h1⟩ := hs.1.2.2; exact ⟨cur, by rw [he]; exact h1⟩⟩, hs.2⟩
theorem Fresh.hold {n : Nd} {A : Option Addr} {c : Nat} (h : NAt (Fresh base w) w n A c) (hh : ∀ i, base ≤ i → i < w.heap.size → w'.heap[i]? = w.heap[i]?) : NAt (Fresh base w') w' n A c :=
  h.keep fun b _ hs hc => by
    have he := hh b hs.1 (cell_lt' hc)
    exact ⟨cells_same he, hs.1, hs.2.1, by obtain ⟨cur, h1⟩ := hs.2.2; exact ⟨cur, by rw [he]; exact h1⟩⟩
theorem NRow.lt (h : NRow w base v ks) : ∀ g, v.ownBlock = some g → g < w.heap.size := fun g hg => (World.ownsRow.lt h.row g hg).2
theorem NRow.shape (h : NRow w base v ks) : ∃ A c, v = .slice A ks.length c := by
  rcases h.row.2 with ⟨rfl, h0⟩ | ⟨g, cap, cur, rfl, _⟩
  · exact ⟨_, _, by rw [h0]⟩
  · exact ⟨_, _, rfl⟩
end
theorem NRow.shapeN {w : World} {base : Nat} {v : Value} {ks : List KV} (h : NRow w base v ks) {n : Nat} (hn : ks.length = n) : ∃ A c, v = .slice A n c := by subst hn; exact h.shape
theorem cellsOf4 (w : World) (a b c d : Value) (t : TypeId) : ∀ j u, [a, b, c, d][j]? = some u → (w.alloc (.cells #[a, b, c, d] t)).cell? ((⟨w.heap.size, 0, none⟩ : Addr).add j) = some u := by
  intro j u h
  rw [addr_add0, (Blk.new w t #[a, b, c, d]).cell j]
  rw [← h]; simp

theorem bare_any (k : Int) (t v : ByteArray) (w : World) (ht : t.size ≤ 140737488355328) (hv : v.size ≤ 140737488355328) :
    Calls Tryz.prog 35 #[.int .i64 k, .string t, .string v] w fun e w' => e = .returned (.agg #[.int .i64 k, .string t, .string v, .slice none 0 0]) ∧ Below w.heap.size w w' := by
  have hx := Blk.new w 24 #[.int .i64 0, .string ⟨#[]⟩, .string ⟨#[]⟩, .slice none 0 0]
  have hal := (Below.refl w.heap.size w).alloc (Nat.le_refl _) (.cells #[.int .i64 0, .string ⟨#[]⟩, .string ⟨#[]⟩, .slice none 0 0] 24)
  go_enter Tryz.func35, Tryz.ntmps35
  go_wp2_with fail
  refine (clone_any t _ ht).mono ?_
  rintro e w1 ⟨rfl, hb1⟩
  go_wp2_with fail
  refine (clone_any v _ hv).mono ?_
  rintro e w2 ⟨rfl, hb2⟩
  have x2 := (hx.below hb1 hx.lt).below hb2 (hx.below hb1 hx.lt).lt
  have f0 : w2.frozen? ⟨w.heap.size, 0, none⟩ = false := x2.frozen 0
  have f1 : w2.frozen? ⟨w.heap.size, 1, none⟩ = false := x2.frozen 1
  have f2 : w2.frozen? ⟨w.heap.size, 2, none⟩ = false := x2.frozen 2
  have f3 : w2.frozen? ⟨w.heap.size, 3, none⟩ = false := x2.frozen 3
  have d0 : w2.cell? ⟨w.heap.size, 0, none⟩ = some (.int .i64 0) := x2.cell 0
  have d1 : w2.cell? ⟨w.heap.size, 1, none⟩ = some (.string ⟨#[]⟩) := x2.cell 1
  have d2 : w2.cell? ⟨w.heap.size, 2, none⟩ = some (.string ⟨#[]⟩) := x2.cell 2
  have d3 : w2.cell? ⟨w.heap.size, 3, none⟩ = some (.slice none 0 0) := x2.cell 3
  have l2 := x2.lt
  go_wp2
  have y := (((x2.set_ 0 (.int .i64 k)).set_ 1 (.string t)).set_ 2 (.string v)).set_ 3 (.slice none 0 0)
  have y0 : ((((w2.setCell ⟨w.heap.size, 0, none⟩ (.int .i64 k)).setCell ⟨w.heap.size, 1, none⟩ (.string t)).setCell ⟨w.heap.size, 2, none⟩ (.string v)).setCell ⟨w.heap.size, 3, none⟩ (.slice none 0 0)).cell? ⟨w.heap.size, 0, none⟩ = some (.int .i64 k) := y.cell 0
  have y1 : ((((w2.setCell ⟨w.heap.size, 0, none⟩ (.int .i64 k)).setCell ⟨w.heap.size, 1, none⟩ (.string t)).setCell ⟨w.heap.size, 2, none⟩ (.string v)).setCell ⟨w.heap.size, 3, none⟩ (.slice none 0 0)).cell? ⟨w.heap.size, 1, none⟩ = some (.string t) := y.cell 1
  have y2 : ((((w2.setCell ⟨w.heap.size, 0, none⟩ (.int .i64 k)).setCell ⟨w.heap.size, 1, none⟩ (.string t)).setCell ⟨w.heap.size, 2, none⟩ (.string v)).setCell ⟨w.heap.size, 3, none⟩ (.slice none 0 0)).cell? ⟨w.heap.size, 2, none⟩ = some (.string v) := y.cell 2
  have y3 : ((((w2.setCell ⟨w.heap.size, 0, none⟩ (.int .i64 k)).setCell ⟨w.heap.size, 1, none⟩ (.string t)).setCell ⟨w.heap.size, 2, none⟩ (.string v)).setCell ⟨w.heap.size, 3, none⟩ (.slice none 0 0)).cell? ⟨w.heap.size, 3, none⟩ = some (.slice none 0 0) := y.cell 3
  have hb := (hal.trans (hb1.mono hal.size))
  have hb' := hb.trans (hb2.mono hb.size)
  have hb'' := (((hb'.setCell (p := ⟨w.heap.size, 0, none⟩) (Nat.le_refl _) (.int .i64 k)).setCell (p := ⟨w.heap.size, 1, none⟩) (Nat.le_refl _) (.string t)).setCell (p := ⟨w.heap.size, 2, none⟩) (Nat.le_refl _) (.string v)).setCell (p := ⟨w.heap.size, 3, none⟩) (Nat.le_refl _) (.slice none 0 0)
  generalize (((w2.setCell ⟨w.heap.size, 0, none⟩ (.int .i64 k)).setCell ⟨w.heap.size, 1, none⟩ (.string t)).setCell ⟨w.heap.size, 2, none⟩ (.string v)).setCell ⟨w.heap.size, 3, none⟩ (.slice none 0 0) = W at *
  refine bodyPost_ret (v := .agg #[.int .i64 k, .string t, .string v, .slice none 0 0]) ?_ rfl ⟨rfl, hb''⟩
  simp [results, Tryz.f35, go_sem, y0, y1, y2, y3]
end Go.Proofs.YtfilonbhcalkoaaGreatDoor
namespace Go.Proofs.YtfilonbhcalkoaaGreatDoor
open Go.RowKit Go.Maps
set_option maxRecDepth 100000
set_option linter.unusedSimpArgs false

/-- A node that has been made anew. -/
def CPost (n : Nd) (w : World) (e : Ending) (w' : World) : Prop :=
  ∃ A c, e = .returned (.agg #[.int .i64 n.k, .string n.t, .string n.v, .slice A n.kids.length c]) ∧ NAt (Fresh w.heap.size w') w' n A c ∧ Below w.heap.size w w'

set_option maxHeartbeats 8000000 in
theorem tcopy_any (n : Nd) : ∀ (S : Nat → Nat → Prop) (A : Option Addr) (c : Nat) (w : World), okT n → NAt S w n A c →
    Calls Tryz.prog 22 #[.agg #[.int .i64 n.k, .string n.t, .string n.v, .slice A n.kids.length c]] w (CPost n w) := by
  induction n using Nd.ind with
  | h k t v kids ih =>
    intro S A c w hok hA
    unfold CPost
    simp only [Nd.k, Nd.t, Nd.v, Nd.kids]
    obtain ⟨hlc, hcm, hkids⟩ := (NAt.def_ _ _ _).1 hA
    simp only [Nd.kids] at hlc hkids
    have hcm2 : c ≤ 9223372036854775807 := by simpa [maxLen] using hcm
    have hkok : ∀ m ∈ kids, okT m := okT.kids hok
    have hts : t.size ≤ 140737488355328 := hok.head.2.2.1
    have hvs : v.size ≤ 140737488355328 := hok.head.2.2.2
    have hkl : kids.length ≤ 1000000000000 := hok.len
    obtain ⟨W0, hW0⟩ : ∃ W0, (w.alloc (.cells #[.int .i64 k, .string t, .string v, .slice A kids.length c] 24)).alloc (.cells #[.int .i64 0, .string ⟨#[]⟩, .string ⟨#[]⟩, .slice none 0 0] 24) = W0 := ⟨_, rfl⟩
    have HB0 := Lib.hid (show Below w.heap.size w W0 by rw [← hW0]; exact ((Below.refl _ _).alloc (Nat.le_refl _) _).alloc (by simp) _)
    have HX := Lib.hid (show Blk W0 w.heap.size 24 #[.int .i64 k, .string t, .string v, .slice A kids.length c] by rw [← hW0]; exact (Blk.new w _ _).alloc _)
    have HY := Lib.hid (show Blk W0 (w.heap.size + 1) 24 #[.int .i64 0, .string ⟨#[]⟩, .string ⟨#[]⟩, .slice none 0 0] by
      rw [← hW0]
      have := Blk.new (w.alloc (.cells #[.int .i64 k, .string t, .string v, .slice A kids.length c] 24)) 24 #[.int .i64 0, .string ⟨#[]⟩, .string ⟨#[]⟩, .slice none 0 0]
      rw [World.size_alloc] at this
      exact this)
    have hs0 : W0.heap.size = w.heap.size + 2 := by rw [← hW0]; simp
    have c0 : W0.cell? ⟨w.heap.size, 0, none⟩ = some (.int .i64 k) := HX.out.cell 0
    have c1' : W0.cell? ⟨w.heap.size, 1, none⟩ = some (.string t) := HX.out.cell 1
    have c2 : W0.cell? ⟨w.heap.size, 2, none⟩ = some (.string v) := HX.out.cell 2
    go_enter Tryz.func22, Tryz.ntmps22
    go_wp2_with fail
    refine (bare_any k t v _ hts hvs).mono ?_
    rintro e w1 ⟨rfl, hb1⟩
    have hs1 := hb1.size
    have x3 : (w1.alloc (.cells #[.int .i64 k, .string t, .string v, .slice none 0 0] 24)).cell? ⟨w.heap.size, 3, none⟩ = some (.slice A kids.length c) := ((HX.out.below hb1 HX.out.lt).alloc _).cell 3
    go_wp2
    obtain ⟨cb, hcb⟩ : ∃ cb, w1.heap.size = cb := ⟨_, rfl⟩
    obtain ⟨W2, hW2⟩ : ∃ W2, w1.alloc (.cells #[.int .i64 k, .string t, .string v, .slice none 0 0] 24) = W2 := ⟨_, rfl⟩
    have HX2 := Lib.hid (show Blk W2 w.heap.size 24 #[.int .i64 k, .string t, .string v, .slice A kids.length c] by rw [← hW2]; exact (HX.out.below hb1 HX.out.lt).alloc _)
    have HY2 := Lib.hid (show Blk W2 (w.heap.size + 1) 24 #[.int .i64 0, .string ⟨#[]⟩, .string ⟨#[]⟩, .slice none 0 0] by rw [← hW2]; exact (HY.out.below hb1 HY.out.lt).alloc _)
    have HC2 := Lib.hid (show Blk W2 cb 24 #[.int .i64 k, .string t, .string v, .slice none 0 0] by rw [← hW2, ← hcb]; exact Blk.new w1 _ _)
    have HB2 := Lib.hid (show Below w.heap.size w W2 by rw [← hW2]; have := HB0.out.trans (hb1.mono HB0.out.size); exact this.alloc this.size _)
    have hcs : w.heap.size + 2 ≤ cb := by omega
    have hs2 : W2.heap.size = cb + 1 := by rw [← hW2]; simp; omega
    have HKT := Lib.hid (show kids.take 0 = [] from rfl)
    rw [hcb, hW2]
    clear c0 c1' c2 x3 HX HY hW0 hb1 hs1 HB0 hs0 hts hvs hok hA hW2 hcb
    go_loopw [16] (fun i wr => ∃ (j : Nat) (A1 : Option Addr) (c1 : Nat) (ks : List KV), j ≤ kids.length ∧ i = .int .i64 (j : Int) ∧ Hid (NRow wr (cb + 1) (.slice A1 j c1) ks) ∧ Hid (ks.map (·.n) = kids.take j) ∧ Hid (ks.length = j) ∧ Blk wr cb 24 #[.int .i64 k, .string t, .string v, .slice A1 j c1] ∧ Hid (Below cb W2 wr)) (fun i _ => kids.length - (intOf i).toNat)
    case atStart => exact ⟨0, none, 0, [], Nat.zero_le _, rfl, Lib.hid (NRow.nil _ _), Lib.hid rfl, Lib.hid rfl, HC2.out, Lib.hid (Below.refl _ _)⟩
    case round =>
      obtain ⟨j, A1, c1, ks, hj, rfl, HR, HM, HL, hC, HB⟩ := hrel
      have hbw : Below w.heap.size w wr := HB2.out.trans (HB.out.mono (by omega))
      have hwr := HB.out.size
      by_cases hlt : j < kids.length
      case pos =>
        obtain ⟨b, o, rfl, _, hkid⟩ := hkids (by omega)
        obtain ⟨B, cB, q0, q1, q2, q3, hn1⟩ := kid_cells (hkid j hlt) hbw
        have hih := fun (w' : World) (h : Below wr.heap.size wr w') => ih _ (List.getElem_mem hlt) S B cB w' (hkok _ (List.getElem_mem hlt)) (hn1.below h)
        have HT := Lib.hid (List.take_succ_eq_append_getElem hlt)
        unfold CPost at hih
        clear hkid hkids hn1 ih hkok
        generalize kids[j] = kd at *
        have hC1 := hC.alloc (.cells #[.int .i64 kd.k, .string kd.t, .string kd.v, .slice B kd.kids.length cB] 24)
        have hZ := Blk.new wr 24 #[.int .i64 kd.k, .string kd.t, .string kd.v, .slice B kd.kids.length cB]
        have hal : Below wr.heap.size wr (wr.alloc (.cells #[.int .i64 kd.k, .string kd.t, .string kd.v, .slice B kd.kids.length cB] 24)) := (Below.refl _ _).alloc (Nat.le_refl _) _
        have u3 : (wr.alloc (.cells #[.int .i64 kd.k, .string kd.t, .string kd.v, .slice B kd.kids.length cB] 24)).cell? ⟨cb, 3, none⟩ = some (.slice A1 j c1) := hC1.cell 3
        have z0 : (wr.alloc (.cells #[.int .i64 kd.k, .string kd.t, .string kd.v, .slice B kd.kids.length cB] 24)).cell? ⟨wr.heap.size, 0, none⟩ = some (.int .i64 kd.k) := hZ.cell 0
        have z1 : (wr.alloc (.cells #[.int .i64 kd.k, .string kd.t, .string kd.v, .slice B kd.kids.length cB] 24)).cell? ⟨wr.heap.size, 1, none⟩ = some (.string kd.t) := hZ.cell 1
        have z2 : (wr.alloc (.cells #[.int .i64 kd.k, .string kd.t, .string kd.v, .slice B kd.kids.length cB] 24)).cell? ⟨wr.heap.size, 2, none⟩ = some (.string kd.v) := hZ.cell 2
        have z3 : (wr.alloc (.cells #[.int .i64 kd.k, .string kd.t, .string kd.v, .slice B kd.kids.length cB] 24)).cell? ⟨wr.heap.size, 3, none⟩ = some (.slice B kd.kids.length cB) := hZ.cell 3
        have hjc : j < c := by omega
        go_wp2
        refine region_g [7] (S := (fun W => W.cell? ⟨cb, 3, none⟩ = some (.slice A1 j c1) ∧ W.cell? ⟨wr.heap.size, 0, none⟩ = some (.int .i64 kd.k) ∧ W.cell? ⟨wr.heap.size, 1, none⟩ = some (.string kd.t) ∧ W.cell? ⟨wr.heap.size, 2, none⟩ = some (.string kd.v) ∧ W.cell? ⟨wr.heap.size, 3, none⟩ = some (.slice B kd.kids.length cB))) (by kernel_rfl) ⟨u3, z0, z1, z2, z3⟩ (fun hH => ?_)
        refine g_take (i := 0) (v := .pointer (some ⟨cb, 3, none⟩)) (by rfl) (by kernel_rfl) (by kernel_rfl) (by kernel_rfl) (by kernel_rfl) (fun _ _ _ h => (by cases h.1)) (Or.inl ⟨by rfl, fun W hS => (by obtain ⟨s1, s2, s3, s4, s5⟩ := hS; go_simp)⟩) hH ?_
        simp only [Act.put, List.setIfInBounds_toArray, List.set_cons_zero, List.set_cons_succ]
        refine g_take (i := 1) (v := .slice A1 j c1) (by rfl) (by kernel_rfl) (by kernel_rfl) (by kernel_rfl) (by kernel_rfl) (fun _ _ _ h => (by cases h.1)) (Or.inl ⟨by rfl, fun W hS => (by obtain ⟨s1, s2, s3, s4, s5⟩ := hS; go_simp)⟩) hH ?_
        simp only [Act.put, List.setIfInBounds_toArray, List.set_cons_zero, List.set_cons_succ]
        refine g_take (i := 2) (v := .agg #[.int .i64 kd.k, .string kd.t, .string kd.v, .slice B kd.kids.length cB]) (by rfl) (by kernel_rfl) (by kernel_rfl) (by kernel_rfl) (by kernel_rfl) (fun _ _ _ h => (by cases h.1)) (Or.inl ⟨by rfl, fun W hS => (by obtain ⟨s1, s2, s3, s4, s5⟩ := hS; go_simp)⟩) hH ?_
        simp only [Act.put, List.setIfInBounds_toArray, List.set_cons_zero, List.set_cons_succ]
        refine g_one (i := 3) (by kernel_rfl) (by rfl) (fun K hK => ?_)
        go_simp
        have hd1 : Below wr.heap.size wr (wr.alloc (.cells #[.int .i64 kd.k, .string kd.t, .string kd.v, .slice B kd.kids.length cB] 24)).drew := below_drew hal
        refine (hih _ hd1).mono ?_
        rintro e w5 ⟨A5, c5, rfl, hF5, hb5⟩
        have m3 := hC1.drew.below hb5 hC1.lt
        have mZ := hZ.drew.below hb5 hZ.lt
        refine hK.out _ _ (fun _ => ⟨m3.cell 3, mZ.cell 0, mZ.cell 1, mZ.cell 2, mZ.cell 3⟩) (fun _ => ?_)
        clear hK K hH u3 z0 z1 z2 z3 hih
        refine g_one (i := 4) (by kernel_rfl) (by rfl) (fun K hK => ?_)
        go_simp
        have hb6 : Below wr.heap.size wr w5 := hd1.trans (hb5.mono (by simp))
        have o6 := hb6.size
        have R5 := HR.out.below hb6
        refine hK.out _ _ (fun _ => ⟨(m3.alloc _).cell 3, (mZ.alloc _).cell 0, (mZ.alloc _).cell 1, (mZ.alloc _).cell 2, (mZ.alloc _).cell 3⟩) (fun _ => ?_)
        clear hK K
        refine g_one (i := 5) (by kernel_rfl) (by rfl) (fun K hK => ?_)
        have al5 : Below w5.heap.size w5 (w5.alloc (.cells #[.int .i64 kd.k, .string kd.t, .string kd.v, .slice A5 kd.kids.length c5] 24)) := (Below.refl _ _).alloc (Nat.le_refl _) _
        have R6 := R5.below al5
        have F6 := Fresh.below hF5 al5
        refine step_appO (by rfl) (.tmp 21) (.tmp 24) 22 (by rfl) (cb + 1) 24 _ 4 64 Tryz.underlying22 Tryz.infoNd (by rfl) (by decide) (.slice A1 j c1) j (kvCs ks) [.int .i64 kd.k, .string kd.t, .string kd.v, .slice A5 kd.kids.length c5] (by rfl) (by have := R6.row; rw [HL.out] at this; exact this) (by simp [Value.oneCell']) ⟨w5.heap.size, 0, none⟩ 1 1 (by rfl) (by rfl) (by exact cellsOf4 w5 _ _ _ _ _) (by simp only [maxLen]; omega) (by omega) (by simp; omega) ?_
        intro v7 w7 hown7 hO7
        have R7 : NRow w7 (cb + 1) v7 (ks ++ [⟨kd, A5, c5⟩]) := R6.push (own_fresh F6 (by simp; omega) (fun g hg => by have := HR.out.lt g hg; simp; omega)) hO7 (by rw [HL.out]; exact hown7)
        obtain ⟨A7, c7, rfl⟩ := R7.shapeN (n := j + 1) (by rw [List.length_append, HL.out]; rfl)
        have ncb : some cb ≠ (Value.slice A1 j c1).ownBlock := fun e => by have := (World.ownsRow.lt HR.out.row cb e.symm).1; omega
        have n3 := (hO7.blk (m3.alloc _) ncb).1
        have nkb : some wr.heap.size ≠ (Value.slice A1 j c1).ownBlock := fun e => by have := HR.out.lt _ e.symm; omega
        have nZ := (hO7.blk (mZ.alloc _) nkb).1
        have nc : w7.cell? ⟨cb, 3, none⟩ = some (.slice A1 j c1) := n3.cell 3
        have nf : w7.frozen? ⟨cb, 3, none⟩ = false := n3.frozen 3
        have nl := n3.lt
        refine hK.out _ _ (fun _ => ⟨nc, nZ.cell 0, nZ.cell 1, nZ.cell 2, nZ.cell 3⟩) (fun hH7' => ?_)
        have hH7 := hH7' (by decide)
        clear hK K hH7'
        simp only [Act.put, List.getElem_toArray, List.getElem_cons_succ, List.getElem_cons_zero, List.setIfInBounds_toArray, List.set_cons_zero, List.set_cons_succ]
        refine g_take (i := 6) (v := .pointer (some ⟨cb, 3, none⟩)) (by rfl) (by kernel_rfl) (by kernel_rfl) (by kernel_rfl) (by kernel_rfl) (fun _ _ _ h => (by cases h.1)) (Or.inl ⟨by rfl, fun W hS => (by obtain ⟨s1, s2, s3, s4, s5⟩ := hS; go_simp)⟩) hH7 ?_
        simp only [Act.put, List.setIfInBounds_toArray, List.set_cons_zero, List.set_cons_succ]
        refine g_one (i := 7) (by kernel_rfl) (by rfl) (fun K hK => ?_)
        go_simp
        refine hK.out _ _ (fun h => absurd (by decide) h) (fun _ => ?_)
        clear hK K
        refine g_done (by kernel_rfl) ⟨rfl, ?_⟩ _
        have R8 := R7.set (p := ⟨cb, 3, none⟩) (by simp) (.slice A7 (j + 1) c7)
        have n8 := n3.set_ 3 (.slice A7 (j + 1) c7)
        have hB8 : Below cb W2 (w7.setCell ⟨cb, 3, none⟩ (.slice A7 (j + 1) c7)) := by
          have h7 : Below cb w5 w7 := (al5.mono (by omega)).trans ((hO7.below (base := cb + 1) R6.row (by simp; omega)).mono (Nat.le_succ _))
          exact ((HB.out.trans (hb6.mono (by omega))).trans h7).setCell (p := ⟨cb, 3, none⟩) (Nat.le_refl _) _
        clear R7 R6 R5 F6 hF5 hO7 hown7 n3 nZ nc nf nl m3 mZ hC1 hZ
        go_wp2
        go_roundw
        case rel => exact ⟨j + 1, A7, c7, ks ++ [⟨kd, A5, c5⟩], hlt, by go_num, Lib.hid R8, Lib.hid (by rw [List.map_append, HM.out, HT.out]; rfl), Lib.hid (by rw [List.length_append, HL.out]; rfl), n8, Lib.hid hB8⟩
        case measure => first | (simp [intOf]; done) | (simp [intOf]; omega)
      case neg =>
        have hje : j = kids.length := by omega
        subst hje
        obtain ⟨A8, c8, hv8, hN8⟩ := HR.out.node k t v
        rw [HM.out, List.take_length] at hN8
        injection hv8 with e1 e2 e3
        subst e1 e3
        clear e2
        have hyr := HY2.out.below HB.out (by omega)
        have g0 : wr.cell? ⟨cb, 0, none⟩ = some (.int .i64 k) := hC.cell 0
        have g1 : wr.cell? ⟨cb, 1, none⟩ = some (.string t) := hC.cell 1
        have g2 : wr.cell? ⟨cb, 2, none⟩ = some (.string v) := hC.cell 2
        have g3 : wr.cell? ⟨cb, 3, none⟩ = some (.slice A1 kids.length c1) := hC.cell 3
        have f0 : wr.frozen? ⟨w.heap.size + 1, 0, none⟩ = false := hyr.frozen 0
        have f1 : wr.frozen? ⟨w.heap.size + 1, 1, none⟩ = false := hyr.frozen 1
        have f2 : wr.frozen? ⟨w.heap.size + 1, 2, none⟩ = false := hyr.frozen 2
        have f3 : wr.frozen? ⟨w.heap.size + 1, 3, none⟩ = false := hyr.frozen 3
        have d0 : wr.cell? ⟨w.heap.size + 1, 0, none⟩ = some (.int .i64 0) := hyr.cell 0
        have d1 : wr.cell? ⟨w.heap.size + 1, 1, none⟩ = some (.string ⟨#[]⟩) := hyr.cell 1
        have d2 : wr.cell? ⟨w.heap.size + 1, 2, none⟩ = some (.string ⟨#[]⟩) := hyr.cell 2
        have d3 : wr.cell? ⟨w.heap.size + 1, 3, none⟩ = some (.slice none 0 0) := hyr.cell 3
        have l2 := hyr.lt
        go_wp2
        have y := (((hyr.set_ 0 (.int .i64 k)).set_ 1 (.string t)).set_ 2 (.string v)).set_ 3 (.slice A1 kids.length c1)
        have hN9 := Fresh.set (Fresh.set (Fresh.set (Fresh.set hN8 (p := ⟨w.heap.size + 1, 0, none⟩) (by simp; omega) (.int .i64 k)) (p := ⟨w.heap.size + 1, 1, none⟩) (by simp; omega) (.string t)) (p := ⟨w.heap.size + 1, 2, none⟩) (by simp; omega) (.string v)) (p := ⟨w.heap.size + 1, 3, none⟩) (by simp; omega) (.slice A1 kids.length c1)
        have hb9 := (((hbw.setCell (p := ⟨w.heap.size + 1, 0, none⟩) (by simp) (.int .i64 k)).setCell (p := ⟨w.heap.size + 1, 1, none⟩) (by simp) (.string t)).setCell (p := ⟨w.heap.size + 1, 2, none⟩) (by simp) (.string v)).setCell (p := ⟨w.heap.size + 1, 3, none⟩) (by simp) (.slice A1 kids.length c1)
        generalize (((wr.setCell ⟨w.heap.size + 1, 0, none⟩ (.int .i64 k)).setCell ⟨w.heap.size + 1, 1, none⟩ (.string t)).setCell ⟨w.heap.size + 1, 2, none⟩ (.string v)).setCell ⟨w.heap.size + 1, 3, none⟩ (.slice A1 kids.length c1) = W at *
        have y0 : W.cell? ⟨w.heap.size + 1, 0, none⟩ = some (.int .i64 k) := y.cell 0
        have y1 : W.cell? ⟨w.heap.size + 1, 1, none⟩ = some (.string t) := y.cell 1
        have y2 : W.cell? ⟨w.heap.size + 1, 2, none⟩ = some (.string v) := y.cell 2
        have y3 : W.cell? ⟨w.heap.size + 1, 3, none⟩ = some (.slice A1 kids.length c1) := y.cell 3
        refine bodyPost_ret (v := .agg #[.int .i64 k, .string t, .string v, .slice A1 kids.length c1]) ?_ rfl ⟨A1, c1, rfl, Fresh.lower hN9 (by omega), hb9⟩
        simp [results, Tryz.f22, go_sem, y0, y1, y2, y3]
end Go.Proofs.YtfilonbhcalkoaaGreatDoor
namespace Go.Proofs.YtfilonbhcalkoaaGreatDoor
open Go.RowKit Go.Maps
set_option maxRecDepth 100000

def ev0 (k : Int) : Ev := ⟨k, ⟨#[]⟩, ⟨#[]⟩⟩
def evOne : Ev := ⟨3, ⟨#[49]⟩, ⟨#[]⟩⟩
def live1 : List Pt := [⟨5, 0, []⟩, ⟨0, 5, []⟩]
def live2 : List Pt := [⟨5, 3, []⟩, ⟨0, 5, []⟩]
def live3 : List Pt := [⟨0, 5, []⟩]
theorem live_e1 : stepE [topP] (ev0 5) = 0 := by decide +kernel
theorem live_e2 : stepE live1 evOne = 0 := by decide +kernel
theorem live_e3 : stepE live2 (ev0 6) = 0 := by decide +kernel
theorem live_e4 : stepE live3 (ev0 1) = 19 := by decide +kernel
theorem live_s1 : stepS [topP] (ev0 5) = live1 := by unfold stepS; rw [live_e1, if_pos rfl]; rfl
theorem live_s2 : stepS live1 evOne = live2 := by unfold stepS; rw [live_e2, if_pos rfl]; rfl
theorem live_s3 : stepS live2 (ev0 6) = live3 := by unfold stepS; rw [live_e3, if_pos rfl]; rfl
theorem live_s4 : stepS live3 (ev0 1) = live3 := by unfold stepS; rw [live_e4, if_neg (by decide)]

theorem stepV (w : World) (base g : Nat) (st st' : List Pt) (E : Int) (x : Ev) (hE : stepE st x = E) (hS : stepS st x = st') (h : CAt w base g st) (hg : Good st) (hw : Nm.StdW w) (hs : x.t.size ≤ 140737488355328) :
    Calls Tryz.prog 30 #[.pointer (some ⟨g, 0, none⟩), .agg #[.int .i64 x.k, .string x.t, .string x.v]] w fun e w' => e = .returned (.int .i64 E) ∧ CAt w' base g st' ∧ Tch base cObj w w' := by
  have := estep_any w base g st x h hg hw hs
  unfold SPost at this
  rw [hE, hS] at this
  exact this

end Go.Proofs.YtfilonbhcalkoaaGreatDoor

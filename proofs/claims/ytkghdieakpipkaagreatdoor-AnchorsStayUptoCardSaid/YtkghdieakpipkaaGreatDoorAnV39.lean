/-
  Slices of events and of deeds that came in, and an event, opened (the seat of stage 10).
  The law's does: one deed, of both.
-/
import Derived.Test.YtkghdieakpipkaaGreatDoorAnV38
import Derived.Test.YtkghdieakpipkaaGreatDoorAnV36
import Derived.Deep.RegionHeld3
namespace Go.Proofs.YtkghdieakpipkaaGreatDoor
open Go.RowKit Go.ChangeShapes Go.WideShapes Go.Deep
set_option maxRecDepth 100000

/-! A slice of events that came in. -/
def dE {H : Type} (x : Ev) : DataW H := .agg [.lit (.int .i64 x.k), .lit (.string x.t.data.toList), .lit (.string x.v.data.toList)]

theorem event_one {H : Type} {enc : TypeId × Value → H} {w : World} {base : Nat} {spare : Nat → Bool} {held : Bool} {n : Nat} {cs : List Value} {x : DataW H × List MemPlace}
    (h : DataW.trod enc Tryz.prog w base spare held n 31 cs = some x) : ∃ d : Ev, cs = [.int .i64 d.k, .string d.t, .string d.v] ∧ x.1 = dE d ∧ (Lit.int .i64 d.k).wf = true := by
  obtain ⟨ys, m, _, hy, hl, hyl, hf⟩ := DataW.trod_struct Tryz.underlying31 h
  have hC : Tryz.prog.cellsOf 31 = 3 := by kernel_rfl
  have hi : Tryz.prog.cellsOf 3 = 1 := by kernel_rfl
  have hs : Tryz.prog.cellsOf 9 = 1 := by kernel_rfl
  rw [hC] at hl
  match cs, hl with
  | [c0, c1, c2], _ =>
    match ys, hyl with
    | [y0, y1, y2], _ =>
      have f0 := hf 0 _ rfl
      have f1 := hf 1 _ rfl
      have f2 := hf 2 _ rfl
      simp [hi, hs] at f0 f1 f2
      obtain ⟨a, ha, rfl, hw⟩ := DataW.trod_int Tryz.underlying3 f0
      obtain ⟨b, hb, rfl, _⟩ := DataW.trod_string Tryz.underlying9 f1
      obtain ⟨c, hc, rfl, _⟩ := DataW.trod_string Tryz.underlying9 f2
      cases ha
      cases hb
      cases hc
      exact ⟨⟨a, b, c⟩, rfl, by rw [hy]; rfl, hw⟩

theorem addr_addN (b o n : Nat) : (⟨b, o, none⟩ : Addr).add n = ⟨b, o + n, none⟩ := by unfold Addr.add; split <;> simp_all
instance : Inhabited Ev := ⟨⟨0, ⟨#[]⟩, ⟨#[]⟩⟩⟩

theorem open_events {H : Type} {enc : TypeId × Value → H} {w : World} {base : Nat} {spare : Nat → Bool} {held : Bool} {n : Nat} {v : Value} {x : DataW H × List MemPlace}
    (h : DataW.trod enc Tryz.prog w base spare held n 37 [v] = some x) :
    ∃ (xs : List Ev), ERead w v xs ∧ (∀ d ∈ xs, (Lit.int .i64 d.k).wf = true) ∧ (xs = [] ∨ ∃ rest, x.1 = .slice (xs.map dE) rest) := by
  have hC : Tryz.prog.cellsOf 31 = 3 := by kernel_rfl
  rcases open_slice Tryz.underlying37 h with ⟨hcs, _⟩ | ⟨a, len, cap, m, k, D, Pl, hcs, hb, hl, hm, hmm, hx, hi⟩
  · cases hcs
    exact ⟨[], ⟨none, 0, rfl, Nat.le_refl _, Nat.zero_le _, fun h => absurd h (by simp)⟩, fun d hd => (by cases hd), .inl rfl⟩
  · cases hcs
    have hlm : len ≤ m := by rw [hmm]; split <;> omega
    obtain ⟨V, hV⟩ := choose_lt (α := Ev) (n := m) (p := fun i d => D i = dE d ∧ (Lit.int .i64 d.k).wf = true ∧ ∀ j u, [Value.int .i64 d.k, .string d.t, .string d.v][j]? = some u → w.cell? ((a.add (i * 3)).add j) = some u) (fun i him => by
      obtain ⟨cs', h1, h2⟩ := hi i him
      rw [hC] at h1
      obtain ⟨_, hlen, hc⟩ := World.cells?_some h1
      obtain ⟨d, rfl, hd, hw⟩ := event_one h2
      refine ⟨d, hd, hw, fun j u hu => ?_⟩
      have hj : j < 3 := by
        have := (List.getElem?_eq_some_iff.1 hu).1
        simpa using this
      rw [hc j hj, hu])
    refine ⟨(List.range len).map V, ⟨some a, cap, by simp, by simpa using hl, hm, fun hp => ?_⟩, fun d hd => ?_, .inr ⟨(List.range (m - len)).map fun j => D (len + j), ?_⟩⟩
    · have h0 : 0 < len := by simpa using hp
      have hs := World.cell?_spot ((hV 0 (by omega)).2.2 0 _ rfl)
      obtain ⟨b, o, sp⟩ := a
      obtain rfl : sp = none := by simpa [Addr.add] using hs
      refine ⟨b, o, rfl, fun j hj => ?_⟩
      have hj' : j < len := by simpa using hj
      have hc := (hV j (by omega)).2.2
      simp only [addr_addN] at hc
      simp only [List.getElem_map, List.getElem_range]
      exact ⟨hc 0 _ rfl, hc 1 _ rfl, hc 2 _ rfl⟩
    · obtain ⟨i, hi', rfl⟩ := List.mem_map.1 hd
      exact (hV i (by have := List.mem_range.1 hi'; omega)).2.1
    · rw [hx, List.map_map]
      simp only
      congr 1
      refine List.map_congr_left fun i hi' => ?_
      exact (hV i (by have := List.mem_range.1 hi'; omega)).1

/-! The sizes, out of the form's own reach. -/
theorem weightsAll_mem {H : Type} {P : Program} {e : TypeId} : ∀ {l : List (DataW H)} {d : DataW H}, d ∈ l → ∀ n ∈ d.weights P e, n ∈ DataW.weightsAll P e l
  | x :: r, d, hd, n, hn => by
    simp only [DataW.weightsAll, List.mem_append]
    rcases List.mem_cons.1 hd with rfl | h
    · exact Or.inl hn
    · exact Or.inr (weightsAll_mem h n hn)
theorem sized_events {H : Type} {ts : List TypeId} {ds : List (DataW H)} (h : (DataW.weightsEach Tryz.prog ts ds).all (· ≤ reachBytes) = true) {j : Nat} {xs : List Ev} {rest : List (DataW H)}
    (ht : ts[j]? = some 37) (hd : ds[j]? = some (.slice (xs.map dE) rest)) : xs.length ≤ 4611686018427387904 ∧ ∀ x ∈ xs, x.t.size ≤ 140737488355328 ∧ x.v.size ≤ 140737488355328 := by
  have hb : Tryz.prog.bytesOf 31 = 40 := by kernel_rfl
  constructor
  · have := sized_slice h ht hd Tryz.underlying37
    rw [hb, List.length_map] at this
    simp only [reachBytes] at this
    omega
  · intro x hx
    have hmem : ∀ n, n ∈ (dE x : DataW H).weights Tryz.prog 31 → n ≤ reachBytes := by
      intro n hn
      refine of_decide_eq_true (List.all_eq_true.1 h _ (DataW.weights_mem_each ht hd _ ?_))
      simp only [DataW.weights, Tryz.underlying37, List.mem_cons, List.mem_append]
      exact Or.inr (Or.inl (weightsAll_mem (List.mem_map.2 ⟨x, hx, rfl⟩) n hn))
    have hw : (dE x : DataW H).weights Tryz.prog 31 = [x.t.data.toList.length, x.v.data.toList.length] := by
      simp [dE, DataW.weights, DataW.weightsEach, Tryz.underlying31]
    rw [hw] at hmem
    have h1 := hmem x.t.data.toList.length (by simp)
    have h2 := hmem x.v.data.toList.length (by simp)
    simp [reachBytes] at h1 h2
    exact ⟨by omega, by omega⟩
theorem okE_of {x : Ev} (hw : (Lit.int .i64 x.k).wf = true) (h : x.t.size ≤ 140737488355328 ∧ x.v.size ≤ 140737488355328) : okE x := by
  simp [Lit.wf, IntKind.min, IntKind.max, IntKind.signed, IntKind.bits] at hw
  exact ⟨by omega, by omega, h.1, h.2⟩

/-! A slice of deeds that came in. -/
structure Dk where
  k : Int
  nm : ByteArray
  x : Ev
instance : Inhabited Dk := ⟨⟨0, ⟨#[]⟩, ⟨0, ⟨#[]⟩, ⟨#[]⟩⟩⟩⟩
def dK {H : Type} (d : Dk) : DataW H := .agg [.lit (.int .i64 d.k), .lit (.string d.nm.data.toList), dE d.x]
def kcs (d : Dk) : List Value := [.int .i64 d.k, .string d.nm, .int .i64 d.x.k, .string d.x.t, .string d.x.v]
def KRead (w : World) (v : Value) (xs : List Dk) : Prop :=
  ∃ A c, v = .slice A xs.length c ∧ xs.length ≤ c ∧ (0 < xs.length → ∃ b o : Nat, A = some ⟨b, o, none⟩ ∧ ∀ j (h : j < xs.length), ∀ i u, (kcs xs[j])[i]? = some u → w.cell? ⟨b, o + j * 5 + i, none⟩ = some u)
theorem kdeed_one {H : Type} {enc : TypeId × Value → H} {w : World} {base : Nat} {spare : Nat → Bool} {held : Bool} {n : Nat} {cs : List Value} {x : DataW H × List MemPlace}
    (h : DataW.trod enc Tryz.prog w base spare held n 33 cs = some x) : ∃ d : Dk, cs = kcs d ∧ x.1 = dK d ∧ (Lit.int .i64 d.k).wf = true ∧ (Lit.int .i64 d.x.k).wf = true := by
  obtain ⟨ys, m, _, hy, hl, hyl, hf⟩ := DataW.trod_struct Tryz.underlying33 h
  have hC : Tryz.prog.cellsOf 33 = 5 := by kernel_rfl
  have hi : Tryz.prog.cellsOf 3 = 1 := by kernel_rfl
  have hs : Tryz.prog.cellsOf 9 = 1 := by kernel_rfl
  have he : Tryz.prog.cellsOf 31 = 3 := by kernel_rfl
  rw [hC] at hl
  match cs, hl with
  | [c0, c1, c2, c3, c4], _ =>
    match ys, hyl with
    | [y0, y1, y2], _ =>
      have f0 := hf 0 _ rfl
      have f1 := hf 1 _ rfl
      have f2 := hf 2 _ rfl
      simp [hi, hs, he] at f0 f1 f2
      obtain ⟨a, ha, rfl, hw⟩ := DataW.trod_int Tryz.underlying3 f0
      obtain ⟨b, hb, rfl, _⟩ := DataW.trod_string Tryz.underlying9 f1
      obtain ⟨d, hd, hd2, hw2⟩ := event_one f2
      cases ha
      cases hb
      simp at hd
      obtain ⟨rfl, rfl, rfl⟩ := hd
      exact ⟨⟨a, b, d⟩, rfl, by rw [hy]; simp [dK, hd2], hw, hw2⟩
theorem open_kdeeds {H : Type} {enc : TypeId × Value → H} {w : World} {base : Nat} {spare : Nat → Bool} {held : Bool} {n : Nat} {v : Value} {x : DataW H × List MemPlace}
    (h : DataW.trod enc Tryz.prog w base spare held n 22 [v] = some x) :
    ∃ (xs : List Dk), KRead w v xs ∧ (∀ d ∈ xs, (Lit.int .i64 d.k).wf = true ∧ (Lit.int .i64 d.x.k).wf = true) ∧ (xs = [] ∨ ∃ rest, x.1 = .slice (xs.map dK) rest) := by
  have hC : Tryz.prog.cellsOf 33 = 5 := by kernel_rfl
  rcases open_slice Tryz.underlying22 h with ⟨hcs, _⟩ | ⟨a, len, cap, m, k, D, Pl, hcs, hb, hl, hm, hmm, hx, hi⟩
  · cases hcs
    exact ⟨[], ⟨none, 0, rfl, Nat.le_refl _, fun h => absurd h (by simp)⟩, fun d hd => (by cases hd), .inl rfl⟩
  · cases hcs
    have hlm : len ≤ m := by rw [hmm]; split <;> omega
    obtain ⟨V, hV⟩ := choose_lt (α := Dk) (n := m) (p := fun i d => D i = dK d ∧ ((Lit.int .i64 d.k).wf = true ∧ (Lit.int .i64 d.x.k).wf = true) ∧ ∀ j u, (kcs d)[j]? = some u → w.cell? ((a.add (i * 5)).add j) = some u) (fun i him => by
      obtain ⟨cs', h1, h2⟩ := hi i him
      rw [hC] at h1
      obtain ⟨_, hlen, hc⟩ := World.cells?_some h1
      obtain ⟨d, rfl, hd, hw, hw2⟩ := kdeed_one h2
      refine ⟨d, hd, ⟨hw, hw2⟩, fun j u hu => ?_⟩
      have hj : j < 5 := by
        have := (List.getElem?_eq_some_iff.1 hu).1
        simpa [kcs] using this
      rw [hc j hj, hu])
    refine ⟨(List.range len).map V, ⟨some a, cap, by simp, by simpa using hl, fun hp => ?_⟩, fun d hd => ?_, .inr ⟨(List.range (m - len)).map fun j => D (len + j), ?_⟩⟩
    · have h0 : 0 < len := by simpa using hp
      have hs := World.cell?_spot ((hV 0 (by omega)).2.2 0 _ rfl)
      obtain ⟨b, o, sp⟩ := a
      obtain rfl : sp = none := by simpa [Addr.add] using hs
      refine ⟨b, o, rfl, fun j hj i u hu => ?_⟩
      have hj' : j < len := by simpa using hj
      have hc := (hV j (by omega)).2.2
      simp only [addr_addN] at hc
      simp only [List.getElem_map, List.getElem_range] at hu
      exact hc i u hu
    · obtain ⟨i, hi', rfl⟩ := List.mem_map.1 hd
      exact (hV i (by have := List.mem_range.1 hi'; omega)).2.1
    · rw [hx, List.map_map]
      simp only
      congr 1
      refine List.map_congr_left fun i hi' => ?_
      exact (hV i (by have := List.mem_range.1 hi'; omega)).1
/-- A deed that can be read. -/
def okK (d : Dk) : Prop := (-9223372036854775808 ≤ d.k ∧ d.k ≤ 9223372036854775807) ∧ d.nm.size ≤ 140737488355328 ∧ okE d.x
theorem sized_kdeeds {H : Type} {ts : List TypeId} {ds : List (DataW H)} (h : (DataW.weightsEach Tryz.prog ts ds).all (· ≤ reachBytes) = true) {j : Nat} {xs : List Dk} {rest : List (DataW H)}
    (ht : ts[j]? = some 22) (hd : ds[j]? = some (.slice (xs.map dK) rest)) (hw : ∀ d ∈ xs, (Lit.int .i64 d.k).wf = true ∧ (Lit.int .i64 d.x.k).wf = true) : xs.length ≤ 4611686018427387904 ∧ ∀ d ∈ xs, okK d := by
  have hb : Tryz.prog.bytesOf 33 = 64 := by kernel_rfl
  constructor
  · have := sized_slice h ht hd Tryz.underlying22
    rw [hb, List.length_map] at this
    simp only [reachBytes] at this
    omega
  · intro d hd'
    have hmem : ∀ n, n ∈ (dK d : DataW H).weights Tryz.prog 33 → n ≤ reachBytes := by
      intro n hn
      refine of_decide_eq_true (List.all_eq_true.1 h _ (DataW.weights_mem_each ht hd _ ?_))
      simp only [DataW.weights, Tryz.underlying22, List.mem_cons, List.mem_append]
      exact Or.inr (Or.inl (weightsAll_mem (List.mem_map.2 ⟨d, hd', rfl⟩) n hn))
    have hw' : (dK d : DataW H).weights Tryz.prog 33 = [d.nm.data.toList.length, d.x.t.data.toList.length, d.x.v.data.toList.length] := by
      simp [dK, dE, DataW.weights, DataW.weightsEach, Tryz.underlying33, Tryz.underlying31]
    rw [hw'] at hmem
    have h0 := hmem d.nm.data.toList.length (by simp)
    have h1 := hmem d.x.t.data.toList.length (by simp)
    have h2 := hmem d.x.v.data.toList.length (by simp)
    simp [reachBytes] at h0 h1 h2
    obtain ⟨w1, w2⟩ := hw d hd'
    simp [Lit.wf, IntKind.min, IntKind.max, IntKind.signed, IntKind.bits] at w1
    exact ⟨⟨by omega, by omega⟩, by omega, okE_of w2 ⟨by omega, by omega⟩⟩
end Go.Proofs.YtkghdieakpipkaaGreatDoor
namespace Go.Proofs.YtkghdieakpipkaaGreatDoor
open Go.RowKit Go.Maps
set_option maxRecDepth 100000
set_option linter.unusedSimpArgs false
set_option linter.unusedVariables false

/-- An Anchors and a reference that hold the same, of blocks of their own. -/
structure Both (B : Nat) (w : World) (S T : Nat → Prop) (a r : Nat) (s : Am) : Prop where
  prog : AIs B w S a s
  ref : RAt w T r s
  apart : ∀ k, S k → ¬ T k
  lo : ∀ k, T k → B ≤ k
def BothPo (B : Nat) (w : World) (S T : Nat → Prop) (a r : Nat) (s : Am) (w' : World) : Prop :=
  ∃ S' T', Both B w' S' T' a r s ∧ TS (fun k => S k ∨ T k) anyO w w' ∧ Below B w w' ∧ ∀ k, S' k ∨ T' k → (S k ∨ T k) ∨ w.heap.size ≤ k
def deedM (s : Am) (d : Dk) : Am := if pick3 d.k = 0 then openM s d.nm.data.toList else if pick3 d.k = 1 then stepAM s d.x else getM s d.nm.data.toList
section
variable {B : Nat} {w w1 w2 w' : World} {S T S' T' : Nat → Prop} {a r : Nat} {s s' s2 : Am}
/-- Behind the program's call, then the reference's. -/
theorem Both.step (h : Both B w S T a r s) (h1 : AnPo B w S a s' w1) (h2 : ∀ S1, AIs B w1 S1 a s' → RAt w1 T r s → RAt w2 (Ext T w1 w2) r s' ∧ TS T anyO w1 w2) : BothPo B w S T a r s' w2 := by
  obtain ⟨S1, hA1, ht1, hb1, hn1⟩ := h1
  have hR1 := h.ref.off ht1 (fun k hk hs => h.apart k hs hk)
  have hTlt : ∀ k, T k → k < w.heap.size := h.ref.1
  have hS1T : ∀ k, S1 k → ¬ T k := by
    intro k hk hT
    rcases hn1 k hk with h5 | h5
    · exact h.apart k h5 hT
    · have := hTlt k hT; omega
  obtain ⟨hR2, ht2⟩ := h2 S1 hA1 hR1
  have hA2 := hA1.off ht2 hS1T h.lo
  refine ⟨S1, Ext T w1 w2, ⟨hA2, hR2, ?_, ?_⟩, ?_, ?_, ?_⟩
  · rintro k hk (h5 | ⟨h5, _⟩)
    · exact hS1T k hk h5
    · have := hA1.lies.lt k hk; omega
  · rintro k (h5 | ⟨h5, _⟩)
    · exact h.lo k h5
    · have := h.prog.sz; have := ht1.size; omega
  · exact (ht1.mono fun _ h => .inl h).trans (ht2.mono fun _ h => .inr h)
  · exact hb1.trans (ht2.below (Nat.le_trans h.prog.sz ht1.size) h.lo)
  · rintro k (h5 | h5 | ⟨h5, _⟩)
    · rcases hn1 k h5 with h6 | h6
      · exact .inl (.inl h6)
      · exact .inr h6
    · exact .inl (.inr h5)
    · have := ht1.size; exact .inr (by omega)
theorem Both.off {U : Nat → Prop} (h : Both B w S T a r s) (ht : TS U anyO w w') (h1 : ∀ k, S k → ¬ U k) (h2 : ∀ k, T k → ¬ U k) (hU : ∀ k, U k → B ≤ k) : Both B w' S T a r s :=
  ⟨h.prog.off ht h1 hU, h.ref.off ht h2, h.apart, h.lo⟩
theorem Both.below (h : Both B w S T a r s) (hb : Below w.heap.size w w') : Both B w' S T a r s := ⟨h.prog.below hb, h.ref.below hb, h.apart, h.lo⟩
theorem BothPo.pre (hb : Below w.heap.size w w1) (hB : B ≤ w.heap.size) (h : BothPo B w1 S T a r s w') : BothPo B w S T a r s w' := by
  obtain ⟨S', T', h1, h2, h3, h4⟩ := h
  exact ⟨S', T', h1, (TS.of_below hb).trans h2, (hb.mono hB).trans h3, fun k hk => (h4 k hk).imp id fun h5 => Nat.le_trans hb.size h5⟩
end

theorem cell_ts {w w' : World} {T : Nat → Prop} {p : Obj → Prop} {b i : Nat} {v : Value} (ht : TS T p w w') (hb : ¬ T b) (hc : w.cell? ⟨b, i, none⟩ = some v) : w'.cell? ⟨b, i, none⟩ = some v := by
  obtain ⟨o, ho⟩ := heap_some (cell_lt hc)
  have h1 := ht.block b o ho (.inl hb)
  rw [← hc]
  unfold World.cell?
  simp only [ho, h1]
theorem erow_cells {w : World} {base : Nat} {lv : Value} {l : List Ev} (h : ERow w base lv l) : ∃ A c, lv = .slice A l.length c ∧ l.length ≤ c ∧ c ≤ maxLen ∧ (0 < l.length → ∃ g cur, A = some ⟨g, 0, none⟩ ∧ base ≤ g ∧ Blk w g 31 cur ∧ l.length * 3 ≤ cur.size) := by
  have hr := h
  unfold ERow at hr
  rcases hr.2 with ⟨rfl, h0⟩ | ⟨r, c, cur, rfl, hg, hh, hnc, hm, hs, ht⟩
  · exact ⟨none, 0, by rw [h0], by omega, Nat.zero_le _, fun hp => by omega⟩
  · refine ⟨_, c, rfl, hnc, hm, fun _ => ⟨r, cur, rfl, hg, hh, ?_⟩⟩
    have h1 := Nat.mul_le_mul_right 3 hnc
    omega
theorem ts_of_low {S : Nat → Prop} {p : Obj → Prop} {w w1 w2 : World} (h : TS S p w w1) (hb : Below w.heap.size w1 w2) : TS S p w w2 :=
  ⟨hb.os.trans h.os, hb.tape.trans h.tape, hb.output.trans h.output, Nat.le_trans h.size hb.size, fun k o ho hc => (hb.block k (heap_lt ho)).trans (h.block k o ho hc)⟩
theorem ts_low {B : Nat} {w w' : World} (hb : Below B w w') : TS (fun k => B ≤ k) anyO w w' :=
  ⟨hb.os, hb.tape, hb.output, hb.size, fun k o ho hc => by
    rcases hc with hc | hc
    · exact (hb.block k (by omega)).trans ho
    · exact absurd trivial hc⟩
set_option maxHeartbeats 8000000 in
theorem does_any (B : Nat) (w : World) (S T : Nat → Prop) (a r : Nat) (s : Am) (d : Dk) (h : Both B w S T a r s) (hd : okK d) (hs1 : d.x.t.size ≤ 1048576) (hs2 : d.x.v.size ≤ 1048576) :
    Calls Tryz.prog 8 #[.pointer (some ⟨a, 0, none⟩), .pointer (some ⟨r, 0, none⟩), .agg #[.int .i64 d.k, .string d.nm, .int .i64 d.x.k, .string d.x.t, .string d.x.v]] w fun e w' => e = .returned (.bool true) ∧ BothPo B w S T a r (deedM s d) w' := by
  obtain ⟨⟨k0, k1⟩, hn, hx⟩ := hd
  have hB := h.prog.sz
  have hba : Below w.heap.size w (w.alloc (.cells #[.int .i64 d.k, .string d.nm, .int .i64 d.x.k, .string d.x.t, .string d.x.v] 33)) := (Below.refl _ _).alloc (Nat.le_refl _) _
  have hbx := Blk.new w 33 #[.int .i64 d.k, .string d.nm, .int .i64 d.x.k, .string d.x.t, .string d.x.v]
  have h1 := h.below hba
  have HP := Lib.hid (fun (w' : World) => pick3_any d.k w' k0 k1)
  obtain ⟨P, hP⟩ : ∃ P, pick3 d.k = P := ⟨_, rfl⟩
  have hPr := pick3_range d.k
  have hdm : deedM s d = if P = 0 then openM s d.nm.data.toList else if P = 1 then stepAM s d.x else getM s d.nm.data.toList := by unfold deedM; rw [hP]
  rw [hP] at HP hPr
  have HB := Lib.hid (fun s' w' (h : BothPo B (w.alloc (.cells #[.int .i64 d.k, .string d.nm, .int .i64 d.x.k, .string d.x.t, .string d.x.v] 33)) S T a r s' w') => BothPo.pre hba hB h)
  have hnS : ¬ S w.heap.size := fun hh => by have := h.prog.lies.lt _ hh; omega
  have hnT : ¬ T w.heap.size := fun hh => by have := h.ref.1 _ hh; omega
  have HX := Lib.hid hx
  have H1 := Lib.hid (And.intro h1 (And.intro hbx (And.intro hnS hnT)))
  have HI := Lib.hid h.prog.inv
  rw [hdm]
  clear hba h hP hdm h1 hB hx hbx hnS hnT
  go_enter Tryz.func8, Tryz.ntmps8
  go_wp2_with fail
  refine (HP.out _).mono ?_
  rintro e w2 ⟨rfl, rfl⟩
  clear HP
  generalize hW : w.alloc (.cells #[.int .i64 d.k, .string d.nm, .int .i64 d.x.k, .string d.x.t, .string d.x.v] 33) = W at *
  clear hW
  generalize w.heap.size = b at *
  have x1 : W.cell? ⟨b, 1, none⟩ = some (.string d.nm) := H1.out.2.1.cell 1
  have x2 : W.cell? ⟨b, 2, none⟩ = some (.int .i64 d.x.k) := H1.out.2.1.cell 2
  have x3 : W.cell? ⟨b, 3, none⟩ = some (.string d.x.t) := H1.out.2.1.cell 3
  have x4 : W.cell? ⟨b, 4, none⟩ = some (.string d.x.v) := H1.out.2.1.cell 4
  rcases hPr with rfl | rfl | rfl
  · obtain ⟨E, hE⟩ : ∃ E, openE s d.nm.data.toList = E := ⟨_, rfl⟩
    have HO : Hid (∀ W', Below W.heap.size W W' → Calls Tryz.prog 14 #[.pointer (some ⟨a, 0, none⟩), .string d.nm] W' fun e w' => e = .returned (.int .i64 E) ∧ AnPo B W' S a (openM s d.nm.data.toList) w' ∧ RAt w' T r s ∧ w'.cell? ⟨b, 1, none⟩ = some (.string d.nm)) := Lib.hid (fun W' hb => by
      have h5 := open_is (H1.out.1.prog.below hb) d.nm hn
      rw [hE] at h5
      refine h5.mono ?_
      rintro e w3 ⟨rfl, hpo⟩
      obtain ⟨S1, hA1, ht1, h6⟩ := hpo
      exact ⟨rfl, ⟨S1, hA1, ht1, h6⟩, (H1.out.1.ref.below hb).off ht1 (fun k hk hs => H1.out.1.apart k hs hk), ((H1.out.2.1.below hb H1.out.2.1.lt).ts ht1 (.inl H1.out.2.2.1)).cell 1⟩)
    have HR : Hid (∀ w3, RAt w3 T r s → w3.cell? ⟨b, 1, none⟩ = some (.string d.nm) → Calls Tryz.prog 19 #[.pointer (some ⟨r, 0, none⟩), .string d.nm] w3 fun e w' => e = .returned (.int .i64 E) ∧ (RAt w' (Ext T w3 w') r (openM s d.nm.data.toList) ∧ TS T anyO w3 w') ∧ w'.cell? ⟨b, 1, none⟩ = some (.string d.nm)) := Lib.hid (fun w3 hR3 hc => by
      have h5 := ropen_any w3 T r s d.nm hR3 HI.out hn
      rw [hE] at h5
      refine h5.mono ?_
      rintro e w4 ⟨rfl, hR4, ht4⟩
      refine ⟨rfl, ⟨hR4, ht4⟩, ?_⟩
      exact cell_ts ht4 H1.out.2.2.2 hc)
    clear x2 x3 x4 hE
    go_wp2
    go_region_held3 (fun w' => w'.cell? ⟨b, 1, none⟩ = some (.string d.nm))
      (first
        | exact x1
        | exact y3
        | exact y4
        | go_keep)
      (first
        | (go_at_call 14; refine (HO.out _ (below_drew (Below.refl _ _))).mono ?_; rintro e w3 ⟨rfl, hpo, hR3, y3⟩)
        | (go_at_call 19; refine (HR.out _ hR3 y3).mono ?_; rintro e w4 ⟨rfl, hR4, y4⟩))
    go_wp2
    go_ret
    refine ⟨rfl, HB.out _ _ (BothPo.pre (below_drew (Below.refl _ _)) H1.out.1.prog.sz ((H1.out.1.below (below_drew (Below.refl _ _))).step hpo fun _ _ _ => hR4))⟩
  · obtain ⟨E, hE⟩ : ∃ E, stepAE s d.x = E := ⟨_, rfl⟩
    have HO : Hid (∀ W', Below W.heap.size W W' → Calls Tryz.prog 15 #[.pointer (some ⟨a, 0, none⟩), .agg #[.int .i64 d.x.k, .string d.x.t, .string d.x.v]] W' fun e w' => e = .returned (.int .i64 E) ∧ AnPo B W' S a (stepAM s d.x) w' ∧ RAt w' T r s ∧ w'.cell? ⟨b, 2, none⟩ = some (.int .i64 d.x.k) ∧ w'.cell? ⟨b, 3, none⟩ = some (.string d.x.t) ∧ w'.cell? ⟨b, 4, none⟩ = some (.string d.x.v)) := Lib.hid (fun W' hb => by
      have h5 := step_is (H1.out.1.prog.below hb) d.x HX.out
      rw [hE] at h5
      refine h5.mono ?_
      rintro e w3 ⟨rfl, hpo⟩
      obtain ⟨S1, hA1, ht1, h6⟩ := hpo
      have hb3 := (H1.out.2.1.below hb H1.out.2.1.lt).ts ht1 (.inl H1.out.2.2.1)
      exact ⟨rfl, ⟨S1, hA1, ht1, h6⟩, (H1.out.1.ref.below hb).off ht1 (fun k hk hs => H1.out.1.apart k hs hk), hb3.cell 2, hb3.cell 3, hb3.cell 4⟩)
    have HR : Hid (∀ w3, RAt w3 T r s → w3.cell? ⟨b, 2, none⟩ = some (.int .i64 d.x.k) ∧ w3.cell? ⟨b, 3, none⟩ = some (.string d.x.t) ∧ w3.cell? ⟨b, 4, none⟩ = some (.string d.x.v) → Calls Tryz.prog 20 #[.pointer (some ⟨r, 0, none⟩), .agg #[.int .i64 d.x.k, .string d.x.t, .string d.x.v]] w3 fun e w' => e = .returned (.int .i64 E) ∧ (RAt w' (Ext T w3 w') r (stepAM s d.x) ∧ TS T anyO w3 w') ∧ w'.cell? ⟨b, 2, none⟩ = some (.int .i64 d.x.k) ∧ w'.cell? ⟨b, 3, none⟩ = some (.string d.x.t) ∧ w'.cell? ⟨b, 4, none⟩ = some (.string d.x.v)) := Lib.hid (fun w3 hR3 hc => by
      have h5 := rstepA_any w3 T r s d.x hR3 HI.out (by omega) (by omega)
      refine h5.mono ?_
      rintro e w4 ⟨he, hR4, ht4⟩
      rw [hE] at he
      exact ⟨he, ⟨hR4, ht4⟩, cell_ts ht4 H1.out.2.2.2 hc.1, cell_ts ht4 H1.out.2.2.2 hc.2.1, cell_ts ht4 H1.out.2.2.2 hc.2.2⟩)
    clear x1 hE
    go_wp2
    go_region_held3 (fun w' => w'.cell? ⟨b, 2, none⟩ = some (.int .i64 d.x.k) ∧ w'.cell? ⟨b, 3, none⟩ = some (.string d.x.t) ∧ w'.cell? ⟨b, 4, none⟩ = some (.string d.x.v))
      (first
        | exact ⟨x2, x3, x4⟩
        | exact y3
        | exact y4
        | go_keep)
      (first
        | (go_at_call 15; refine (HO.out _ (below_drew (Below.refl _ _))).mono ?_; rintro e w3 ⟨rfl, hpo, hR3, y3⟩)
        | (go_at_call 20; refine (HR.out _ hR3 y3).mono ?_; rintro e w4 ⟨rfl, hR4, y4⟩))
    go_wp2
    go_ret
    refine ⟨rfl, HB.out _ _ (BothPo.pre (below_drew (Below.refl _ _)) H1.out.1.prog.sz ((H1.out.1.below (below_drew (Below.refl _ _))).step hpo fun _ _ _ => hR4))⟩
  · have HO : Hid (Calls Tryz.prog 17 #[.pointer (some ⟨a, 0, none⟩), .string d.nm] W fun e w' => ∃ lv, e = .returned (.tuple #[lv, .int .i64 (getE s d.nm.data.toList)]) ∧ ERow w' W.heap.size lv (getL s d.nm.data.toList) ∧ AIs B w' S a (getM s d.nm.data.toList) ∧ TS S anyO W w' ∧ Below B W w' ∧ RAt w' T r s ∧ w'.cell? ⟨b, 1, none⟩ = some (.string d.nm)) := Lib.hid (by
      refine (get_is H1.out.1.prog d.nm hn).mono ?_
      rintro e w3 ⟨lv, rfl, hr, hA, ht, hb⟩
      exact ⟨lv, rfl, hr, hA, ht, hb, H1.out.1.ref.off ht (fun k hk hs => H1.out.1.apart k hs hk), cell_ts ht H1.out.2.2.1 x1⟩)
    clear x2 x3 x4
    go_wp2_with fail
    refine HO.out.mono ?_
    rintro e w3 ⟨lv, rfl, hr3, hA3, ht3, hb3, hR3, y3⟩
    have HG := Lib.hid (rget_any w3 T r s d.nm hR3 HI.out hn)
    have H3 := Lib.hid (And.intro hr3 (And.intro hA3 (And.intro ht3 hb3)))
    clear hr3 hA3 ht3 hb3 hR3 HO x1
    go_wp2_with fail
    refine HG.out.mono ?_
    rintro e w4 ⟨lm, rfl, hr4, hm4, hR4, ht4⟩
    have hA4 := H3.out.2.1.off ht4 (fun k hk hT => H1.out.1.apart k hk hT) H1.out.1.lo
    have hB4 : Both B w4 S T a r (getM s d.nm.data.toList) := ⟨hA4, hR4, H1.out.1.apart, H1.out.1.lo⟩
    have hTS4 : TS (fun k => S k ∨ T k) anyO W w4 := (H3.out.2.2.1.mono fun _ h => .inl h).trans (ht4.mono fun _ h => .inr h)
    have hb4 : Below B W w4 := H3.out.2.2.2.trans (ht4.below (Nat.le_trans H1.out.1.prog.sz H3.out.2.2.1.size) H1.out.1.lo)
    have hl4 : ERow w4 W.heap.size lv (getL s d.nm.data.toList) := row_ts H3.out.1 ht4 (.inl fun g hg hT => by
      have q1 := (World.ownsRow.lt H3.out.1 g hg).1
      have q2 := H1.out.1.ref.1 g hT
      omega)
    have HSm := Lib.hid (esame_self w4 lv lm _ hl4.read hr4.read)
    have H4 := Lib.hid (And.intro hB4 (And.intro hTS4 (And.intro hb4 hl4)))
    clear hA4 hB4 hTS4 hb4 hl4 hr4 hm4 hR4 ht4 HG H3 y3
    generalize getE s d.nm.data.toList = E at *
    generalize getL s d.nm.data.toList = l at *
    go_wp2_with fail
    refine HSm.out.mono ?_
    rintro e w5 ⟨rfl, hb5⟩
    have hl5 := H4.out.2.2.2.below hb5
    obtain ⟨A, c, rfl, hlc, hcm, hcells⟩ := erow_cells hl5
    have hcm2 : c ≤ 9223372036854775807 := by simpa [maxLen] using hcm
    obtain ⟨n, hn'⟩ : ∃ n, l.length = n := ⟨_, rfl⟩
    rw [hn'] at hlc hcells ⊢
    have hlow : Below W.heap.size w4 w5 := hb5.mono H4.out.2.1.size
    have start : Hid (Below W.heap.size w4 w5 ∧ (0 < n → ∃ g cur, A = some ⟨g, 0, none⟩ ∧ W.heap.size ≤ g ∧ Blk w5 g 31 cur ∧ n * 3 ≤ cur.size)) := Lib.hid ⟨hlow, hcells⟩
    have H5 : Hid (∀ w', Below W.heap.size w4 w' → BothPo B W S T a r (getM s d.nm.data.toList) w') := Lib.hid (fun w' hb => by
      have hB4 := H4.out.1
      have hWB := H1.out.1.prog.sz
      refine ⟨S, T, hB4.off (ts_low hb) (fun k hk hW => ?_) (fun k hk hW => ?_) (fun k hk => by omega), ts_of_low H4.out.2.1 hb, H4.out.2.2.1.trans (hb.mono hWB), fun k hk => .inl hk⟩
      · have := H1.out.1.prog.lies.lt k hk; omega
      · have := H1.out.1.ref.1 k hk; omega)
    clear hl5 hcm hcells hlow hb5 HSm H4 hn'
    go_wp2
    go_loopw [12] (fun u wr => ∃ i : Nat, i ≤ n ∧ u = .int .i64 (i : Int) ∧ Hid (Below W.heap.size w4 wr ∧ (0 < n → ∃ g cur, A = some ⟨g, 0, none⟩ ∧ W.heap.size ≤ g ∧ Blk wr g 31 cur ∧ n * 3 ≤ cur.size))) (fun u _ => n - (intOf u).toNat)
    case atStart => exact ⟨0, Nat.zero_le _, rfl, start⟩
    case round =>
      obtain ⟨i, hi, rfl, HL⟩ := hrel
      clear start
      by_cases hlt : i < n
      case neg =>
        have hie : i = n := by omega
        subst hie
        clear hlt hi
        have HF := Lib.hid (H5.out _ HL.out.1)
        clear HL
        go_wp2
        go_ret
        exact ⟨rfl, HB.out _ _ HF.out⟩
      case pos =>
        obtain ⟨g, cur, rfl, hg, hk, hsz⟩ := HL.out.2 (by omega)
        have hlti : (i : Int) < n := by omega
        have f0 := hk.frozen (i * 3)
        have f1 := hk.frozen (i * 3 + 1)
        have f2 := hk.frozen (i * 3 + 2)
        have gl := hk.lt
        have k0 : wr.cell? ⟨g, i * 3, none⟩ = some cur[i * 3] := (hk.cell _).trans (Array.getElem?_eq_getElem (by omega))
        have k1 : wr.cell? ⟨g, i * 3 + 1, none⟩ = some cur[i * 3 + 1] := (hk.cell _).trans (Array.getElem?_eq_getElem (by omega))
        have k2 : wr.cell? ⟨g, i * 3 + 2, none⟩ = some cur[i * 3 + 2] := (hk.cell _).trans (Array.getElem?_eq_getElem (by omega))
        generalize cur[i * 3] = z0 at *
        generalize cur[i * 3 + 1] = z1 at *
        generalize cur[i * 3 + 2] = z2 at *
        have HN : Hid (Below W.heap.size w4 (((wr.setCell ⟨g, i * 3, none⟩ (.int .i64 77)).setCell ⟨g, i * 3 + 1, none⟩ (.string ⟨#[]⟩)).setCell ⟨g, i * 3 + 2, none⟩ (.string ⟨#[]⟩)) ∧ (0 < n → ∃ g' cur', (some ⟨g, 0, none⟩ : Option Addr) = some ⟨g', 0, none⟩ ∧ W.heap.size ≤ g' ∧ Blk (((wr.setCell ⟨g, i * 3, none⟩ (.int .i64 77)).setCell ⟨g, i * 3 + 1, none⟩ (.string ⟨#[]⟩)).setCell ⟨g, i * 3 + 2, none⟩ (.string ⟨#[]⟩)) g' 31 cur' ∧ n * 3 ≤ cur'.size)) := by
          have b1 := hk.set_ (i * 3) (.int .i64 77)
          have b2 := b1.set_ (i * 3 + 1) (.string ⟨#[]⟩)
          have b3 := b2.set_ (i * 3 + 2) (.string ⟨#[]⟩)
          refine Lib.hid ⟨?_, fun _ => ⟨g, _, rfl, hg, b3, by simpa using hsz⟩⟩
          exact HL.out.1.trans ((((TS.refl (fun k => W.heap.size ≤ k) anyO wr).set hk hg trivial _ _).set b1 hg trivial _ _).set b2 hg trivial _ _ |>.below (Nat.le_trans (Nat.le_of_lt (Nat.lt_of_le_of_lt hg gl)) (Nat.le_refl _)) fun _ h => h)
        clear HL hk
        go_wp2
        go_roundw
        case rel => exact ⟨i + 1, hlt, by go_num, HN⟩
        case measure => first | (simp [intOf]; done) | (simp [intOf]; omega)
end Go.Proofs.YtkghdieakpipkaaGreatDoor

/-
  Slices of events and of deeds that came in, and an event, opened (the seat of stage 10).
-/
import Derived.Test.YtkghdieakpipkaaGreatDoorAnU39
import Derived.Test.YtkghdieakpipkaaGreatDoorAnU38
namespace Go.Proofs.YtkghdieakpipkaaGreatDoor
open Go.RowKit Go.ChangeShapes Go.WideShapes Go.Deep
set_option maxRecDepth 100000

/-! A slice of events that came in. -/
def dE {H : Type} (x : Ev) : DataW H := .agg [.lit (.int .i64 x.k), .lit (.string x.t.data.toList), .lit (.string x.v.data.toList)]

theorem event_one {H : Type} {enc : TypeId × Value → H} {w : World} {base : Nat} {spare : Nat → Bool} {held : Bool} {n : Nat} {cs : List Value} {x : DataW H × List MemPlace}
    (h : DataW.trod enc Tryz.prog w base spare held n 31 cs = some x) : ∃ d : Ev, cs = [.int .i64 d.k, .string d.t, .string d.v] ∧ x.1 = dE d ∧ (Lit.int .i64 d.k).wf = true := by
  obtain ⟨ys, m, _, hy, hl, hyl, hf⟩ := DataW.trod_struct Tryz.underlying31 h
  have hC : Tryz.prog.cellsOf 31 = 3 := by kernel_rfl
  have hi : Tryz.prog.cellsOf 3 = 1 := by kernel_rfl
  have hs : Tryz.prog.cellsOf 9 = 1 := by kernel_rfl
  rw [hC] at hl
  match cs, hl with
  | [c0, c1, c2], _ =>
    match ys, hyl with
    | [y0, y1, y2], _ =>
      have f0 := hf 0 _ rfl
      have f1 := hf 1 _ rfl
      have f2 := hf 2 _ rfl
      simp [hi, hs] at f0 f1 f2
      obtain ⟨a, ha, rfl, hw⟩ := DataW.trod_int Tryz.underlying3 f0
      obtain ⟨b, hb, rfl, _⟩ := DataW.trod_string Tryz.underlying9 f1
      obtain ⟨c, hc, rfl, _⟩ := DataW.trod_string Tryz.underlying9 f2
      cases ha
      cases hb
      cases hc
      exact ⟨⟨a, b, c⟩, rfl, by rw [hy]; rfl, hw⟩

theorem addr_addN (b o n : Nat) : (⟨b, o, none⟩ : Addr).add n = ⟨b, o + n, none⟩ := by unfold Addr.add; split <;> simp_all
instance : Inhabited Ev := ⟨⟨0, ⟨#[]⟩, ⟨#[]⟩⟩⟩

theorem open_events {H : Type} {enc : TypeId × Value → H} {w : World} {base : Nat} {spare : Nat → Bool} {held : Bool} {n : Nat} {v : Value} {x : DataW H × List MemPlace}
    (h : DataW.trod enc Tryz.prog w base spare held n 37 [v] = some x) :
    ∃ (xs : List Ev), ERead w v xs ∧ (∀ d ∈ xs, (Lit.int .i64 d.k).wf = true) ∧ (xs = [] ∨ ∃ rest, x.1 = .slice (xs.map dE) rest) := by
  have hC : Tryz.prog.cellsOf 31 = 3 := by kernel_rfl
  rcases open_slice Tryz.underlying37 h with ⟨hcs, _⟩ | ⟨a, len, cap, m, k, D, Pl, hcs, hb, hl, hm, hmm, hx, hi⟩
  · cases hcs
    exact ⟨[], ⟨none, 0, rfl, Nat.le_refl _, Nat.zero_le _, fun h => absurd h (by simp)⟩, fun d hd => (by cases hd), .inl rfl⟩
  · cases hcs
    have hlm : len ≤ m := by rw [hmm]; split <;> omega
    obtain ⟨V, hV⟩ := choose_lt (α := Ev) (n := m) (p := fun i d => D i = dE d ∧ (Lit.int .i64 d.k).wf = true ∧ ∀ j u, [Value.int .i64 d.k, .string d.t, .string d.v][j]? = some u → w.cell? ((a.add (i * 3)).add j) = some u) (fun i him => by
      obtain ⟨cs', h1, h2⟩ := hi i him
      rw [hC] at h1
      obtain ⟨_, hlen, hc⟩ := World.cells?_some h1
      obtain ⟨d, rfl, hd, hw⟩ := event_one h2
      refine ⟨d, hd, hw, fun j u hu => ?_⟩
      have hj : j < 3 := by
        have := (List.getElem?_eq_some_iff.1 hu).1
        simpa using this
      rw [hc j hj, hu])
    refine ⟨(List.range len).map V, ⟨some a, cap, by simp, by simpa using hl, hm, fun hp => ?_⟩, fun d hd => ?_, .inr ⟨(List.range (m - len)).map fun j => D (len + j), ?_⟩⟩
    · have h0 : 0 < len := by simpa using hp
      have hs := World.cell?_spot ((hV 0 (by omega)).2.2 0 _ rfl)
      obtain ⟨b, o, sp⟩ := a
      obtain rfl : sp = none := by simpa [Addr.add] using hs
      refine ⟨b, o, rfl, fun j hj => ?_⟩
      have hj' : j < len := by simpa using hj
      have hc := (hV j (by omega)).2.2
      simp only [addr_addN] at hc
      simp only [List.getElem_map, List.getElem_range]
      exact ⟨hc 0 _ rfl, hc 1 _ rfl, hc 2 _ rfl⟩
    · obtain ⟨i, hi', rfl⟩ := List.mem_map.1 hd
      exact (hV i (by have := List.mem_range.1 hi'; omega)).2.1
    · rw [hx, List.map_map]
      simp only
      congr 1
      refine List.map_congr_left fun i hi' => ?_
      exact (hV i (by have := List.mem_range.1 hi'; omega)).1

/-! The sizes, out of the form's own reach. -/
theorem weightsAll_mem {H : Type} {P : Program} {e : TypeId} : ∀ {l : List (DataW H)} {d : DataW H}, d ∈ l → ∀ n ∈ d.weights P e, n ∈ DataW.weightsAll P e l
  | x :: r, d, hd, n, hn => by
    simp only [DataW.weightsAll, List.mem_append]
    rcases List.mem_cons.1 hd with rfl | h
    · exact Or.inl hn
    · exact Or.inr (weightsAll_mem h n hn)
theorem sized_events {H : Type} {ts : List TypeId} {ds : List (DataW H)} (h : (DataW.weightsEach Tryz.prog ts ds).all (· ≤ reachBytes) = true) {j : Nat} {xs : List Ev} {rest : List (DataW H)}
    (ht : ts[j]? = some 37) (hd : ds[j]? = some (.slice (xs.map dE) rest)) : xs.length ≤ 4611686018427387904 ∧ ∀ x ∈ xs, x.t.size ≤ 140737488355328 ∧ x.v.size ≤ 140737488355328 := by
  have hb : Tryz.prog.bytesOf 31 = 40 := by kernel_rfl
  constructor
  · have := sized_slice h ht hd Tryz.underlying37
    rw [hb, List.length_map] at this
    simp only [reachBytes] at this
    omega
  · intro x hx
    have hmem : ∀ n, n ∈ (dE x : DataW H).weights Tryz.prog 31 → n ≤ reachBytes := by
      intro n hn
      refine of_decide_eq_true (List.all_eq_true.1 h _ (DataW.weights_mem_each ht hd _ ?_))
      simp only [DataW.weights, Tryz.underlying37, List.mem_cons, List.mem_append]
      exact Or.inr (Or.inl (weightsAll_mem (List.mem_map.2 ⟨x, hx, rfl⟩) n hn))
    have hw : (dE x : DataW H).weights Tryz.prog 31 = [x.t.data.toList.length, x.v.data.toList.length] := by
      simp [dE, DataW.weights, DataW.weightsEach, Tryz.underlying31]
    rw [hw] at hmem
    have h1 := hmem x.t.data.toList.length (by simp)
    have h2 := hmem x.v.data.toList.length (by simp)
    simp [reachBytes] at h1 h2
    exact ⟨by omega, by omega⟩
theorem okE_of {x : Ev} (hw : (Lit.int .i64 x.k).wf = true) (h : x.t.size ≤ 140737488355328 ∧ x.v.size ≤ 140737488355328) : okE x := by
  simp [Lit.wf, IntKind.min, IntKind.max, IntKind.signed, IntKind.bits] at hw
  exact ⟨by omega, by omega, h.1, h.2⟩

/-! A slice of deeds that came in. -/
structure Dk where
  k : Int
  nm : ByteArray
  x : Ev
instance : Inhabited Dk := ⟨⟨0, ⟨#[]⟩, ⟨0, ⟨#[]⟩, ⟨#[]⟩⟩⟩⟩
def dK {H : Type} (d : Dk) : DataW H := .agg [.lit (.int .i64 d.k), .lit (.string d.nm.data.toList), dE d.x]
def kcs (d : Dk) : List Value := [.int .i64 d.k, .string d.nm, .int .i64 d.x.k, .string d.x.t, .string d.x.v]
def KRead (w : World) (v : Value) (xs : List Dk) : Prop :=
  ∃ A c, v = .slice A xs.length c ∧ xs.length ≤ c ∧ (0 < xs.length → ∃ b o : Nat, A = some ⟨b, o, none⟩ ∧ ∀ j (h : j < xs.length), ∀ i u, (kcs xs[j])[i]? = some u → w.cell? ⟨b, o + j * 5 + i, none⟩ = some u)
theorem kdeed_one {H : Type} {enc : TypeId × Value → H} {w : World} {base : Nat} {spare : Nat → Bool} {held : Bool} {n : Nat} {cs : List Value} {x : DataW H × List MemPlace}
    (h : DataW.trod enc Tryz.prog w base spare held n 33 cs = some x) : ∃ d : Dk, cs = kcs d ∧ x.1 = dK d ∧ (Lit.int .i64 d.k).wf = true ∧ (Lit.int .i64 d.x.k).wf = true := by
  obtain ⟨ys, m, _, hy, hl, hyl, hf⟩ := DataW.trod_struct Tryz.underlying33 h
  have hC : Tryz.prog.cellsOf 33 = 5 := by kernel_rfl
  have hi : Tryz.prog.cellsOf 3 = 1 := by kernel_rfl
  have hs : Tryz.prog.cellsOf 9 = 1 := by kernel_rfl
  have he : Tryz.prog.cellsOf 31 = 3 := by kernel_rfl
  rw [hC] at hl
  match cs, hl with
  | [c0, c1, c2, c3, c4], _ =>
    match ys, hyl with
    | [y0, y1, y2], _ =>
      have f0 := hf 0 _ rfl
      have f1 := hf 1 _ rfl
      have f2 := hf 2 _ rfl
      simp [hi, hs, he] at f0 f1 f2
      obtain ⟨a, ha, rfl, hw⟩ := DataW.trod_int Tryz.underlying3 f0
      obtain ⟨b, hb, rfl, _⟩ := DataW.trod_string Tryz.underlying9 f1
      obtain ⟨d, hd, hd2, hw2⟩ := event_one f2
      cases ha
      cases hb
      simp at hd
      obtain ⟨rfl, rfl, rfl⟩ := hd
      exact ⟨⟨a, b, d⟩, rfl, by rw [hy]; simp [dK, hd2], hw, hw2⟩
theorem open_kdeeds {H : Type} {enc : TypeId × Value → H} {w : World} {base : Nat} {spare : Nat → Bool} {held : Bool} {n : Nat} {v : Value} {x : DataW H × List MemPlace}
    (h : DataW.trod enc Tryz.prog w base spare held n 22 [v] = some x) :
    ∃ (xs : List Dk), KRead w v xs ∧ (∀ d ∈ xs, (Lit.int .i64 d.k).wf = true ∧ (Lit.int .i64 d.x.k).wf = true) ∧ (xs = [] ∨ ∃ rest, x.1 = .slice (xs.map dK) rest) := by
  have hC : Tryz.prog.cellsOf 33 = 5 := by kernel_rfl
  rcases open_slice Tryz.underlying22 h with ⟨hcs, _⟩ | ⟨a, len, cap, m, k, D, Pl, hcs, hb, hl, hm, hmm, hx, hi⟩
  · cases hcs
    exact ⟨[], ⟨none, 0, rfl, Nat.le_refl _, fun h => absurd h (by simp)⟩, fun d hd => (by cases hd), .inl rfl⟩
  · cases hcs
    have hlm : len ≤ m := by rw [hmm]; split <;> omega
    obtain ⟨V, hV⟩ := choose_lt (α := Dk) (n := m) (p := fun i d => D i = dK d ∧ ((Lit.int .i64 d.k).wf = true ∧ (Lit.int .i64 d.x.k).wf = true) ∧ ∀ j u, (kcs d)[j]? = some u → w.cell? ((a.add (i * 5)).add j) = some u) (fun i him => by
      obtain ⟨cs', h1, h2⟩ := hi i him
      rw [hC] at h1
      obtain ⟨_, hlen, hc⟩ := World.cells?_some h1
      obtain ⟨d, rfl, hd, hw, hw2⟩ := kdeed_one h2
      refine ⟨d, hd, ⟨hw, hw2⟩, fun j u hu => ?_⟩
      have hj : j < 5 := by
        have := (List.getElem?_eq_some_iff.1 hu).1
        simpa [kcs] using this
      rw [hc j hj, hu])
    refine ⟨(List.range len).map V, ⟨some a, cap, by simp, by simpa using hl, fun hp => ?_⟩, fun d hd => ?_, .inr ⟨(List.range (m - len)).map fun j => D (len + j), ?_⟩⟩
    · have h0 : 0 < len := by simpa using hp
      have hs := World.cell?_spot ((hV 0 (by omega)).2.2 0 _ rfl)
      obtain ⟨b, o, sp⟩ := a
      obtain rfl : sp = none := by simpa [Addr.add] using hs
      refine ⟨b, o, rfl, fun j hj i u hu => ?_⟩
      have hj' : j < len := by simpa using hj
      have hc := (hV j (by omega)).2.2
      simp only [addr_addN] at hc
      simp only [List.getElem_map, List.getElem_range] at hu
      exact hc i u hu
    · obtain ⟨i, hi', rfl⟩ := List.mem_map.1 hd
      exact (hV i (by have := List.mem_range.1 hi'; omega)).2.1
    · rw [hx, List.map_map]
      simp only
      congr 1
      refine List.map_congr_left fun i hi' => ?_
      exact (hV i (by have := List.mem_range.1 hi'; omega)).1
/-- A deed that can be read. -/
def okK (d : Dk) : Prop := (-9223372036854775808 ≤ d.k ∧ d.k ≤ 9223372036854775807) ∧ d.nm.size ≤ 140737488355328 ∧ okE d.x
theorem sized_kdeeds {H : Type} {ts : List TypeId} {ds : List (DataW H)} (h : (DataW.weightsEach Tryz.prog ts ds).all (· ≤ reachBytes) = true) {j : Nat} {xs : List Dk} {rest : List (DataW H)}
    (ht : ts[j]? = some 22) (hd : ds[j]? = some (.slice (xs.map dK) rest)) (hw : ∀ d ∈ xs, (Lit.int .i64 d.k).wf = true ∧ (Lit.int .i64 d.x.k).wf = true) : xs.length ≤ 4611686018427387904 ∧ ∀ d ∈ xs, okK d := by
  have hb : Tryz.prog.bytesOf 33 = 64 := by kernel_rfl
  constructor
  · have := sized_slice h ht hd Tryz.underlying22
    rw [hb, List.length_map] at this
    simp only [reachBytes] at this
    omega
  · intro d hd'
    have hmem : ∀ n, n ∈ (dK d : DataW H).weights Tryz.prog 33 → n ≤ reachBytes := by
      intro n hn
      refine of_decide_eq_true (List.all_eq_true.1 h _ (DataW.weights_mem_each ht hd _ ?_))
      simp only [DataW.weights, Tryz.underlying22, List.mem_cons, List.mem_append]
      exact Or.inr (Or.inl (weightsAll_mem (List.mem_map.2 ⟨d, hd', rfl⟩) n hn))
    have hw' : (dK d : DataW H).weights Tryz.prog 33 = [d.nm.data.toList.length, d.x.t.data.toList.length, d.x.v.data.toList.length] := by
      simp [dK, dE, DataW.weights, DataW.weightsEach, Tryz.underlying33, Tryz.underlying31]
    rw [hw'] at hmem
    have h0 := hmem d.nm.data.toList.length (by simp)
    have h1 := hmem d.x.t.data.toList.length (by simp)
    have h2 := hmem d.x.v.data.toList.length (by simp)
    simp [reachBytes] at h0 h1 h2
    obtain ⟨w1, w2⟩ := hw d hd'
    simp [Lit.wf, IntKind.min, IntKind.max, IntKind.signed, IntKind.bits] at w1
    exact ⟨⟨by omega, by omega⟩, by omega, okE_of w2 ⟨by omega, by omega⟩⟩
end Go.Proofs.YtkghdieakpipkaaGreatDoor

/-
  A slice of deeds that came in, opened.
-/
import Derived.Test.YtgpnhgjiglnmmaaNamesW
import Derived.Deep.Slices
import Derived.Deep.Fields
import Derived.ChangeSame
namespace Go.Proofs.Ytgpnhgjiglnmmaa
open Go.RowKit Go.Maps Go.ChangeShapes Go.WideShapes Go.Deep
set_option maxRecDepth 100000

/-- How a deed reads. -/
def dD {H : Type} (x : Dd) : DataW H := .agg [.lit (.int .i64 x.k), .lit (.string x.p.data.toList), .lit (.string x.s.data.toList)]

theorem deed_one {H : Type} {enc : TypeId × Value → H} {w : World} {base : Nat} {spare : Nat → Bool} {held : Bool} {n : Nat} {cs : List Value} {x : DataW H × List MemPlace}
    (h : DataW.trod enc Try.prog w base spare held n 38 cs = some x) : ∃ d : Dd, cs = [.int .i64 d.k, .string d.p, .string d.s] ∧ x.1 = dD d ∧ (Lit.int .i64 d.k).wf = true := by
  obtain ⟨ys, m, _, hy, hl, hyl, hf⟩ := DataW.trod_struct Try.underlying38 h
  have hC : Try.prog.cellsOf 38 = 3 := by kernel_rfl
  have hi : Try.prog.cellsOf 3 = 1 := by kernel_rfl
  have hs : Try.prog.cellsOf 9 = 1 := by kernel_rfl
  rw [hC] at hl
  match cs, hl with
  | [c0, c1, c2], _ =>
    match ys, hyl with
    | [y0, y1, y2], _ =>
      have f0 := hf 0 _ rfl
      have f1 := hf 1 _ rfl
      have f2 := hf 2 _ rfl
      simp [hi, hs] at f0 f1 f2
      obtain ⟨a, ha, rfl, hw⟩ := DataW.trod_int Try.underlying3 f0
      obtain ⟨b, hb, rfl, _⟩ := DataW.trod_string Try.underlying9 f1
      obtain ⟨c, hc, rfl, _⟩ := DataW.trod_string Try.underlying9 f2
      cases ha
      cases hb
      cases hc
      exact ⟨⟨a, b, c⟩, rfl, by rw [hy]; rfl, hw⟩

theorem addr_addN (b o n : Nat) : (⟨b, o, none⟩ : Addr).add n = ⟨b, o + n, none⟩ := by unfold Addr.add; split <;> simp_all
instance : Inhabited Dd := ⟨⟨0, ⟨#[]⟩, ⟨#[]⟩⟩⟩

theorem open_deeds {H : Type} {enc : TypeId × Value → H} {w : World} {base : Nat} {spare : Nat → Bool} {held : Bool} {n : Nat} {v : Value} {x : DataW H × List MemPlace}
    (h : DataW.trod enc Try.prog w base spare held n 29 [v] = some x) :
    ∃ (xs : List Dd), DRead w v xs ∧ (∀ d ∈ xs, (Lit.int .i64 d.k).wf = true) ∧ (xs = [] ∨ ∃ rest, x.1 = .slice (xs.map dD) rest) := by
  have hC : Try.prog.cellsOf 38 = 3 := by kernel_rfl
  rcases open_slice Try.underlying29 h with ⟨hcs, _⟩ | ⟨a, len, cap, m, k, D, Pl, hcs, hb, hl, hm, hmm, hx, hi⟩
  · cases hcs
    exact ⟨[], ⟨none, 0, rfl, fun h => absurd h (by simp)⟩, fun d hd => (by cases hd), .inl rfl⟩
  · cases hcs
    have hlm : len ≤ m := by rw [hmm]; split <;> omega
    obtain ⟨V, hV⟩ := choose_lt (α := Dd) (n := m) (p := fun i d => D i = dD d ∧ (Lit.int .i64 d.k).wf = true ∧ ∀ j u, [Value.int .i64 d.k, .string d.p, .string d.s][j]? = some u → w.cell? ((a.add (i * 3)).add j) = some u) (fun i him => by
      obtain ⟨cs', h1, h2⟩ := hi i him
      rw [hC] at h1
      obtain ⟨_, hlen, hc⟩ := World.cells?_some h1
      obtain ⟨d, rfl, hd, hw⟩ := deed_one h2
      refine ⟨d, hd, hw, fun j u hu => ?_⟩
      have hj : j < 3 := by
        have := (List.getElem?_eq_some_iff.1 hu).1
        simpa using this
      rw [hc j hj, hu])
    refine ⟨(List.range len).map V, ⟨some a, cap, by simp, fun hp => ?_⟩, fun d hd => ?_, .inr ⟨(List.range (m - len)).map fun j => D (len + j), ?_⟩⟩
    · have h0 : 0 < len := by simpa using hp
      have hs := World.cell?_spot ((hV 0 (by omega)).2.2 0 _ rfl)
      obtain ⟨b, o, sp⟩ := a
      obtain rfl : sp = none := by simpa [Addr.add] using hs
      refine ⟨b, o, rfl, fun j hj => ?_⟩
      have hj' : j < len := by simpa using hj
      have hc := (hV j (by omega)).2.2
      simp only [addr_addN] at hc
      simp only [List.getElem_map, List.getElem_range]
      exact ⟨hc 0 _ rfl, hc 1 _ rfl, hc 2 _ rfl⟩
    · obtain ⟨i, hi', rfl⟩ := List.mem_map.1 hd
      exact (hV i (by have := List.mem_range.1 hi'; omega)).2.1
    · rw [hx, List.map_map]
      simp only
      congr 1
      refine List.map_congr_left fun i hi' => ?_
      exact (hV i (by have := List.mem_range.1 hi'; omega)).1
end Go.Proofs.Ytgpnhgjiglnmmaa

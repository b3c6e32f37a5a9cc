/-
  What every row of this seat's laws shares: the variables that are listed, a world that holds them, what the walks lean on out of them; a slice of events that came in, opened.
-/
import Derived.Test.YtmnijjbhkbdojaaGreatDoorRows
import Derived.Test.YtmnijjbhkbdojaaGreatDoorCards
import Derived.Test.YtmnijjbhkbdojaaGreatDoorTie
import Derived.Test.YtmnijjbhkbdojaaGreatDoorEvK
import Derived.Deep.Slices
import Derived.Deep.Fields
import Derived.ChangeSame
import Derived.SizedLaws
import Derived.ProofKit
import Derived.OpenShut
import Derived.ShutString
import Derived.Deep.DeepHandedRow
import Derived.Lib.LaidTab
import Derived.Lay
import Derived.Stop.LaidErr
import Derived.SevenTiedAt
namespace Go.Proofs.YtmnijjbhkbdojaaGreatDoor
open Go.RowKit Go.ChangeShapes Go.WideShapes Go.Deep
set_option maxRecDepth 100000

theorem own : ownKnob Tryz.prog.godebug = none := by kernel_rfl
theorem laidOut : laidOutB Tryz.prog = true := by kernel_rfl
def laidL : List (String × DataW Unit) := Rows.eventsStepsRow.laid
theorem laidL_eq : laidL = [("math/bits.deBruijn32tab", Rows.laid_math_bits_deBruijn32tab), ("math/bits.deBruijn64tab", Rows.laid_math_bits_deBruijn64tab), ("internal/strconv.uint64pow10", Rows.laid_internal_strconv_uint64pow10), ("unicode/utf8.acceptRanges", Rows.laid_unicode_utf8_acceptRanges), ("strconv.ErrRange", Rows.laid_strconv_ErrRange), ("strconv.ErrSyntax", Rows.laid_strconv_ErrSyntax), ("unicode/utf8.first", Rows.laid_unicode_utf8_first)] := rfl

theorem laid_met (os : Os) (args : Array Value) : laidMetH Tryz.prog laidL ((World.laidAll Tryz.prog os laidL).forCall (fun _ _ => 0) ⟨#[], args, []⟩).memory := by
  rw [MakeChecks.laidMetH_plain _ _ _ (by kernel_rfl)]
  exact laidMet_laidAll _ (by kernel_rfl) (by kernel_rfl)
theorem shaped (os : Os) (args : Array Value) : ((World.laidAll Tryz.prog os laidL).forCall (fun _ _ => 0) ⟨#[], args, []⟩).Shaped Tryz.prog :=
  World.shaped_of_ZipB (by kernel_rfl) (by kernel_rfl)

theorem pow_data : (Rows.laid_internal_strconv_uint64pow10 : DataW Unit) = Lib.tabData .u64 Lib.pow10Tab := by kernel_rfl
theorem tPow : (Tryz.prog.globals[5]?).map (·.type) = some 143 := by kernel_rfl
theorem tRange : (Tryz.prog.globals[2]?).map (·.type) = some 109 := by kernel_rfl
theorem star : "*" ++ "errors.errorString" = "*errors.errorString" := by decide
theorem row_err (u : TypeId) (h : Tryz.prog.typeName? 3 u = some "*errors.errorString") : u = 147 :=
  typeName_ptr_named (nm := "errors.errorString") (by rw [star]; kernel_rfl) (by kernel_rfl) (by decide) u (by rw [star]; exact h)
theorem std_of {W : World} (hL : laidMetH Tryz.prog laidL W) (hsh : W.ShapedOpen Tryz.prog) : Nm.StdW W := by
  rw [MakeChecks.laidMetH_plain _ _ _ (by kernel_rfl), laidL_eq] at hL
  refine ⟨Tryz.laysM145.s1_3 W hsh, ?_, ?_⟩
  · have h5 := hL.tail.tail.tail.tail
    unfold Rows.laid_strconv_ErrRange at h5
    obtain ⟨a, s, h, _⟩ := laid_sentinel h5 Nm.gRange tRange Tryz.underlying109 row_err Tryz.underlying147 Tryz.underlying149 rfl rfl Tryz.underlying9 (by kernel_rfl) (by kernel_rfl)
    exact ⟨_, _, h⟩
  · have h3 := hL.tail.tail
    rw [pow_data] at h3
    exact Lib.tabIs_of_head Nm.gPow tPow Tryz.underlying143 Tryz.underlying120 (by kernel_rfl) (by kernel_rfl) h3

/-! A slice of events that came in. -/
def dE {H : Type} (x : Ev) : DataW H := .agg [.lit (.int .i64 x.k), .lit (.string x.t.data.toList), .lit (.string x.v.data.toList)]

theorem event_one {H : Type} {enc : TypeId × Value → H} {w : World} {base : Nat} {spare : Nat → Bool} {held : Bool} {n : Nat} {cs : List Value} {x : DataW H × List MemPlace}
    (h : DataW.trod enc Tryz.prog w base spare held n 28 cs = some x) : ∃ d : Ev, cs = [.int .i64 d.k, .string d.t, .string d.v] ∧ x.1 = dE d ∧ (Lit.int .i64 d.k).wf = true := by
  obtain ⟨ys, m, _, hy, hl, hyl, hf⟩ := DataW.trod_struct Tryz.underlying28 h
  have hC : Tryz.prog.cellsOf 28 = 3 := by kernel_rfl
  have hi : Tryz.prog.cellsOf 3 = 1 := by kernel_rfl
  have hs : Tryz.prog.cellsOf 9 = 1 := by kernel_rfl
  rw [hC] at hl
  match cs, hl with
  | [c0, c1, c2], _ =>
    match ys, hyl with
    | [y0, y1, y2], _ =>
      have f0 := hf 0 _ rfl
      have f1 := hf 1 _ rfl
      have f2 := hf 2 _ rfl
      simp [hi, hs] at f0 f1 f2
      obtain ⟨a, ha, rfl, hw⟩ := DataW.trod_int Tryz.underlying3 f0
      obtain ⟨b, hb, rfl, _⟩ := DataW.trod_string Tryz.underlying9 f1
      obtain ⟨c, hc, rfl, _⟩ := DataW.trod_string Tryz.underlying9 f2
      cases ha
      cases hb
      cases hc
      exact ⟨⟨a, b, c⟩, rfl, by rw [hy]; rfl, hw⟩

theorem addr_addN (b o n : Nat) : (⟨b, o, none⟩ : Addr).add n = ⟨b, o + n, none⟩ := by unfold Addr.add; split <;> simp_all
instance : Inhabited Ev := ⟨⟨0, ⟨#[]⟩, ⟨#[]⟩⟩⟩

theorem open_events {H : Type} {enc : TypeId × Value → H} {w : World} {base : Nat} {spare : Nat → Bool} {held : Bool} {n : Nat} {v : Value} {x : DataW H × List MemPlace}
    (h : DataW.trod enc Tryz.prog w base spare held n 22 [v] = some x) :
    ∃ (xs : List Ev), ERead w v xs ∧ (∀ d ∈ xs, (Lit.int .i64 d.k).wf = true) ∧ (xs = [] ∨ ∃ rest, x.1 = .slice (xs.map dE) rest) := by
  have hC : Tryz.prog.cellsOf 28 = 3 := by kernel_rfl
  rcases open_slice Tryz.underlying22 h with ⟨hcs, _⟩ | ⟨a, len, cap, m, k, D, Pl, hcs, hb, hl, hm, hmm, hx, hi⟩
  · cases hcs
    exact ⟨[], ⟨none, 0, rfl, Nat.le_refl _, Nat.zero_le _, fun h => absurd h (by simp)⟩, fun d hd => (by cases hd), .inl rfl⟩
  · cases hcs
    have hlm : len ≤ m := by rw [hmm]; split <;> omega
    obtain ⟨V, hV⟩ := choose_lt (α := Ev) (n := m) (p := fun i d => D i = dE d ∧ (Lit.int .i64 d.k).wf = true ∧ ∀ j u, [Value.int .i64 d.k, .string d.t, .string d.v][j]? = some u → w.cell? ((a.add (i * 3)).add j) = some u) (fun i him => by
      obtain ⟨cs', h1, h2⟩ := hi i him
      rw [hC] at h1
      obtain ⟨_, hlen, hc⟩ := World.cells?_some h1
      obtain ⟨d, rfl, hd, hw⟩ := event_one h2
      refine ⟨d, hd, hw, fun j u hu => ?_⟩
      have hj : j < 3 := by
        have := (List.getElem?_eq_some_iff.1 hu).1
        simpa using this
      rw [hc j hj, hu])
    refine ⟨(List.range len).map V, ⟨some a, cap, by simp, by simpa using hl, hm, fun hp => ?_⟩, fun d hd => ?_, .inr ⟨(List.range (m - len)).map fun j => D (len + j), ?_⟩⟩
    · have h0 : 0 < len := by simpa using hp
      have hs := World.cell?_spot ((hV 0 (by omega)).2.2 0 _ rfl)
      obtain ⟨b, o, sp⟩ := a
      obtain rfl : sp = none := by simpa [Addr.add] using hs
      refine ⟨b, o, rfl, fun j hj => ?_⟩
      have hj' : j < len := by simpa using hj
      have hc := (hV j (by omega)).2.2
      simp only [addr_addN] at hc
      simp only [List.getElem_map, List.getElem_range]
      exact ⟨hc 0 _ rfl, hc 1 _ rfl, hc 2 _ rfl⟩
    · obtain ⟨i, hi', rfl⟩ := List.mem_map.1 hd
      exact (hV i (by have := List.mem_range.1 hi'; omega)).2.1
    · rw [hx, List.map_map]
      simp only
      congr 1
      refine List.map_congr_left fun i hi' => ?_
      exact (hV i (by have := List.mem_range.1 hi'; omega)).1

/-! The sizes, out of the form's own reach. -/
theorem weightsAll_mem {H : Type} {P : Program} {e : TypeId} : ∀ {l : List (DataW H)} {d : DataW H}, d ∈ l → ∀ n ∈ d.weights P e, n ∈ DataW.weightsAll P e l
  | x :: r, d, hd, n, hn => by
    simp only [DataW.weightsAll, List.mem_append]
    rcases List.mem_cons.1 hd with rfl | h
    · exact Or.inl hn
    · exact Or.inr (weightsAll_mem h n hn)
theorem sized_events {H : Type} {ts : List TypeId} {ds : List (DataW H)} (h : (DataW.weightsEach Tryz.prog ts ds).all (· ≤ reachBytes) = true) {j : Nat} {xs : List Ev} {rest : List (DataW H)}
    (ht : ts[j]? = some 22) (hd : ds[j]? = some (.slice (xs.map dE) rest)) : xs.length ≤ 4611686018427387904 ∧ ∀ x ∈ xs, x.t.size ≤ 140737488355328 ∧ x.v.size ≤ 140737488355328 := by
  have hb : Tryz.prog.bytesOf 28 = 40 := by kernel_rfl
  constructor
  · have := sized_slice h ht hd Tryz.underlying22
    rw [hb, List.length_map] at this
    simp only [reachBytes] at this
    omega
  · intro x hx
    have hmem : ∀ n, n ∈ (dE x : DataW H).weights Tryz.prog 28 → n ≤ reachBytes := by
      intro n hn
      refine of_decide_eq_true (List.all_eq_true.1 h _ (DataW.weights_mem_each ht hd _ ?_))
      simp only [DataW.weights, Tryz.underlying22, List.mem_cons, List.mem_append]
      exact Or.inr (Or.inl (weightsAll_mem (List.mem_map.2 ⟨x, hx, rfl⟩) n hn))
    have hw : (dE x : DataW H).weights Tryz.prog 28 = [x.t.data.toList.length, x.v.data.toList.length] := by
      simp [dE, DataW.weights, DataW.weightsEach, Tryz.underlying28]
    rw [hw] at hmem
    have h1 := hmem x.t.data.toList.length (by simp)
    have h2 := hmem x.v.data.toList.length (by simp)
    simp [reachBytes] at h1 h2
    exact ⟨by omega, by omega⟩
theorem okE_of {x : Ev} (hw : (Lit.int .i64 x.k).wf = true) (h : x.t.size ≤ 140737488355328 ∧ x.v.size ≤ 140737488355328) : okE x := by
  simp [Lit.wf, IntKind.min, IntKind.max, IntKind.signed, IntKind.bits] at hw
  exact ⟨by omega, by omega, h.1, h.2⟩
end Go.Proofs.YtmnijjbhkbdojaaGreatDoor

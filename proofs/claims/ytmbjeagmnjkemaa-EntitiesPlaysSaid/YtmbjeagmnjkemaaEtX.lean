/-
  A slice of deeds (hexaplalaw13) that came in, opened.
-/
import Derived.Test.YtmbjeagmnjkemaaEtW
import Derived.Deep.Slices
import Derived.Deep.Fields
import Derived.ChangeSame
import Derived.SizedLaws
namespace Go.Proofs.Ytmbjeagmnjkemaa
open Go.RowKit Go.Maps Go.ChangeShapes Go.WideShapes Go.Deep
set_option maxRecDepth 100000
set_option linter.unusedVariables false
set_option linter.unusedSectionVars false
variable [Fo]

structure Dd where
  k : Int
  p : ByteArray
  s : ByteArray
def okD (x : Dd) : Prop := -9223372036854775808 ≤ x.k ∧ x.k ≤ 9223372036854775807 ∧ x.p.size ≤ 140737488355328 ∧ x.s.size ≤ 140737488355328
/-- A slice of deeds that can be read. -/
def DRead (w : World) (v : Value) (xs : List Dd) : Prop :=
  ∃ A c, v = .slice A xs.length c ∧ xs.length ≤ c ∧ (0 < xs.length → ∃ b o : Nat, A = some ⟨b, o, none⟩ ∧ ∀ j (h : j < xs.length),
    w.cell? ⟨b, o + j * 3, none⟩ = some (.int .i64 (xs[j]).k) ∧ w.cell? ⟨b, o + j * 3 + 1, none⟩ = some (.string (xs[j]).p) ∧ w.cell? ⟨b, o + j * 3 + 2, none⟩ = some (.string (xs[j]).s))

/-- How a deed reads. -/
def dD {H : Type} (x : Dd) : DataW H := .agg [.lit (.int .i64 x.k), .lit (.string x.p.data.toList), .lit (.string x.s.data.toList)]

theorem deed_one {H : Type} {enc : TypeId × Value → H} {w : World} {base : Nat} {spare : Nat → Bool} {held : Bool} {n : Nat} {cs : List Value} {x : DataW H × List MemPlace}
    (h : DataW.trod enc Try.prog w base spare held n 31 cs = some x) : ∃ d : Dd, cs = [.int .i64 d.k, .string d.p, .string d.s] ∧ x.1 = dD d ∧ (Lit.int .i64 d.k).wf = true := by
  obtain ⟨ys, m, _, hy, hl, hyl, hf⟩ := DataW.trod_struct Try.underlying31 h
  have hC : Try.prog.cellsOf 31 = 3 := by kernel_rfl
  have hi : Try.prog.cellsOf 3 = 1 := by kernel_rfl
  have hs : Try.prog.cellsOf 9 = 1 := by kernel_rfl
  rw [hC] at hl
  match cs, hl with
  | [c0, c1, c2], _ =>
    match ys, hyl with
    | [y0, y1, y2], _ =>
      have f0 := hf 0 _ rfl
      have f1 := hf 1 _ rfl
      have f2 := hf 2 _ rfl
      simp [hi, hs] at f0 f1 f2
      obtain ⟨a, ha, rfl, hw⟩ := DataW.trod_int Try.underlying3 f0
      obtain ⟨b, hb, rfl, _⟩ := DataW.trod_string Try.underlying9 f1
      obtain ⟨c, hc, rfl, _⟩ := DataW.trod_string Try.underlying9 f2
      cases ha
      cases hb
      cases hc
      exact ⟨⟨a, b, c⟩, rfl, by rw [hy]; rfl, hw⟩

theorem addr_addN (b o n : Nat) : (⟨b, o, none⟩ : Addr).add n = ⟨b, o + n, none⟩ := by unfold Addr.add; split <;> simp_all
instance : Inhabited Dd := ⟨⟨0, ⟨#[]⟩, ⟨#[]⟩⟩⟩

theorem open_deeds {H : Type} {enc : TypeId × Value → H} {w : World} {base : Nat} {spare : Nat → Bool} {held : Bool} {n : Nat} {v : Value} {x : DataW H × List MemPlace}
    (h : DataW.trod enc Try.prog w base spare held n 22 [v] = some x) :
    ∃ (xs : List Dd), DRead w v xs ∧ (∀ d ∈ xs, (Lit.int .i64 d.k).wf = true) ∧ (xs = [] ∨ ∃ rest, x.1 = .slice (xs.map dD) rest) := by
  have hC : Try.prog.cellsOf 31 = 3 := by kernel_rfl
  rcases open_slice Try.underlying22 h with ⟨hcs, _⟩ | ⟨a, len, cap, m, k, D, Pl, hcs, hb, hl, hm, hmm, hx, hi⟩
  · cases hcs
    exact ⟨[], ⟨none, 0, rfl, Nat.le_refl _, fun h => absurd h (by simp)⟩, fun d hd => (by cases hd), .inl rfl⟩
  · cases hcs
    have hlm : len ≤ m := by rw [hmm]; split <;> omega
    obtain ⟨V, hV⟩ := choose_lt (α := Dd) (n := m) (p := fun i d => D i = dD d ∧ (Lit.int .i64 d.k).wf = true ∧ ∀ j u, [Value.int .i64 d.k, .string d.p, .string d.s][j]? = some u → w.cell? ((a.add (i * 3)).add j) = some u) (fun i him => by
      obtain ⟨cs', h1, h2⟩ := hi i him
      rw [hC] at h1
      obtain ⟨_, hlen, hc⟩ := World.cells?_some h1
      obtain ⟨d, rfl, hd, hw⟩ := deed_one h2
      refine ⟨d, hd, hw, fun j u hu => ?_⟩
      have hj : j < 3 := by
        have := (List.getElem?_eq_some_iff.1 hu).1
        simpa using this
      rw [hc j hj, hu])
    refine ⟨(List.range len).map V, ⟨some a, cap, by simp, by simpa using hl, fun hp => ?_⟩, fun d hd => ?_, .inr ⟨(List.range (m - len)).map fun j => D (len + j), ?_⟩⟩
    · have h0 : 0 < len := by simpa using hp
      have hs := World.cell?_spot ((hV 0 (by omega)).2.2 0 _ rfl)
      obtain ⟨b, o, sp⟩ := a
      obtain rfl : sp = none := by simpa [Addr.add] using hs
      refine ⟨b, o, rfl, fun j hj => ?_⟩
      have hj' : j < len := by simpa using hj
      have hc := (hV j (by omega)).2.2
      simp only [addr_addN] at hc
      simp only [List.getElem_map, List.getElem_range]
      exact ⟨hc 0 _ rfl, hc 1 _ rfl, hc 2 _ rfl⟩
    · obtain ⟨i, hi', rfl⟩ := List.mem_map.1 hd
      exact (hV i (by have := List.mem_range.1 hi'; omega)).2.1
    · rw [hx, List.map_map]
      simp only
      congr 1
      refine List.map_congr_left fun i hi' => ?_
      exact (hV i (by have := List.mem_range.1 hi'; omega)).1

theorem weights_in {H : Type} {P : Program} {e : TypeId} : ∀ {l : List (DataW H)} {d : DataW H}, d ∈ l → ∀ n ∈ d.weights P e, n ∈ DataW.weightsAll P e l
  | x :: r, d, hd, n, hn => by
    simp only [DataW.weightsAll, List.mem_append]
    rcases List.mem_cons.1 hd with rfl | h
    · exact Or.inl hn
    · exact Or.inr (weights_in h n hn)
theorem sized_deeds {H : Type} {ts : List TypeId} {ds : List (DataW H)} (h : (DataW.weightsEach Try.prog ts ds).all (· ≤ reachBytes) = true) {j : Nat} {xs : List Dd} {rest : List (DataW H)}
    (ht : ts[j]? = some 22) (hd : ds[j]? = some (.slice (xs.map dD) rest)) (hw : ∀ d ∈ xs, (Lit.int .i64 d.k).wf = true) : xs.length ≤ 4611686018427387904 ∧ ∀ x ∈ xs, okD x := by
  have hb : Try.prog.bytesOf 31 = 40 := by kernel_rfl
  constructor
  · have := sized_slice h ht hd Try.underlying22
    rw [hb, List.length_map] at this
    simp only [reachBytes] at this
    omega
  · intro x hx
    have hmem : ∀ n, n ∈ (dD x : DataW H).weights Try.prog 31 → n ≤ reachBytes := by
      intro n hn
      refine of_decide_eq_true (List.all_eq_true.1 h _ (DataW.weights_mem_each ht hd _ ?_))
      simp only [DataW.weights, Try.underlying22, List.mem_cons, List.mem_append]
      exact Or.inr (Or.inl (weights_in (List.mem_map.2 ⟨x, hx, rfl⟩) n hn))
    have hw' : (dD x : DataW H).weights Try.prog 31 = [x.p.data.toList.length, x.s.data.toList.length] := by
      simp [dD, DataW.weights, DataW.weightsEach, Try.underlying31]
    rw [hw'] at hmem
    have h1 := hmem x.p.data.toList.length (by simp)
    have h2 := hmem x.s.data.toList.length (by simp)
    simp [reachBytes] at h1 h2
    have h3 := hw x hx
    simp [Lit.wf, IntKind.min, IntKind.max, IntKind.signed, IntKind.bits] at h3
    exact ⟨by omega, by omega, by omega, by omega⟩

set_option maxHeartbeats 8000000 in
theorem walk_EntitiesPlays (v : Value) (xs : List Dd) (hx : ∀ x ∈ xs, okD x) (hl : xs.length ≤ 4611686018427387904) (w : World) (hd : DRead w v xs) :
    Calls Try.prog 3 #[v] w fun e w' => e = .returned (.bool true) ∧ Below w.heap.size w w' := by
  obtain ⟨A, c, rfl, hlc, hr⟩ := hd
  obtain ⟨N, hN⟩ : ∃ N, xs.length = N := ⟨_, rfl⟩
  have HL := Lib.hid hN
  have HX := Lib.hid hx
  have HC := Lib.hid hr
  rw [hN] at hl ⊢
  clear hx hr hN hlc
  go_enter Try.func3, Try.ntmps3
  go_wp2_with (first
    | (go_at_call 7; refine (enew_any _).mono ?_; rintro x w1 ⟨e, mb, rfl, he, hm, h1, hb1⟩))
  have start : Hid (∃ L told, EAt (w1.alloc (.cells #[.slice none 0 0, .int .i64 0] 28)) e mb L told ∧ REAt (w1.alloc (.cells #[.slice none 0 0, .int .i64 0] 28)) w.heap.size w1.heap.size L told ∧ Below w.heap.size w (w1.alloc (.cells #[.slice none 0 0, .int .i64 0] 28))) :=
    Lib.hid ⟨[], 0, h1.below ((Below.refl _ _).alloc (Nat.le_refl _) _), rnewE w1 w.heap.size hb1.size, hb1.alloc hb1.size _⟩
  clear h1 hb1
  go_loopw [5] (fun i wr => ∃ k : Nat, k ≤ N ∧ i = .int .i64 k ∧ Hid (∃ L told, EAt wr e mb L told ∧ REAt wr w.heap.size w1.heap.size L told ∧ Below w.heap.size w wr)) (fun i _ => N - (intOf i).toNat)
  case atStart => exact ⟨0, Nat.zero_le _, rfl, start⟩
  case round =>
    obtain ⟨k, hk, rfl, HA⟩ := hrel
    obtain ⟨L, told, hs, hr, hb⟩ := HA.out
    clear start HA
    by_cases hgo : k < N ∧ k < 150
    case neg =>
      by_cases hlt : k < N
      case' pos => have h300 : decide ((k : Int) < 150) = false := by rw [decide_eq_false_iff_not]; omega
      all_goals
        clear hgo
        go_wp2_with (first
          | (go_at_call 13; refine (lives13_any _).mono ?_; rintro x w3 ⟨rfl, hb3⟩))
        go_ret
        exact ⟨rfl, hb.trans (hb3.mono hb.size)⟩
    case pos =>
      obtain ⟨hlt, h300⟩ := hgo
      have hkl : k < xs.length := by rw [HL.out]; exact hlt
      obtain ⟨b, o, rfl, hc⟩ := HC.out (by omega)
      obtain ⟨g0, g1, g2⟩ := hc k hkl
      have hok := HX.out _ (List.getElem_mem hkl)
      have k0 := (hb.cell (cell_lt g0)).trans g0
      have k1 := (hb.cell (cell_lt g1)).trans g1
      have k2 := (hb.cell (cell_lt g2)).trans g2
      clear g0 g1 g2 hc
      generalize xs[k] = d at *
      obtain ⟨q1, q2, q3, q4⟩ := hok
      have HB := Lib.hid hb
      clear hb hkl
      go_wp2_with (first
        | (go_at_call 9; refine (few13_any d.k d.p d.s _ q4).mono ?_; rintro x w2 ⟨rfl, hb2⟩; have hs2 := hs.below hb2; have hr2 := hr.below hb2)
        | (go_at_call 8; refine (does13_any _ w.heap.size e mb w1.heap.size L told d.k d.p (cut400 d.s) hs2 hr2 he hm q1 q2 q3 (cut400_le _)).mono ?_; rintro x w3 ⟨rfl, hb3, L3, told3, hs3, hr3⟩; have HB3 := Lib.hid ((HB.out.trans (hb2.mono HB.out.size)).trans hb3); clear hb2 hs2 hr2 hb3 k0 k1 k2 hs hr HB))
      obtain ⟨n1, hn1⟩ : ∃ n1 : Nat, sizeE L3 = n1 := ⟨_, rfl⟩
      have hN : ∀ m, Below w3.heap.size w3 (w3.drewN m) := fun m => below_drewN (Below.refl _ _) m
      have HS1 : Hid (∀ m, Calls Try.prog 10 #[.pointer (some ⟨e, 0, none⟩)] (w3.drewN m) fun x w' => x = .returned (.int .i64 (n1 : Int)) ∧ ∃ m', w' = w3.drewN m') := Lib.hid (fun m => by
        have h5 := esize_any _ e mb _ _ (hs3.below (hN m))
        rw [hn1] at h5
        exact h5.mono fun x w' h => ⟨h.1, m, h.2.symm⟩)
      have HS2 : Hid (∀ m, Calls Try.prog 11 #[.pointer (some ⟨w1.heap.size, 0, none⟩)] (w3.drewN m) fun x w' => x = .returned (.int .i64 (n1 : Int)) ∧ ∃ m', w' = w3.drewN m') := Lib.hid (fun m => by
        have h5 := rsizeE_any _ _ _ _ _ (hr3.below (hN m))
        rw [hn1] at h5
        exact h5.mono fun x w' h => ⟨h.1, by obtain ⟨m', hm'⟩ := h.2; exact ⟨m + m', by rw [hm']; exact drewN_twoE _ _ _⟩⟩)
      have HS3 : Hid (∀ m, Calls Try.prog 12 #[.pointer (some ⟨e, 0, none⟩)] (w3.drewN m) fun x w' => x = .returned (.int .i64 (told3 : Int)) ∧ ∃ m', w' = w3.drewN m') := Lib.hid (fun m => by
        have h5 := etold_any _ e mb _ _ (hs3.below (hN m))
        exact h5.mono fun x w' h => ⟨h.1, m, h.2.symm⟩)
      have t1 : w3.cell? ⟨w1.heap.size, 1, none⟩ = some (.int .i64 told3) := by
        obtain ⟨A3, c3, hq⟩ := hr3
        exact hq.blk.cell 1
      have HQ2 : Hid (∀ m, ∃ L told, EAt (w3.drewN m) e mb L told ∧ REAt (w3.drewN m) w.heap.size w1.heap.size L told ∧ Below w.heap.size w (w3.drewN m)) := Lib.hid (fun m => ⟨_, _, hs3.below (hN m), hr3.below (hN m), below_drewN HB3.out m⟩)
      have hlt3 := hr3.lt
      clear hn1 hN hs3 hr3
      go_quiet (first | exact HS1.out _ | exact HS2.out _ | exact HS3.out _)
      have HQ3 := Lib.hid (HQ2.out nq)
      clear HQ2 HS1 HS2 HS3 t1
      go_wp2
      go_roundw
      case rel => exact ⟨k + 1, hlt, by go_num, HQ3⟩
      case measure => first | (simp [intOf]; done) | (simp [intOf]; omega)
end Go.Proofs.Ytmbjeagmnjkemaa

/-
  A node that came in, opened: the sizes out of the bulk (for a form with a bound).
-/
import Derived.Test.YtfilonbhcalkoaaGreatDoorTrM26
import Derived.Test.YtfilonbhcalkoaaGreatDoorRows
namespace Go.Proofs.YtfilonbhcalkoaaGreatDoor
open Go.RowKit Go.ChangeShapes Go.WideShapes Go.Deep
set_option maxRecDepth 100000

theorem bulk_part {H : Type} {d : DataW H} {l : List (DataW H)} (h : d ∈ l) : Rows.uptoBulk d ≤ Rows.uptoBulkAll l := by
  induction l with
  | nil => cases h
  | cons x r ih =>
    simp only [Rows.uptoBulkAll]
    cases List.mem_cons.1 h with
    | inl e => subst e; omega
    | inr e => have := ih e; omega

set_option maxHeartbeats 4000000 in
theorem open_nodeU {H : Type} {enc : TypeId × Value → H} {w : World} {base : Nat} {spare : Nat → Bool} {held : Bool} : ∀ (N n : Nat) (cs : List Value) (x : DataW H × List MemPlace), SizeOf.sizeOf x.1 < N →
    DataW.trod enc Tryz.prog w base spare held n 24 cs = some x → ∃ (nd : Nd) (A : Option Addr) (c : Nat), cs = [.int .i64 nd.k, .string nd.t, .string nd.v, .slice A nd.kids.length c] ∧ NAt (fun b _ => b < w.heap.size) w nd A c ∧
      ∀ R, Rows.uptoBulk x.1 ≤ R → okW R nd
  | 0, _, _, _, h, _ => absurd h (Nat.not_lt_zero _)
  | N + 1, n, cs, x, hN, h => by
    obtain ⟨ys, m, _, hy, hl, hyl, hf⟩ := DataW.trod_struct Tryz.underlying24 h
    have hC : Tryz.prog.cellsOf 24 = 4 := by kernel_rfl
    have hi : Tryz.prog.cellsOf 3 = 1 := by kernel_rfl
    have hs : Tryz.prog.cellsOf 9 = 1 := by kernel_rfl
    have hk : Tryz.prog.cellsOf 22 = 1 := by kernel_rfl
    rw [hC] at hl
    match cs, hl with
    | [c0, c1, c2, c3], _ =>
      match ys, hyl with
      | [y0, y1, y2, y3], _ =>
        have f0 := hf 0 _ rfl
        have f1 := hf 1 _ rfl
        have f2 := hf 2 _ rfl
        have f3 := hf 3 _ rfl
        simp [hi, hs, hk] at f0 f1 f2 f3
        obtain ⟨a, ha, e0, hw⟩ := DataW.trod_int Tryz.underlying3 f0
        obtain ⟨b, hb, e1, _⟩ := DataW.trod_string Tryz.underlying9 f1
        obtain ⟨c, hc, e2, _⟩ := DataW.trod_string Tryz.underlying9 f2
        cases ha
        cases hb
        cases hc
        simp [Lit.wf, IntKind.min, IntKind.max, IntKind.signed, IntKind.bits] at hw
        have hW : ∀ R, Rows.uptoBulk x.1 ≤ R → b.size ≤ R ∧ c.size ≤ R ∧ Rows.uptoBulk y3.1 ≤ R := by
          intro R hR
          rw [hy] at hR
          simp [Rows.uptoBulk, Rows.uptoBulkAll, e0, e1, e2] at hR
          exact ⟨by omega, by omega, by omega⟩
        rcases open_slice Tryz.underlying22 f3 with ⟨hcs, hx3⟩ | ⟨ad, len, cap, mm, kk, D, Pl, hcs, hbb, hl, hm, hmm, hx, hi⟩
        · cases hcs
          exact ⟨.mk a b c [], none, 0, rfl, NAt.leaf _ _ _ _ _ _, fun R hR => by
            obtain ⟨h1, h2, _⟩ := hW R hR
            simp only [okW, okWL]
            exact ⟨⟨by omega, by omega, h1, h2⟩, trivial⟩⟩
        · cases hcs
          have hlm : len ≤ mm := by rw [hmm]; split <;> omega
          have hsz : ∀ i, i < len → SizeOf.sizeOf (D i) < N := fun i hi => by
            have h1 : D i ∈ (List.range len).map D := List.mem_map.2 ⟨i, List.mem_range.2 hi, rfl⟩
            have h2 := List.sizeOf_lt_of_mem h1
            have h3 : SizeOf.sizeOf y3.1 < SizeOf.sizeOf x.1 := by
              rw [hy]
              simp
              omega
            rw [hx] at h3
            simp at h3
            omega
          obtain ⟨V, hV⟩ := choose_lt (α := Nd × Option Addr × Nat) (n := len) (p := fun i q => (∀ j u, [Value.int .i64 q.1.k, .string q.1.t, .string q.1.v, .slice q.2.1 q.1.kids.length q.2.2][j]? = some u → w.cell? ((ad.add (i * 4)).add j) = some u) ∧ NAt (fun b _ => b < w.heap.size) w q.1 q.2.1 q.2.2 ∧ ∀ R, Rows.uptoBulk (D i) ≤ R → okW R q.1) (fun i him => by
            obtain ⟨cs', h1, h2⟩ := hi i (by omega)
            rw [hC] at h1
            obtain ⟨_, hlen, hc⟩ := World.cells?_some h1
            obtain ⟨nd, A, c', rfl, hN', hR'⟩ := open_nodeU N kk cs' (D i, Pl i) (hsz i him) h2
            refine ⟨(nd, A, c'), fun j u hu => ?_, hN', hR'⟩
            have hj : j < 4 := by
              have := (List.getElem?_eq_some_iff.1 hu).1
              simpa using this
            rw [hc j hj, hu])
          refine ⟨.mk a b c ((List.range len).map fun i => (V i).1), some ad, cap, by simp [Nd.k, Nd.t, Nd.v, Nd.kids], ?_, fun R hR => ?_⟩
          · rw [NAt.def_]
            simp only [Nd.kids, List.length_map, List.length_range]
            refine ⟨hl, hm, fun hp => ?_⟩
            have h0 := (hV 0 hp).1 0 _ rfl
            have hs' := World.cell?_spot h0
            obtain ⟨bb, oo, sp⟩ := ad
            obtain rfl : sp = none := by simpa [Addr.add] using hs'
            simp only [addr_addW] at h0
            refine ⟨bb, oo, rfl, cell_lt h0, fun j hj => ?_⟩
            simp only [List.getElem_map, List.getElem_range]
            obtain ⟨hc, hn, _⟩ := hV j hj
            simp only [addr_addW] at hc
            exact ⟨(V j).2.1, (V j).2.2, hc 0 _ rfl, hc 1 _ rfl, hc 2 _ rfl, hc 3 _ rfl, hn⟩
          · obtain ⟨h1, h2, h3⟩ := hW R hR
            simp only [okW]
            refine ⟨⟨by omega, by omega, h1, h2⟩, okWL_mem.2 fun nd hnd => ?_⟩
            obtain ⟨i, hi', rfl⟩ := List.mem_map.1 hnd
            have hi' := List.mem_range.1 hi'
            refine (hV i hi').2.2 R ?_
            have hb : Rows.uptoBulk (D i) ≤ Rows.uptoBulkAll ((List.range len).map D) := bulk_part (List.mem_map.2 ⟨i, List.mem_range.2 hi', rfl⟩)
            rw [hx] at h3
            simp only [Rows.uptoBulk] at h3
            omega
end Go.Proofs.YtfilonbhcalkoaaGreatDoor

/-
  names: Open and Close of a Scope.
-/
import Derived.Test.YtgpnhgjiglnmmaaNamesH
namespace Go.Proofs.Ytgpnhgjiglnmmaa
open Go.RowKit Go.Maps
set_option maxRecDepth 100000

theorem Try.infoBs : (Try.prog.info? 56).map (fun i => (i.zero, i.size, i.bytes)) = some (some (.map none), 1, 8) := by kernel_rfl
theorem maps_row {bs : List Nat} {b : Nat} : (b :: bs).reverse.map mV = bs.reverse.map mV ++ [mV b] := by simp

set_option maxHeartbeats 400000 in
theorem open_any (w : World) (base g : Nat) (st : St) (hs : SAt w base g st) (hn : (st.length + 1) * 8 ≤ 140737488355328) :
    Calls Try.prog 21 #[.pointer (some ⟨g, 0, none⟩)] w fun e w' => e = .returned (.tuple #[]) ∧ SAt w' base g ([] :: st) ∧ Tch base sObj w w' := by
  obtain ⟨A, cap, bs, hg, hk, ho, hm⟩ := hs
  have hlt := hk.lt
  have hc : w.cell? ⟨g, 0, none⟩ = some (.slice A bs.length cap) := hk.cell 0
  have hf := hk.frozen 0
  have hlen := hm.len
  have hmm := @run_makeMap Try.prog
  have hN := MapAt.new w
  have hbl : (bs.reverse.map mV).length = bs.length := by simp
  have hxl : (bs.reverse.map mV).length ≤ 17592186044415 := by omega
  have hbase : base ≤ (w.alloc (.map #[] 0)).heap.size := by simp; omega
  have hrn : ∀ b, (bs.reverse.map mV ++ [mV b]).length = (b :: bs).length := by intro b; simp
  have HL := Lib.hid hrn
  have HN := Lib.hid hlen
  clear hbl hlen hrn
  go_enter Try.func21, Try.ntmps21
  go_wp2_with (first
    | (at_builtin; (refine wp_app1 rfl _ _ 50 rfl base 56 (.map none) 8 Try.underlying50 Try.infoBs rfl _ _ (mV w.heap.size) rfl (by exact ORow.alloc ho _) rfl 1 (by rw [World.size_alloc]; rfl) (by simp only [maxLen]; omega) (by omega) hbase ?_; intro v1 w1 hown1 hg1 _; obtain ⟨A1, c1, rfl⟩ := row_shape hown1 (HL.out _); have hk1 : Blk w1 g 52 _ := Blk.grown (Blk.alloc hk _) hg1 (by intro e; obtain ⟨cur, hcur⟩ := row_obj ho e.symm; rw [hk] at hcur; cases hcur); have hc1 : w1.cell? ⟨g, 0, none⟩ = some (.slice A bs.length cap) := hk1.cell 0; have hf1 := hk1.frozen 0)))
  go_end0
  have ho0 : ORow (w.alloc (.map #[] 0)) base 56 _ _ := ORow.alloc ho _
  have hT : Tch base sObj w w1 := (Tch.alloc (Tch.refl _ _ _) _).trans (Tch.of_row ho0 hg1 (Nat.le_refl _) (fun _ => .inr rfl))
  have hne : ∀ g', (Value.slice A bs.length cap).ownBlock = some g' → ∃ cur, (w.alloc (.map #[] 0)).heap[g']? = some (.cells cur 56 (0, 0)) := fun g' e => row_obj ho0 e
  have hmap : ∀ b : Nat, (∃ es c, (w.alloc (.map #[] 0)).heap[b]? = some (Obj.map es c)) → w1.heap[b]? = (w.alloc (.map #[] 0)).heap[b]? := by
    rintro b ⟨es, c, hb⟩
    refine hg1.block b (Array.getElem?_eq_some_iff.1 hb).1 ?_
    intro e
    obtain ⟨cur, hcur⟩ := hne b e.symm
    rw [hb] at hcur
    cases hcur
  have hmA : MapsAt (w.alloc (.map #[] 0)) base bs st := hm.keep fun b hb _ => Below.heap_alloc w _ b (hm.lt b hb).2
  refine ⟨rfl, ⟨_, _, w.heap.size :: bs, hg, hk1.set_ 0 _, ?_, ?_⟩, hT.set hk1 hg (.inl rfl) 0 _⟩
  · rw [maps_row]
    refine ORow.kept hown1 (only_setCell (p := ⟨g, 0, none⟩) (World.grownBy.refl _ (some g)) (.inl rfl) _) (.inr ?_)
    intro e
    obtain ⟨cur, hcur⟩ := row_obj hown1 e
    rw [hk1] at hcur
    cases hcur
  · have hfar : ∀ b : Nat, (∃ es c, w1.heap[b]? = some (Obj.map es c)) → (w1.setCell ⟨g, 0, none⟩ (.slice A1 (bs.length + 1) c1)).heap[b]? = w1.heap[b]? := by
      rintro b ⟨es, c, hb⟩
      refine Below.heap_setCell w1 ⟨g, 0, none⟩ _ b ?_
      rintro rfl
      rw [hk1] at hb
      cases hb
    refine ⟨by omega, fun hb => by have := (hm.lt _ hb).2; omega, ?_, ?_⟩
    · exact (hN.keep (hmap _ hN.obj)).keep (hfar _ (hN.keep (hmap _ hN.obj)).obj)
    · refine MapsAt.keep (MapsAt.keep hmA fun b _ h => hmap b h) fun b _ h => hfar b h

/-- The block of a row that is not empty. -/
theorem row_block {w : World} {base : Nat} {e : TypeId} {A : Option Addr} {n cap : Nat} {xs : List Value} (h : ORow w base e (.slice A n cap) xs) (hn : 0 < xs.length) : ∃ r, A = some ⟨r, 0, none⟩ ∧ base ≤ r ∧ r < w.heap.size ∧ xs.length ≤ cap ∧ cap ≤ maxLen ∧ (∀ k, w.frozen? ⟨r, k, none⟩ = false) ∧ ∃ cur, w.heap[r]? = some (.cells cur e (0, 0)) := by
  rcases h.2 with ⟨hv, h0⟩ | ⟨g, c, cur, hv, hg, hh, hnc, hm, _⟩
  · omega
  · injection hv with h1 _ h3
    subst h1 h3
    exact ⟨g, rfl, hg, Blk.lt hh, hnc, hm, fun k => Blk.frozen hh k, cur, hh⟩

set_option maxHeartbeats 400000 in
theorem close_any (w : World) (base g : Nat) (st : St) (hs : SAt w base g st) :
    Calls Try.prog 23 #[.pointer (some ⟨g, 0, none⟩)] w fun e w' => e = .returned (.int .i64 (closeE st)) ∧ SAt w' base g (closeS st) ∧ Tch base sObj w w' := by
  have hs' := hs
  obtain ⟨A, cap, bs, hg, hk, ho, hm⟩ := hs
  have hlt := hk.lt
  have hc : w.cell? ⟨g, 0, none⟩ = some (.slice A bs.length cap) := hk.cell 0
  have hf := hk.frozen 0
  match bs, st, hm with
  | [], [], _ =>
    go_enter Try.func23, Try.ntmps23
    go_wp2
    go_ret
    exact ⟨rfl, hs', Tch.refl _ _ _⟩
  | b :: bs, m :: st, hm =>
    obtain ⟨r, rfl, hr, hrl, hcap, hcm, hfr, cur, hcur⟩ := row_block ho (by simp)
    have hcl : w.cell? ⟨r, bs.length, none⟩ = some (mV b) := by
      obtain ⟨g', h1, _, _, h4⟩ := ho.cell (k := bs.length) (by simp)
      injection h1 with h1
      injection h1 with h1
      subst h1
      rw [h4]
      simp
    have hfl := hfr bs.length
    have hgr : g ≠ r := by rintro rfl; rw [hk] at hcur; cases hcur
    have hcap2 : bs.length + 1 ≤ cap := by simpa using hcap
    have hcm2 : cap ≤ 9223372036854775807 := by simpa [maxLen] using hcm
    go_enter Try.func23, Try.ntmps23
    go_wp2
    go_ret
    have ho1 : ORow (w.setCell ⟨r, bs.length, none⟩ (.map none)) base 56 (.slice (some ⟨r, 0, none⟩) bs.length cap) (bs.reverse.map mV) := by
      have h0 : w.ownsRow base 56 1 (.slice (some ⟨r, 0, none⟩) (bs.length + 1) cap) (bs.length + 1) ((b :: bs).reverse.map mV) := by
        have := ho
        unfold ORow at this
        rw [show ((b :: bs).reverse.map mV).length = bs.length + 1 by simp] at this
        exact this
      have h1 := row_pop h0 (.map none)
      unfold ORow
      rw [show (bs.reverse.map mV).length = bs.length by simp]
      rw [show ((b :: bs).reverse.map mV).take bs.length = bs.reverse.map mV by rw [maps_row, List.take_append_of_le_length (by simp), List.take_of_length_le (by simp)]] at h1
      exact h1
    have hk1 : Blk (w.setCell ⟨r, bs.length, none⟩ (.map none)) g 52 _ := hk.far (by simpa using hgr) _
    have hkr : Blk w r 56 cur := hcur
    have hT : Tch base sObj w (w.setCell ⟨r, bs.length, none⟩ (.map none)) := (Tch.refl base sObj w).set hkr hr (.inr rfl) _ _
    refine ⟨rfl, ⟨_, _, bs, hg, hk1.set_ 0 _, ?_, ?_⟩, hT.set hk1 hg (.inl rfl) 0 _⟩
    · refine ORow.kept ho1 (only_setCell (p := ⟨g, 0, none⟩) (World.grownBy.refl _ (some g)) (.inl rfl) _) (.inr ?_)
      intro e
      injection e with e
      exact hgr e.symm
    · refine hm.2.2.2.keep fun c hc hmap => ?_
      obtain ⟨es, ck, hmap⟩ := hmap
      have n1 : c ≠ r := by rintro rfl; rw [hmap] at hcur; cases hcur
      have n2 : c ≠ g := by rintro rfl; rw [hk] at hmap; cases hmap
      exact (Below.heap_setCell _ ⟨g, 0, none⟩ _ c n2).trans (Below.heap_setCell _ ⟨r, bs.length, none⟩ _ c n1)
end Go.Proofs.Ytgpnhgjiglnmmaa

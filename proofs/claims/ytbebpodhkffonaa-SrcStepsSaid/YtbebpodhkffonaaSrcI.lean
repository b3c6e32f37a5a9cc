/-
  lives: the document's examples of layer 1 come out true.
-/
import Derived.Test.YtbebpodhkffonaaSrcC
import Derived.Test.YtbebpodhkffonaaSrcE
import Derived.Test.YtbebpodhkffonaaSrcH
namespace Go.Proofs.Ytbebpodhkffonaa
open Go.RowKit
set_option maxRecDepth 100000

theorem lives_runes : runesL [195, 169] = some [233] := by decide
theorem lives_put : putS 233 = ⟨#[195, 169]⟩ := by decide
theorem lives_place : plc [97, 10, 195, 169] = (2, 2) := by decide

set_option maxHeartbeats 1000000 in
theorem lives_any (w : World) :
    Calls Try.prog 15 #[] w fun e w' => e = .returned (.bool true) ∧ Below w.heap.size w w' := by
  go_enter Try.func15, Try.ntmps15
  go_wp2_with fail
  refine (new_any _).mono ?_
  rintro e w1 ⟨rfl, hw1⟩
  have hs1 : ScanAt w1 w.heap.size 0 128 191 := by rw [hw1]; exact Blk.new w _ _
  have hb1 : Below w.heap.size w w1 := by rw [hw1]; exact (Below.refl _ _).alloc (Nat.le_refl _) _
  clear hw1
  go_wp2_with fail
  refine (step_any _ _ _ _ _ 195 hs1 (by decide) (by decide) (by decide) (by decide)).mono ?_
  rintro e w2 ⟨rfl, hg2, hs2⟩
  have hs2 : ScanAt w2 w.heap.size 1 128 191 := hs2
  have hb2 : Below w.heap.size w w2 := below_only hb1 hg2 hb1.size (Nat.le_refl _)
  clear hg2 hs1 hb1
  rw [show stOk 0 128 191 195 = true from by decide]
  go_wp2_with fail
  refine (whole_any _ _ _ _ _ hs2).mono ?_
  rintro e w' ⟨rfl, rfl⟩
  rw [show decide ((1 : Int) = 0) = false from by decide]
  go_wp2_with fail
  refine (step_any _ _ _ _ _ 169 hs2 (by decide) (by decide) (by decide) (by decide)).mono ?_
  rintro e w3 ⟨rfl, hg3, hs3⟩
  have hs3 : ScanAt w3 w.heap.size 0 128 191 := hs3
  have hb3 : Below w.heap.size w w3 := below_only hb2 hg3 hb2.size (Nat.le_refl _)
  clear hg3 hs2 hb2
  rw [show stOk 1 128 191 169 = true from by decide]
  go_wp2_with fail
  refine (runes_any ⟨#[195, 169]⟩ _ (by decide)).mono ?_
  rintro e w4 ⟨v, he, hrow, hb4⟩
  have he : e = .returned (.tuple #[v, .bool true]) := he
  have hrow : ORow w4 w3.heap.size 3 v [.int .i64 233] := hrow
  subst he
  have hs4 : ScanAt w4 w.heap.size 0 128 191 := Blk.below hs3 hb4 hs3.lt
  have hb4' : Below w.heap.size w w4 := hb3.trans (hb4.mono hb3.size)
  clear hb4 hs3 hb3
  go_wp2_with fail
  refine (put_any 233 _).mono ?_
  rintro e w5 ⟨rfl, hb5⟩
  rw [lives_put, show mayB 233 = true from by decide]
  have hrow5 := hrow.below hb5 (fun g hg => (World.ownsRow.lt hrow g hg).2)
  have hs5 : ScanAt w5 w.heap.size 0 128 191 := Blk.below hs4 hb5 hs4.lt
  have hb5' : Below w.heap.size w w5 := hb4'.trans (hb5.mono hb4'.size)
  clear hb5 hb4' hs4 hrow
  go_wp2_with fail
  refine (place_any ⟨#[97, 10, 195, 169, 98]⟩ 4 _ (by decide) (by decide)).mono ?_
  rintro e w' ⟨rfl, rfl⟩
  rw [show plc (List.take 4 (ByteArray.mk #[97, 10, 195, 169, 98]).data.toList) = (2, 2) from by decide]
  obtain ⟨A, cap, rfl⟩ := hrow5.shape
  obtain ⟨g, rfl, _, _, hcell⟩ := hrow5.cell (k := 0) (by decide)
  have hcell : w5.cell? ⟨g, 0, none⟩ = some (.int .i64 233) := hcell
  go_wp2_with fail
  refine (whole_any _ _ _ _ _ hs5).mono ?_
  rintro e w' ⟨rfl, rfl⟩
  rw [show decide ((0 : Int) = 0) = true from by decide]
  go_wp2
  go_ret
  exact ⟨rfl, hb5'⟩
end Go.Proofs.Ytbebpodhkffonaa

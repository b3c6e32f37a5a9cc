/-
  The walk of TreeOwns.
-/
import Derived.Test.YtfilonbhcalkoaaGreatDoorTrSpq
import Derived.Test.YtfilonbhcalkoaaGreatDoorTrZq
namespace Go.Proofs.YtfilonbhcalkoaaGreatDoor
open Go.RowKit Go.Maps
set_option maxRecDepth 100000
set_option linter.unusedSimpArgs false

theorem NAt.spt {S : Nat → Nat → Prop} {w w' : World} {lo hi : Nat} {n : Nd} {A : Option Addr} {c : Nat} (h : NAt S w n A c) (hs : Spt lo hi w w') (hS : ∀ b o, S b o → ¬ (lo ≤ b ∧ b < hi)) : NAt S w' n A c :=
  h.keep fun b o hb hc => ⟨cells_same (hs.out b (cell_lt' hc) (hS b o hb)), hb⟩
theorem spt_blk {w w' : World} {lo hi g : Nat} {t : TypeId} {cs : Array Value} (h : Blk w g t cs) (hs : Spt lo hi w w') (hg : ¬ (lo ≤ g ∧ g < hi)) : Blk w' g t cs := (hs.out g h.lt hg).trans h

set_option maxHeartbeats 16000000 in
theorem walk_TreeOwns (n : Nd) (A : Option Addr) (c : Nat) (ho : okW 140737488355328 n) (v : Value) (place : List Int) (hpl : place.length ≤ 140737488355328) (w : World) (hw : Nm.StdW w) (hA : NAt (fun b _ => b < w.heap.size) w n A c) (hp : IRead w v place) :
    Calls Tryz.prog 9 #[.agg #[.int .i64 n.k, .string n.t, .string n.v, .slice A n.kids.length c], v] w fun e w' => e = .returned (.bool true) ∧ Below w.heap.size w w' := by
  have bX := new_node w #[.int .i64 n.k, .string n.t, .string n.v, .slice A n.kids.length c]
  have al1 := al_node w #[.int .i64 n.k, .string n.t, .string n.v, .slice A n.kids.length c]
  have hL := fun w' h => tlives_any w' h
  obtain ⟨W0, hW0⟩ : ∃ W0, w.alloc (.cells #[.int .i64 n.k, .string n.t, .string n.v, .slice A n.kids.length c] 24) = W0 := ⟨_, rfl⟩
  rw [hW0] at bX al1
  have HX := Lib.hid bX
  have HB := Lib.hid al1
  have HA0 := Lib.hid hA
  have HP := Lib.hid hp
  have hlt0 := bX.lt
  obtain ⟨x0, x1, x2, x3⟩ := box_cells bX
  have HF := Lib.hid (few_any n _ A c W0 (NAt.up hA al1))
  have HK := Lib.hid (few_ok ho (by omega))
  clear bX al1 hA hp
  go_enter Tryz.func9, Tryz.ntmps9
  go_wp2_with fail
  clear hW0
  refine HF.out.mono ?_
  rintro e w1 ⟨rfl, hb1⟩
  generalize decide (0 ≤ fewN n 300 20) = f1 at *
  have HX1 := Lib.hid (HX.out.below hb1 HX.out.lt)
  have HB1 := Lib.hid (HB.out.trans (hb1.mono HB.out.size))
  have hs1 := HB1.out.size
  have hg1 := HX1.out.lt
  clear hb1 HX HB HF x0 x1 x2 x3 hlt0
  cases f1 with
  | false =>
    clear HK
    go_wp2_with fail
    refine (hL _ (hw.below HB1.out)).mono ?_
    rintro e w3 ⟨rfl, hb3⟩
    have HB3 := Lib.hid (HB1.out.trans (hb3.mono hs1))
    clear hb3
    go_wp2
    go_ret
    exact ⟨rfl, HB3.out⟩
  | true =>
    obtain ⟨hok, hsz, hvl⟩ := HK.out rfl
    clear HK hsz hvl
    have HOK := Lib.hid hok
    obtain ⟨x0, x1, x2, x3⟩ := box_cells HX1.out
    have hC := tcopy_any n _ A c w1 hok (HA0.out.below HB1.out)
    unfold CPost at hC
    have HC := Lib.hid hC
    clear hok hC
    go_wp2_with fail
    refine HC.out.mono ?_
    rintro e w2 ⟨A1, c1, rfl, hN1, hb2⟩
    have hsp := SpD.of_node n (sizeN n) A1 c1 (Nat.le_refl _) hN1
    have hwa := hb2.size
    have bA := new_node w2 #[.int .i64 n.k, .string n.t, .string n.v, .slice A1 n.kids.length c1]
    have alA := al_node w2 #[.int .i64 n.k, .string n.t, .string n.v, .slice A1 n.kids.length c1]
    have HXn := Lib.hid ((HX1.out.below hb2 HX1.out.lt).alloc (.cells #[.int .i64 n.k, .string n.t, .string n.v, .slice A1 n.kids.length c1] 24))
    have HB2 := Lib.hid ((HB1.out.trans (hb2.mono hs1)).trans (alA.mono (Nat.le_trans hs1 hwa)))
    have HSP := Lib.hid (hsp.spt (Spt.of_below alA hwa))
    have HN1 := Lib.hid (hN1.lt.below alA)
    have HXa := Lib.hid bA
    obtain ⟨lo, hlo⟩ : ∃ lo, w1.heap.size = lo := ⟨_, rfl⟩
    obtain ⟨hi, hhi⟩ : ∃ hi, w2.heap.size = hi := ⟨_, rfl⟩
    obtain ⟨W2, hW2⟩ : ∃ W2, w2.alloc (.cells #[.int .i64 n.k, .string n.t, .string n.v, .slice A1 n.kids.length c1] 24) = W2 := ⟨_, rfl⟩
    have hz2 : W2.heap.size = hi + 1 := by rw [← hW2, ← hhi]; simp
    rw [hW2] at HXn HB2 HSP HN1 HXa
    rw [hhi] at HSP HXa hwa
    rw [hlo] at HSP hs1 hg1 hwa
    clear hsp hN1 hb2 bA alA HC HX1 HB1 x0 x1 x2 x3
    obtain ⟨x0, x1, x2, x3⟩ := box_cells HXn.out
    have hC := tcopy_any n _ A c W2 HOK.out (HA0.out.below HB2.out)
    unfold CPost at hC
    have HC := Lib.hid hC
    clear hC
    go_wp2_with fail
    refine HC.out.mono ?_
    rintro e w3 ⟨A2, c2, rfl, hN2, hb3⟩
    have hwb := hb3.size
    have bB := new_node w3 #[.int .i64 n.k, .string n.t, .string n.v, .slice A2 n.kids.length c2]
    have alB := al_node w3 #[.int .i64 n.k, .string n.t, .string n.v, .slice A2 n.kids.length c2]
    have h23 : Below W2.heap.size W2 (w3.alloc (.cells #[.int .i64 n.k, .string n.t, .string n.v, .slice A2 n.kids.length c2] 24)) := hb3.trans (alB.mono hwb)
    have HXn3 := Lib.hid (HXn.out.below h23 HXn.out.lt)
    have HXa3 := Lib.hid (HXa.out.below h23 HXa.out.lt)
    have HXb3 := Lib.hid bB
    have HB3 := Lib.hid (HB2.out.trans (h23.mono HB2.out.size))
    have HSP3 := Lib.hid (HSP.out.spt (Spt.of_below h23 (by omega)))
    have HN13 := Lib.hid (HN1.out.below h23)
    have HN23 := Lib.hid ((hN2.lt.below alB).weaken (S' := fun b _ => hi ≤ b ∧ b < w3.heap.size) (fun b o h => ⟨by have := h.1.1; omega, h.2⟩))
    obtain ⟨gb, hgb⟩ : ∃ gb, w3.heap.size = gb := ⟨_, rfl⟩
    obtain ⟨W3, hW3⟩ : ∃ W3, w3.alloc (.cells #[.int .i64 n.k, .string n.t, .string n.v, .slice A2 n.kids.length c2] 24) = W3 := ⟨_, rfl⟩
    have hz3 : W3.heap.size = gb + 1 := by rw [← hW3, ← hgb]; simp
    rw [hW3] at HXn3 HXa3 HXb3 HB3 HSP3 HN13 HN23
    rw [hgb] at HXb3 HN23 hwb
    rw [hz2] at hwb
    clear hN2 hb3 bB alB h23 HC HXn HXa HB2 HSP HN1 x0 x1 x2 x3 hW2
    obtain ⟨x0, x1, x2, x3⟩ := box_cells HXn3.out
    obtain ⟨a0, a1, a2, a3⟩ := box_cells HXa3.out
    have HS := Lib.hid (rsame_any n n _ _ A1 A c1 c W3 HN13.out (HA0.out.below HB3.out))
    rw [sameN_refl] at HS
    go_wp2_with fail
    refine HS.out.mono ?_
    rintro e w4 ⟨rfl, hb4⟩
    have hs4 := hb4.size
    have HXn4 := Lib.hid (HXn3.out.below hb4 HXn3.out.lt)
    have HXa4 := Lib.hid (HXa3.out.below hb4 HXa3.out.lt)
    have HXb4 := Lib.hid (HXb3.out.below hb4 HXb3.out.lt)
    have HB4 := Lib.hid (HB3.out.trans (hb4.mono HB3.out.size))
    have HSP4 := Lib.hid (HSP3.out.spt (Spt.of_below hb4 (by omega)))
    have HN24 := Lib.hid (HN23.out.below hb4)
    clear hb4 HXn3 HXa3 HXb3 HB3 HSP3 HN13 HN23 HS x0 x1 x2 x3 a0 a1 a2 a3 hW3
    rw [hz3] at hs4
    clear hz3 hz2
    obtain ⟨a0, a1, a2, a3⟩ := box_cells HXa4.out
    have HSPO := Lib.hid (spoil_any (sizeN n) n.kids.length A1 c1 n.k n.t n.v lo hi w4 (by omega) (by omega) HSP4.out)
    clear HSP4
    go_wp2_with fail
    refine HSPO.out.mono ?_
    rintro e w5 ⟨rfl, hsp5⟩
    have hs5 := hsp5.low.size
    have HXn5 := Lib.hid (spt_blk HXn4.out hsp5 (by omega))
    have HXb5 := Lib.hid (spt_blk HXb4.out hsp5 (by omega))
    have HB5 := Lib.hid (HB4.out.trans (hsp5.low.mono hs1))
    have HN25 := Lib.hid (HN24.out.spt hsp5 (fun b o h => by omega))
    clear hsp5 HSPO HXn4 HXa4 HXb4 HB4 HN24 a0 a1 a2 a3
    obtain ⟨x0, x1, x2, x3⟩ := box_cells HXn5.out
    have hT := tat_any n A c v place w5 HOK.out ((HA0.out.below HB5.out).weaken (fun b _ h => Nat.lt_of_lt_of_le h HB5.out.size)) (HP.out.belowP HB5.out) (by omega)
    unfold TPost at hT
    have HT := Lib.hid hT
    clear hT
    go_wp2_with fail
    refine HT.out.mono ?_
    clear HT
    rintro e w6 ⟨hb6, hr6⟩
    have hs6 := hb6.size
    have HXn6 := Lib.hid (HXn5.out.below hb6 HXn5.out.lt)
    have HXb6 := Lib.hid (HXb5.out.below hb6 HXb5.out.lt)
    have HB6 := Lib.hid (HB5.out.trans (hb6.mono HB5.out.size))
    have HN26 := Lib.hid (HN25.out.below hb6)
    clear hb6 HXn5 HXb5 HB5 HN25 x0 x1 x2 x3
    generalize atN n place = op at *
    cases op with
    | none =>
      obtain rfl := (show e = _ from hr6)
      have alC := al_node w6 #[.int .i64 0, .string ⟨#[]⟩, .string ⟨#[]⟩, .slice none 0 0]
      have HXn7 := Lib.hid (HXn6.out.alloc (.cells #[.int .i64 0, .string ⟨#[]⟩, .string ⟨#[]⟩, .slice none 0 0] 24))
      have HXb7 := Lib.hid (HXb6.out.alloc (.cells #[.int .i64 0, .string ⟨#[]⟩, .string ⟨#[]⟩, .slice none 0 0] 24))
      have HB7 := Lib.hid (HB6.out.trans (alC.mono HB6.out.size))
      have HN27 := Lib.hid (HN26.out.below alC)
      clear alC hr6 HXn6 HXb6 HB6 HN26
      obtain ⟨x0, x1, x2, x3⟩ := box_cells HXn7.out
      obtain ⟨y0, y1, y2, y3⟩ := box_cells HXb7.out
      have HS := Lib.hid (rsame_any n n _ _ A2 A c2 c _ HN27.out (HA0.out.below HB7.out))
      rw [sameN_refl] at HS
      have hsz9 := HB7.out.size
      go_wp2_with fail
      refine HS.out.mono ?_
      rintro e w9 ⟨rfl, hb9⟩
      have HB9 := Lib.hid (HB7.out.trans (hb9.mono hsz9))
      have hs9 := HB9.out.size
      clear hb9 HS x0 x1 x2 x3 y0 y1 y2 y3
      go_wp2_with fail
      refine (hL _ (hw.below HB9.out)).mono ?_
      rintro e w10 ⟨rfl, hb10⟩
      have HB10 := Lib.hid (HB9.out.trans (hb10.mono hs9))
      clear hb10
      go_wp2
      go_ret
      exact ⟨rfl, HB10.out⟩
    | some m =>
      obtain ⟨A5, c5, rfl, hN5⟩ := hr6
      have hsp := SpD.of_node m (sizeN m) A5 c5 (Nat.le_refl _) hN5
      have bC := new_node w6 #[.int .i64 m.k, .string m.t, .string m.v, .slice A5 m.kids.length c5]
      have alC := al_node w6 #[.int .i64 m.k, .string m.t, .string m.v, .slice A5 m.kids.length c5]
      have HXn7 := Lib.hid (HXn6.out.alloc (.cells #[.int .i64 m.k, .string m.t, .string m.v, .slice A5 m.kids.length c5] 24))
      have HXb7 := Lib.hid (HXb6.out.alloc (.cells #[.int .i64 m.k, .string m.t, .string m.v, .slice A5 m.kids.length c5] 24))
      have HB7 := Lib.hid (HB6.out.trans (alC.mono HB6.out.size))
      have HN27 := Lib.hid (HN26.out.below alC)
      have HSPO := Lib.hid (spoil_any (sizeN m) m.kids.length A5 c5 m.k m.t m.v w5.heap.size w6.heap.size _ alC.size (Nat.le_trans hs6 alC.size) (hsp.spt (Spt.of_below alC hs6)))
      obtain ⟨z0, z1, z2, z3⟩ := box_cells bC
      obtain ⟨lc, hlc⟩ : ∃ lc, w5.heap.size = lc := ⟨_, rfl⟩
      obtain ⟨hc, hhc⟩ : ∃ hc, w6.heap.size = hc := ⟨_, rfl⟩
      rw [hhc] at z0 z1 z2 z3 HSPO
      rw [hlc] at HSPO hs5
      have hwl := HB7.out.size
      clear alC bC hN5 hsp HXn6 HXb6 HB6 HN26
      go_wp2_with fail
      refine HSPO.out.mono ?_
      rintro e w8 ⟨rfl, hsp8⟩
      have HXn8 := Lib.hid (spt_blk HXn7.out hsp8 (by omega))
      have HXb8 := Lib.hid (spt_blk HXb7.out hsp8 (by omega))
      have HB8 := Lib.hid (HB7.out.trans (hsp8.low.mono (by omega)))
      have HN28 := Lib.hid (HN27.out.spt hsp8 (fun b o h => by omega))
      clear hsp8 HSPO HXn7 HXb7 HB7 HN27 z0 z1 z2 z3
      obtain ⟨x0, x1, x2, x3⟩ := box_cells HXn8.out
      obtain ⟨y0, y1, y2, y3⟩ := box_cells HXb8.out
      have HS := Lib.hid (rsame_any n n _ _ A2 A c2 c w8 HN28.out (HA0.out.below HB8.out))
      rw [sameN_refl] at HS
      have hsz9 := HB8.out.size
      go_wp2_with fail
      refine HS.out.mono ?_
      rintro e w9 ⟨rfl, hb9⟩
      have HB9 := Lib.hid (HB8.out.trans (hb9.mono hsz9))
      have hs9 := HB9.out.size
      clear hb9 HS x0 x1 x2 x3 y0 y1 y2 y3
      go_wp2_with fail
      refine (hL _ (hw.below HB9.out)).mono ?_
      rintro e w10 ⟨rfl, hb10⟩
      have HB10 := Lib.hid (HB9.out.trans (hb10.mono hs9))
      clear hb10
      go_wp2
      go_ret
      exact ⟨rfl, HB10.out⟩
end Go.Proofs.YtfilonbhcalkoaaGreatDoor

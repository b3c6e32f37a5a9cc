/-
  The walk of TreePlaces.
-/
import Derived.Test.YtfilonbhcalkoaaGreatDoorTrUq
namespace Go.Proofs.YtfilonbhcalkoaaGreatDoor
open Go.RowKit Go.Maps
set_option maxRecDepth 100000
set_option linter.unusedSimpArgs false

theorem IRead.belowP {w w' : World} {v : Value} {xs : List Int} (h : IRead w v xs) (hb : Below w.heap.size w w') : IRead w' v xs := by
  obtain ⟨A, c, rfl, hr⟩ := h
  refine ⟨A, c, rfl, fun hp => ?_⟩
  obtain ⟨ad, rfl, hc⟩ := hr hp
  exact ⟨ad, rfl, fun j hj => (hb.cell (cell_lt (hc j hj))).trans (hc j hj)⟩


set_option maxHeartbeats 16000000 in
theorem walk_TreePlaces (n : Nd) (A : Option Addr) (c : Nat) (ho : okW 140737488355328 n) (v : Value) (place : List Int) (hpl : place.length ≤ 140737488355328) (w : World) (hw : Nm.StdW w) (hA : NAt (fun b _ => b < w.heap.size) w n A c) (hp : IRead w v place) :
    Calls Tryz.prog 8 #[.agg #[.int .i64 n.k, .string n.t, .string n.v, .slice A n.kids.length c], v] w fun e w' => e = .returned (.bool true) ∧ Below w.heap.size w w' := by
  obtain ⟨PA, pc, rfl, hpr⟩ := id hp
  have bX := new_node w #[.int .i64 n.k, .string n.t, .string n.v, .slice A n.kids.length c]
  have al1 := al_node w #[.int .i64 n.k, .string n.t, .string n.v, .slice A n.kids.length c]
  have hL := fun w' h => tlives_any w' h
  obtain ⟨W0, hW0⟩ : ∃ W0, w.alloc (.cells #[.int .i64 n.k, .string n.t, .string n.v, .slice A n.kids.length c] 24) = W0 := ⟨_, rfl⟩
  rw [hW0] at bX al1
  have HX := Lib.hid bX
  have HB := Lib.hid al1
  have HA0 := Lib.hid hA
  have HP := Lib.hid hp
  obtain ⟨x0, x1, x2, x3⟩ := box_cells bX
  have HF := Lib.hid (few_any n _ A c W0 (NAt.up hA al1))
  have HK := Lib.hid (few_ok ho (by omega))
  clear bX al1 hA hp
  go_enter Tryz.func8, Tryz.ntmps8
  go_wp2_with fail
  clear hW0
  refine HF.out.mono ?_
  rintro e w1 ⟨rfl, hb1⟩
  generalize decide (0 ≤ fewN n 300 20) = f1 at *
  have HX1 := Lib.hid (HX.out.below hb1 HX.out.lt)
  have HB1 := Lib.hid (HB.out.trans (hb1.mono HB.out.size))
  have hs1 := HB1.out.size
  have hg1 := HX1.out.lt
  clear hb1 HX HB HF x0 x1 x2 x3
  cases f1 with
  | false =>
    clear HK
    go_wp2_with fail
    refine (hL _ (hw.below HB1.out)).mono ?_
    rintro e w3 ⟨rfl, hb3⟩
    have HB3 := Lib.hid (HB1.out.trans (hb3.mono hs1))
    clear hb3
    go_wp2
    go_ret
    exact ⟨rfl, HB3.out⟩
  | true =>
    obtain ⟨hok, hsz, hvl⟩ := HK.out rfl
    clear HK hsz hvl
    have HOK := Lib.hid hok
    obtain ⟨x0, x1, x2, x3⟩ := box_cells HX1.out
    obtain ⟨W1, hW1⟩ : ∃ W1, w1.alloc (.cells #[.int .i64 n.k, .string n.t, .string n.v, .slice A n.kids.length c] 24) = W1 := ⟨_, rfl⟩
    obtain ⟨g2, hg2⟩ : ∃ g2, w1.heap.size = g2 := ⟨_, rfl⟩
    have HX2 := Lib.hid (show Blk W1 w.heap.size 24 #[.int .i64 n.k, .string n.t, .string n.v, .slice A n.kids.length c] by rw [← hW1]; exact HX1.out.alloc _)
    have HY2 := Lib.hid (show Blk W1 g2 24 #[.int .i64 n.k, .string n.t, .string n.v, .slice A n.kids.length c] by rw [← hW1, ← hg2]; exact new_node w1 _)
    have HB2 := Lib.hid (show Below w.heap.size w W1 by rw [← hW1]; exact HB1.out.trans ((al_node w1 _).mono hs1))
    have hg12 : w.heap.size < g2 := by omega
    clear hok HX1
    go_wp2_with fail
    go_loopw [7, 8] (fun th i wr => ∃ (j : Nat) (m : Nd) (A1 : Option Addr) (c1 : Nat) (b : Bool), j ≤ place.length ∧ i = .int .i64 (j : Int) ∧ th = .bool b ∧ Hid (atN n place = if b = true then atN m (place.drop j) else none) ∧ Hid (NAt (fun b _ => b < w.heap.size) wr m A1 c1) ∧ Hid (Blk wr w.heap.size 24 #[.int .i64 n.k, .string n.t, .string n.v, .slice A n.kids.length c]) ∧ Hid (Blk wr g2 24 #[.int .i64 m.k, .string m.t, .string m.v, .slice A1 m.kids.length c1]) ∧ Hid (Below w.heap.size w wr)) (fun _ i _ => place.length - (intOf i).toNat)
    case atStart =>
      exact ⟨0, n, A, c, true, Nat.zero_le _, rfl, rfl, Lib.hid (by rw [if_pos rfl, List.drop_zero]), Lib.hid (HA0.out.below HB2.out), HX2, HY2, HB2⟩
    case round =>
      obtain ⟨j, m, A1, c1, b, hj, rfl, rfl, HAt, HN, HX, HY, HB⟩ := hrel
      clear HX2 HY2 HB2 HB1 hs1 hW1 x0 x1 x2 x3
      by_cases hlt : j < place.length
      case neg =>
        cases b with
        | false =>
          have hd := HAt.out
          rw [if_neg (by simp)] at hd
          have HT := Lib.hid (tat_any n A c _ place wr HOK.out ((HA0.out.below HB.out).weaken (fun b _ h => Nat.lt_of_lt_of_le h HB.out.size)) (HP.out.belowP HB.out) (by omega))
          unfold TPost at HT
          rw [hd] at HT
          obtain ⟨x0, x1, x2, x3⟩ := box_cells HX.out
          have hsr := HB.out.size
          clear hd HAt hpr
          go_wp2_with fail
          refine HT.out.mono ?_
          rintro e w4 ⟨hb4, he⟩
          obtain rfl := (show e = _ from he)
          have hZ := new_node w4 #[.int .i64 0, .string ⟨#[]⟩, .string ⟨#[]⟩, .slice none 0 0]
          have alZ := al_node w4 #[.int .i64 0, .string ⟨#[]⟩, .string ⟨#[]⟩, .slice none 0 0]
          have z0 := hZ.cell 0
          have z3 := hZ.cell 3
          have HB4 := Lib.hid (HB.out.trans (hb4.mono hsr))
          have HB6 := Lib.hid (HB4.out.trans (alZ.mono HB4.out.size))
          have hs6 := HB6.out.size
          obtain ⟨g4, hg4⟩ : ∃ g4, w4.heap.size = g4 := ⟨_, rfl⟩
          rw [hg4] at z0 z3
          clear hb4 he hZ alZ HT HB4 hsr x0 x1 x2 x3
          go_wp2_with fail
          refine (hL _ (hw.below HB6.out)).mono ?_
          rintro e w7 ⟨rfl, hb7⟩
          have HB7 := Lib.hid (HB6.out.trans (hb7.mono hs6))
          clear hb7
          go_wp2
          go_ret
          exact ⟨rfl, HB7.out⟩
        | true =>
          have hd := HAt.out
          rw [List.drop_of_length_le (by omega), if_pos rfl] at hd
          have HD := Lib.hid (show atN n place = some m by rw [hd]; rfl)
          have HT := Lib.hid (tat_any n A c _ place wr HOK.out ((HA0.out.below HB.out).weaken (fun b _ h => Nat.lt_of_lt_of_le h HB.out.size)) (HP.out.belowP HB.out) (by omega))
          unfold TPost at HT
          rw [HD.out] at HT
          obtain ⟨x0, x1, x2, x3⟩ := box_cells HX.out
          have hsr := HB.out.size
          clear hd HAt HD hpr
          go_wp2_with fail
          refine HT.out.mono ?_
          rintro e w4 ⟨hb4, A5, c5, rfl, hN5⟩
          have hZ := new_node w4 #[.int .i64 m.k, .string m.t, .string m.v, .slice A5 m.kids.length c5]
          have alZ := al_node w4 #[.int .i64 m.k, .string m.t, .string m.v, .slice A5 m.kids.length c5]
          have HY5 := (HY.out.below hb4 HY.out.lt).alloc (.cells #[.int .i64 m.k, .string m.t, .string m.v, .slice A5 m.kids.length c5] 24)
          obtain ⟨y0, y1, y2, y3⟩ := box_cells HY5
          obtain ⟨z0, z1, z2, z3⟩ := box_cells hZ
          have HS := Lib.hid (rsame_any m m _ _ A5 A1 c5 c1 _ (NAt.below hN5 alZ) (NAt.below ((HN.out.weaken (fun b _ h => Nat.lt_of_lt_of_le h hsr)).below hb4) alZ))
          rw [sameN_refl] at HS
          have HB4 := Lib.hid (HB.out.trans (hb4.mono hsr))
          have HB5 := Lib.hid (HB4.out.trans (alZ.mono HB4.out.size))
          have hs5 := HB5.out.size
          obtain ⟨g4, hg4⟩ : ∃ g4, w4.heap.size = g4 := ⟨_, rfl⟩
          rw [hg4] at z0 z1 z2 z3
          clear hb4 hN5 hZ alZ HY5 HT HB4 hsr x0 x1 x2 x3
          go_wp2_with fail
          refine HS.out.mono ?_
          rintro e w5 ⟨rfl, hb5⟩
          have HB6 := Lib.hid (HB5.out.trans (hb5.mono hs5))
          have hs6 := HB6.out.size
          clear HS hb5 y0 y1 y2 y3 z0 z1 z2 z3
          go_wp2_with fail
          refine (hL _ (hw.below HB6.out)).mono ?_
          rintro e w7 ⟨rfl, hb7⟩
          have HB7 := Lib.hid (HB6.out.trans (hb7.mono hs6))
          clear hb7
          go_wp2
          go_ret
          exact ⟨rfl, HB7.out⟩
      case pos =>
        cases b with
        | false =>
          have hd := HAt.out
          rw [if_neg (by simp)] at hd
          have HT := Lib.hid (tat_any n A c _ place wr HOK.out ((HA0.out.below HB.out).weaken (fun b _ h => Nat.lt_of_lt_of_le h HB.out.size)) (HP.out.belowP HB.out) (by omega))
          unfold TPost at HT
          rw [hd] at HT
          obtain ⟨x0, x1, x2, x3⟩ := box_cells HX.out
          have hsr := HB.out.size
          clear hd HAt hpr
          go_wp2_with fail
          refine HT.out.mono ?_
          rintro e w4 ⟨hb4, he⟩
          obtain rfl := (show e = _ from he)
          have hZ := new_node w4 #[.int .i64 0, .string ⟨#[]⟩, .string ⟨#[]⟩, .slice none 0 0]
          have alZ := al_node w4 #[.int .i64 0, .string ⟨#[]⟩, .string ⟨#[]⟩, .slice none 0 0]
          have z0 := hZ.cell 0
          have z3 := hZ.cell 3
          have HB4 := Lib.hid (HB.out.trans (hb4.mono hsr))
          have HB6 := Lib.hid (HB4.out.trans (alZ.mono HB4.out.size))
          have hs6 := HB6.out.size
          obtain ⟨g4, hg4⟩ : ∃ g4, w4.heap.size = g4 := ⟨_, rfl⟩
          rw [hg4] at z0 z3
          clear hb4 he hZ alZ HT HB4 hsr x0 x1 x2 x3
          go_wp2_with fail
          refine (hL _ (hw.below HB6.out)).mono ?_
          rintro e w7 ⟨rfl, hb7⟩
          have HB7 := Lib.hid (HB6.out.trans (hb7.mono hs6))
          clear hb7
          go_wp2
          go_ret
          exact ⟨rfl, HB7.out⟩
        | true =>
          obtain ⟨pa, rfl, hpc⟩ := hpr (by omega)
          have hpj := (HB.out.cell (cell_lt (hpc j hlt))).trans (hpc j hlt)
          have hd := HAt.out
          rw [if_pos rfl, List.drop_eq_getElem_cons hlt] at hd
          clear hpc
          generalize place[j] = pi at *
          obtain ⟨hlc, hcm, hkids⟩ := (NAt.def_ _ _ _).1 HN.out
          have hcm2 : c1 ≤ 9223372036854775807 := by simpa [maxLen] using hcm
          obtain ⟨y0, y1, y2, y3⟩ := box_cells HY.out
          by_cases hin : 0 ≤ pi ∧ pi.toNat < m.kids.length
          case neg =>
            have HD := Lib.hid (show atN n place = none by rw [hd, atN_none _ _ _ hin])
            by_cases hn : 0 ≤ pi
            case' neg =>
              have hge : decide (0 ≤ pi) = false := by simpa using hn
              clear hd hkids hin
            case' pos =>
              have hge : decide (pi < (m.kids.length : Int)) = false := by simp; omega
              clear hd hkids hin
            all_goals
              go_wp2
              go_region
              go_wp2
              go_roundw
              case rel => exact ⟨j + 1, m, A1, c1, false, hlt, by go_num, rfl, Lib.hid (by rw [HD.out]; simp), Lib.hid (HN.out.low fun _ _ => rfl), Lib.hid (HX.out.below (below_dr wr) HX.out.lt), Lib.hid (HY.out.below (below_dr wr) HY.out.lt), Lib.hid (HB.out.trans ((below_dr wr).mono HB.out.size))⟩
              case measure => first | (simp [intOf]; done) | (simp [intOf]; omega)
          case pos =>
            obtain ⟨hi0, hi1⟩ := hin
            obtain ⟨q, rfl⟩ : ∃ q : Nat, pi = q := ⟨pi.toNat, by omega⟩
            rw [Int.toNat_natCast] at hi1
            obtain ⟨b, o, rfl, hbb, hkid⟩ := hkids (by omega)
            obtain ⟨B, cB, q0, q1, q2, q3, hnk⟩ := hkid q hi1
            have hst := atN_step m q (place.drop (j + 1)) ⟨by omega, by rw [Int.toNat_natCast]; exact hi1⟩
            simp only [Int.toNat_natCast] at hst
            rw [hst] at hd
            have HD := Lib.hid hd
            clear hkid hkids hst hd HAt HN
            generalize m.kids[q] = kd at *
            have hqi : (q : Int) < m.kids.length := by omega
            have hqn : ¬ (q : Int) < 0 := by omega
            have hqc : q < c1 := by omega
            have hbne : b ≠ g2 := by omega
            have bY := HY.out
            have f0 : wr.frozen? ⟨g2, 0, none⟩ = false := bY.frozen 0
            have f1 : wr.frozen? ⟨g2, 1, none⟩ = false := bY.frozen 1
            have f2 : wr.frozen? ⟨g2, 2, none⟩ = false := bY.frozen 2
            have f3 : wr.frozen? ⟨g2, 3, none⟩ = false := bY.frozen 3
            have dl := bY.lt
            have HNk := Lib.hid hnk
            clear bY hnk
            go_wp2
            go_region
            go_wp2
            go_region
            go_wp2
            go_roundw
            case rel =>
              obtain ⟨W4, hW4⟩ : ∃ W4, (((wr.setCell ⟨g2, 0, none⟩ (.int .i64 kd.k)).setCell ⟨g2, 1, none⟩ (.string kd.t)).setCell ⟨g2, 2, none⟩ (.string kd.v)).setCell ⟨g2, 3, none⟩ (.slice B kd.kids.length cB) = W4 := ⟨_, rfl⟩
              have n1 : NAt (fun b _ => b < w.heap.size) W4 kd B cB := by
                rw [← hW4]
                exact HNk.out.low fun i hi => (((((Below.refl w.heap.size wr).setCell (p := ⟨g2, 0, none⟩) (by simp; omega) (.int .i64 kd.k)).setCell (p := ⟨g2, 1, none⟩) (by simp; omega) (.string kd.t)).setCell (p := ⟨g2, 2, none⟩) (by simp; omega) (.string kd.v)).setCell (p := ⟨g2, 3, none⟩) (by simp; omega) (.slice B kd.kids.length cB)).block i hi
              have x1 : Blk W4 w.heap.size 24 #[.int .i64 n.k, .string n.t, .string n.v, .slice A n.kids.length c] := by
                rw [← hW4]
                exact (((HX.out.far (p := ⟨g2, 0, none⟩) (by simp; omega) _).far (p := ⟨g2, 1, none⟩) (by simp; omega) _).far (p := ⟨g2, 2, none⟩) (by simp; omega) _).far (p := ⟨g2, 3, none⟩) (by simp; omega) _
              have y1 : Blk W4 g2 24 #[.int .i64 kd.k, .string kd.t, .string kd.v, .slice B kd.kids.length cB] := by
                rw [← hW4]
                exact (((HY.out.set_ 0 (.int .i64 kd.k)).set_ 1 (.string kd.t)).set_ 2 (.string kd.v)).set_ 3 (.slice B kd.kids.length cB)
              have b1 : Below w.heap.size w W4 := by
                rw [← hW4]
                exact (((HB.out.setCell (p := ⟨g2, 0, none⟩) (by simp; omega) _).setCell (p := ⟨g2, 1, none⟩) (by simp; omega) _).setCell (p := ⟨g2, 2, none⟩) (by simp; omega) _).setCell (p := ⟨g2, 3, none⟩) (by simp; omega) _
              rw [hW4]
              have d2 : Below W4.heap.size W4 W4.drew.drew := (below_dr W4).trans (below_dr W4.drew)
              exact ⟨j + 1, kd, B, cB, true, hlt, by go_num, rfl, Lib.hid (by rw [if_pos rfl]; exact HD.out), Lib.hid (n1.low fun _ _ => rfl), Lib.hid (x1.below d2 x1.lt), Lib.hid (y1.below d2 y1.lt), Lib.hid (b1.trans (d2.mono b1.size))⟩
            case measure => first | (simp [intOf]; done) | (simp [intOf]; omega)
end Go.Proofs.YtfilonbhcalkoaaGreatDoor

/-
  The walk of NamesInner.
-/
import Derived.Test.YtgpnhgjiglnmmaaNamesV
namespace Go.Proofs.Ytgpnhgjiglnmmaa
open Go.RowKit Go.Maps
set_option maxRecDepth 100000

theorem bind_ne (p s : List UInt8) (m : Sc) (r : St) : ∃ m', bindS p s (m :: r) = m' :: r := by
  simp only [bindS]
  split
  · exact ⟨_, rfl⟩
  · exact ⟨_, rfl⟩

set_option maxHeartbeats 4000000 in
theorem walk_NamesInner (v : Value) (xs : List Dd) (hx : ∀ x ∈ xs, okD x) (hl : xs.length ≤ 1048576) (v2 : Value) (ys : List Dd) (hy : ∀ x ∈ ys, okD x) (hl2 : ys.length ≤ 1048576) (p : ByteArray) (hp : p.size ≤ 1048576) (w : World) (hd : DRead w v xs) (hd2 : DRead w v2 ys) :
    Calls Try.prog 7 #[v, v2, .string p] w fun e w' => e = .returned (.bool true) ∧ Below w.heap.size w w' := by
  obtain ⟨A, c, rfl, hr⟩ := hd
  obtain ⟨A2, c2, rfl, hr2⟩ := hd2
  have HR := Lib.hid hr
  have HR2 := Lib.hid hr2
  have HX := Lib.hid hx
  have HY := Lib.hid hy
  clear hr hr2 hx hy
  go_enter Try.func7, Try.ntmps7
  go_wp2_with (first
    | (go_at_call 18; refine (snew_any _ w.heap.size (Nat.le_refl _)).mono ?_; rintro e w1 ⟨rfl, hs1, hb1⟩))
  have hr1 := rnew (w := w1) w.heap.size hb1.size
  have ha : Below w1.heap.size w1 (w1.alloc (.cells #[.slice none 0 0, .int .i64 0] 35)) := (Below.refl _ _).alloc (Nat.le_refl _) _
  have hs2 := hs1.below ha
  have hb2 := hb1.trans (ha.mono hb1.size)
  go_loopw [9] (fun i wr => ∃ (k : Nat) (st : St), k ≤ xs.length ∧ i = .int .i64 k ∧ SAt wr w.heap.size w.heap.size st ∧ RAt wr w.heap.size w1.heap.size st ∧ st.length ≤ k ∧ (refL st).length ≤ k ∧ Below w.heap.size w wr) (fun i _ => xs.length - (intOf i).toNat)
  case atStart => exact ⟨0, [], Nat.zero_le _, rfl, hs2, hr1, Nat.zero_le _, Nat.zero_le _, hb2⟩
  case round =>
    obtain ⟨k, st, hk, rfl, hs, hrr, hl1, hl2', hbel⟩ := hrel
    by_cases hlt : k < xs.length
    · obtain ⟨bb, oo, rfl, hc⟩ := HR.out (by omega)
      obtain ⟨h1, h2, h3⟩ := hc k hlt
      have hok := HX.out _ (List.getElem_mem hlt)
      have g1 := (hbel.cell (cell_lt h1)).trans h1
      have g2 := (hbel.cell (cell_lt h2)).trans h2
      have g3 := (hbel.cell (cell_lt h3)).trans h3
      clear hc
      generalize xs[k] = x at *
      obtain ⟨q1, q2, q3, q4⟩ := hok
      obtain ⟨z1, z2⟩ := do_len (pickI x.k) x.p.data.toList x.s.data.toList st
      go_wp2_with (first
        | (go_at_call 19; refine (does_any _ w.heap.size w.heap.size w1.heap.size st x.k x.p x.s hs hrr q1 q2 q3 q4 (by omega) (by omega)).mono ?_; rintro e w3 ⟨rfl, hs3, hr3, hb3⟩))
      go_roundw
      case rel => exact ⟨k + 1, _, hlt, by go_num, hs3, hr3, by omega, by omega, hbel.trans hb3⟩
      case measure => first | (simp [intOf]; done) | (simp [intOf]; omega)
    · obtain ⟨X, f, hE⟩ := spaceEnd_ex p.data.toList st
      have HE := Lib.hid hE
      clear hE hs1 hb1 hr1 ha hs2 hb2
      go_wp2_with (first
        | (go_at_call 20; refine (sspace_any _ w.heap.size w.heap.size st p (by omega) hs).mono ?_; rw [HE.out]; rintro e w3 ⟨rfl, hb3⟩; have hs3 := hs.below hb3; have hr3 := hrr.below hb3; have hb4 := hbel.trans (hb3.mono hbel.size))
        | (go_at_call 21; refine (open_any _ w.heap.size w.heap.size st hs3 (by omega)).mono ?_; rintro e w4 ⟨rfl, hs4, ht4⟩; have hr4 := hr3.of_s ht4; have hb5 := hb4.trans (ht4.below hb4.size)))
      go_loopw [13] (fun i wv => ∃ (j : Nat) (m : Sc), j ≤ ys.length ∧ i = .int .i64 j ∧ SAt wv w.heap.size w.heap.size (m :: st) ∧ RAt wv w.heap.size w1.heap.size st ∧ Below w.heap.size w wv) (fun i _ => ys.length - (intOf i).toNat)
      case atStart => exact ⟨0, [], Nat.zero_le _, rfl, hs4, hr4, hb5⟩
      case round =>
        obtain ⟨j, m, hj, rfl, hsj, hrj, hbj⟩ := hrel
        by_cases hjl : j < ys.length
        · obtain ⟨bb, oo, rfl, hc⟩ := HR2.out (by omega)
          obtain ⟨h1, h2, h3⟩ := hc j hjl
          obtain ⟨_, _, q3, q4⟩ := HY.out _ (List.getElem_mem hjl)
          have g2 := (hbj.cell (cell_lt h2)).trans h2
          have g3 := (hbj.cell (cell_lt h3)).trans h3
          clear hc h1
          generalize ys[j] = y at *
          have i0 : (0 : Int) ≤ (j : Int) := by omega
          have i1 : (j : Int) < (ys.length : Int) := by omega
          go_wp2_with fail
          go_region_held3 (fun w' => w'.cell? ⟨bb, oo + j * 3 + 1, none⟩ = some (.string y.p) ∧ w'.cell? ⟨bb, oo + j * 3 + 2, none⟩ = some (.string y.s))
            (first
              | exact ⟨g2, g3⟩
              | exact ⟨(hb6.cell (cell_lt h2)).trans h2, (hb6.cell (cell_lt h3)).trans h3⟩
              | go_keep)
            (first
              | (go_at_call 22; refine (bind_any _ w.heap.size w.heap.size (m :: st) y.p y.s hsj.drew (by omega) (by omega)).mono ?_; rintro e w6 ⟨rfl, hs6, ht6⟩; have hr6 := hrj.drew.of_s ht6; have hb6 := (below_drew hbj).trans (ht6.below hbj.size)))
          go_wp2
          obtain ⟨m', hm'⟩ := bind_ne y.p.data.toList y.s.data.toList m st
          rw [hm'] at hs6
          go_roundw
          case rel => exact ⟨j + 1, m', hjl, by go_num, hs6, hr6, hb6⟩
          case measure => first | (simp [intOf]; done) | (simp [intOf]; omega)
        · have hcl := Lib.hid (show closeE (m :: st) = 0 from rfl)
          go_wp2_with (first
            | (go_at_call 23; refine (close_any _ w.heap.size w.heap.size (m :: st) hsj).mono ?_; rw [hcl.out]; rintro e w6 ⟨rfl, hs6, ht6⟩; have hr6 := hrj.of_s ht6; have hb6 := hbj.trans (ht6.below hbj.size); have hs7 : SAt w6 w.heap.size w.heap.size st := hs6)
            | (go_at_call 20; refine (sspace_any _ w.heap.size w.heap.size st p (by omega) hs7).mono ?_; rw [HE.out]; rintro e w8 ⟨rfl, hb8⟩; have hs8 := hs7.below hb8; have hr8 := hr6.below hb8; have hb9 := hb6.trans (hb8.mono hb6.size)))
          go_loopw [16] (fun i wv => ∃ (j : Nat), j ≤ ys.length ∧ i = .int .i64 j ∧ SAt wv w.heap.size w.heap.size st ∧ RAt wv w.heap.size w1.heap.size st ∧ Below w.heap.size w wv) (fun i _ => ys.length - (intOf i).toNat)
          case atStart => exact ⟨0, Nat.zero_le _, rfl, hs8, hr8, hb9⟩
          case round =>
            obtain ⟨q, hq, rfl, hsq, hrq, hbq⟩ := hrel
            by_cases hql : q < ys.length
            · obtain ⟨bb, oo, rfl, hc⟩ := HR2.out (by omega)
              obtain ⟨h1, h2, h3⟩ := hc q hql
              obtain ⟨_, _, q3, q4⟩ := HY.out _ (List.getElem_mem hql)
              have g2 := (hbq.cell (cell_lt h2)).trans h2
              clear hc h1 h3
              generalize ys[q] = y at *
              obtain ⟨X2, f2, hE2⟩ := spaceEnd_ex y.p.data.toList st
              have HE2 := Lib.hid hE2
              clear hE2
              go_wp2_with (first
                | (go_at_call 20; refine (sspace_any _ w.heap.size w.heap.size st y.p (by omega) hsq).mono ?_; rw [HE2.out]; rintro e w10 ⟨rfl, hb10⟩; have hs10 := hsq.below hb10; have hr10 := hrq.below hb10; have hb11 := hbq.trans (hb10.mono hbq.size); have g4 := (hb11.cell (cell_lt h2)).trans h2)
                | (go_at_call 24; refine (rspaceS_any _ w.heap.size w1.heap.size st y.p hr10).mono ?_; rw [HE2.out]; rintro e w12 ⟨rfl, rfl⟩))
              go_roundw
              case rel => exact ⟨q + 1, hql, by go_num, hs10, hr10, hb11⟩
              case measure => first | (simp [intOf]; done) | (simp [intOf]; omega)
            · go_wp2_with (first
                | (go_at_call 15; refine (lives_any _).mono ?_; rintro e w13 ⟨rfl, hb13⟩))
              go_ret
              exact ⟨rfl, hbq.trans (hb13.mono hbq.size)⟩
end Go.Proofs.Ytgpnhgjiglnmmaa

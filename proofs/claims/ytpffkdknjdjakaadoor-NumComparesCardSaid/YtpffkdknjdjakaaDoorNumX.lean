/-
  The reference's at, sized and Compare.
-/
import Derived.Test.YtpffkdknjdjakaaDoorNumW
import Derived.Test.YtpffkdknjdjakaaDoorNumV
import Derived.IntWalk
namespace Go.Proofs.YtpffkdknjdjakaaDoor
open Go.RowKit
set_option maxRecDepth 100000

theorem atL_at {D : List UInt8} {t q : Int} {j : Nat} (h : t - q = j) (hj : j < D.length) : atL D t q = dI D[j] := by
  unfold atL
  rw [if_pos (by omega), show (t - q).toNat = j from by omega, List.getElem?_eq_getElem hj]
theorem atL_below {D : List UInt8} {t q : Int} (h : (D.length : Int) ≤ t - q) : atL D t q = 0 := by
  unfold atL
  rw [if_pos (by omega), List.getElem?_eq_none (by omega)]

set_option maxHeartbeats 1000000 in
theorem rat_any (v : Val) (slv : Value) (q : Int) (w : World) (hq : -2000 ≤ q ∧ q ≤ 2000) (hv : BV v) (hr : IRead w slv (dIs v.digs)) :
    Calls Tryd.prog 32 #[.agg #[.bool v.neg, slv, .int .i64 v.pow], .int .i64 q] w fun e w' => e = .returned (.int .i64 (atL v.digs (topV v) q)) ∧ Below w.heap.size w w' := by
  obtain ⟨A, cp, rfl, hA⟩ := iread_d hr
  obtain ⟨q1, q2⟩ := hq
  have p1 := hv.lo
  have p2 := hv.hi
  have hl := hv.len
  have ht : topV v = v.digs.length - 1 + v.pow := rfl
  clear hr hv
  obtain ⟨n, D, p⟩ := v
  simp only at hA p1 p2 hl ht ⊢
  rw [ht]
  clear ht
  have hli : (D.length : Int) ≤ 30 := by omega
  have HB := Blk.new w 44 #[.bool n, .slice A D.length cp, .int .i64 p]
  by_cases h1 : (D.length : Int) - 1 - (q - p) < 0
  · rw [atL_above D (by omega)]
    go_enter Tryd.func32, Tryd.ntmps32
    go_wp2
    go_ret
    exact ⟨rfl, (Below.refl _ _).alloc (Nat.le_refl _) _⟩
  · by_cases h2 : (D.length : Int) ≤ (D.length : Int) - 1 - (q - p)
    · rw [atL_below (by omega)]
      go_enter Tryd.func32, Tryd.ntmps32
      go_wp2
      go_ret
      exact ⟨rfl, (Below.refl _ _).alloc (Nat.le_refl _) _⟩
    · obtain ⟨j, hj⟩ : ∃ j : Nat, (D.length : Int) - 1 - (q - p) = j := ⟨((D.length : Int) - 1 - (q - p)).toNat, by omega⟩
      have hjl : j < D.length := by omega
      rw [atL_at (j := j) (by omega) hjl]
      obtain ⟨ad, rfl, hc⟩ := hA (by omega)
      have hcj := cell?_alloc_old (.cells #[.bool n, .slice (some ad) D.length cp, .int .i64 p] 44) (hc j hjl)
      have hji : (j : Int) < D.length := by omega
      generalize dI D[j] = db at hcj ⊢
      clear hc hA
      go_enter Tryd.func32, Tryd.ntmps32
      go_wp2
      go_ret
      exact ⟨rfl, (Below.refl _ _).alloc (Nat.le_refl _) _⟩

theorem sizeV_at (x y : Val) : sizeV x y = szF (atL x.digs (topV x)) (atL y.digs (topV y)) 2201 1100 := rfl
theorem szF_lt {f g : Int → Int} {n : Nat} {q : Int} (h : f q < g q) : szF f g (n + 1) q = -1 := by simp only [szF]; rw [if_pos h]
theorem szF_gt {f g : Int → Int} {n : Nat} {q : Int} (h : g q < f q) : szF f g (n + 1) q = 1 := by simp only [szF]; rw [if_neg (by omega), if_pos h]
theorem szF_eq {f g : Int → Int} {n : Nat} {q : Int} (h : ¬ f q < g q) (h2 : ¬ g q < f q) : szF f g (n + 1) q = szF f g n (q - 1) := by simp only [szF]; rw [if_neg h, if_neg h2]
theorem atL_bound (D : List UInt8) (t q : Int) : -48 ≤ atL D t q ∧ atL D t q ≤ 255 := by
  unfold atL
  split
  · split
    · rename_i b _
      have := b.toNat_lt
      unfold dI
      omega
    · omega
  · omega

set_option maxHeartbeats 1000000 in
theorem rsized_any (x y : Val) (sx sy : Value) (w : World) (hx : BV x) (hy : BV y) (rx : IRead w sx (dIs x.digs)) (ry : IRead w sy (dIs y.digs)) :
    Calls Tryd.prog 24 #[.agg #[.bool x.neg, sx, .int .i64 x.pow], .agg #[.bool y.neg, sy, .int .i64 y.pow]] w fun e w' => e = .returned (.int .i64 (sizeV x y)) ∧ Below w.heap.size w w' := by
  obtain ⟨A1, c1, rfl, _⟩ := iread_d rx
  obtain ⟨A2, c2, rfl, _⟩ := iread_d ry
  go_enter Tryd.func24, Tryd.ntmps24
  go_wp2
  go_loopw [5] (fun i wr => ∃ k : Nat, k ≤ 2201 ∧ i = .int .i64 (1100 - k) ∧ Blk wr w.heap.size 44 #[.bool x.neg, .slice A1 x.digs.length c1, .int .i64 x.pow] ∧ Blk wr (w.heap.size + 1) 44 #[.bool y.neg, .slice A2 y.digs.length c2, .int .i64 y.pow] ∧
      Hid (Below w.heap.size w wr) ∧ Hid (sizeV x y = szF (atL x.digs (topV x)) (atL y.digs (topV y)) (2201 - k) (1100 - k))) (fun i _ => (intOf i + 1101).toNat)
  case atStart =>
    refine ⟨0, by omega, by simp, ?_, ?_, Lib.hid (((Below.refl _ _).alloc (Nat.le_refl _) _).alloc (by simp) _), Lib.hid (by rw [sizeV_at]; simp)⟩
    · exact (Blk.new w _ _).alloc _
    · have := Blk.new (w.alloc (.cells #[.bool x.neg, .slice A1 x.digs.length c1, .int .i64 x.pow] 44)) 44 #[.bool y.neg, .slice A2 y.digs.length c2, .int .i64 y.pow]
      simpa using this
  case round =>
    obtain ⟨k, hk, rfl, HX, HY, HBL, HS⟩ := hrel
    have hs0 := HBL.out.size
    have rx2 := rx.below HBL.out
    have ry2 := ry.below HBL.out
    have a0 : wr.cell? ⟨w.heap.size, 0, none⟩ = some (.bool x.neg) := HX.cell 0
    have a1 : wr.cell? ⟨w.heap.size, 1, none⟩ = some (.slice A1 x.digs.length c1) := HX.cell 1
    have a2 : wr.cell? ⟨w.heap.size, 2, none⟩ = some (.int .i64 x.pow) := HX.cell 2
    by_cases hlt : k < 2201
    · have hki : (-1100 : Int) ≤ 1100 - (k : Int) := by omega
      have hlx := HX.lt
      have hly := HY.lt
      have HSZ := HS.out
      rw [show 2201 - k = (2201 - (k + 1)) + 1 from by omega] at HSZ
      have HS1 := Lib.hid HSZ
      clear HSZ
      go_wp2_with (fail)
      refine (rat_any x (.slice A1 x.digs.length c1) (1100 - k) _ ⟨by omega, by omega⟩ hx rx2).mono ?_
      rintro e w1 ⟨rfl, hb1⟩
      have hs1 := hb1.size
      have HX1 := HX.below hb1 hlx
      have HY1 := HY.below hb1 hly
      have b0 : w1.cell? ⟨w.heap.size + 1, 0, none⟩ = some (.bool y.neg) := HY1.cell 0
      have b1 : w1.cell? ⟨w.heap.size + 1, 1, none⟩ = some (.slice A2 y.digs.length c2) := HY1.cell 1
      have b2 : w1.cell? ⟨w.heap.size + 1, 2, none⟩ = some (.int .i64 y.pow) := HY1.cell 2
      go_wp2_with (fail)
      refine (rat_any y (.slice A2 y.digs.length c2) (1100 - k) _ ⟨by omega, by omega⟩ hy (ry2.below hb1)).mono ?_
      rintro e w2 ⟨rfl, hb2⟩
      have hs2 := hb2.size
      have HX2 := HX1.below hb2 (by omega)
      have HY2 := HY1.below hb2 (by omega)
      have hbl := HBL.out.trans ((hb1.trans (hb2.mono hs1)).mono hs0)
      have HBL2 := Lib.hid hbl
      obtain ⟨ax, hax⟩ : ∃ ax, atL x.digs (topV x) (1100 - k) = ax := ⟨_, rfl⟩
      obtain ⟨ay, hay⟩ : ∃ ay, atL y.digs (topV y) (1100 - k) = ay := ⟨_, rfl⟩
      have h1 := atL_bound x.digs (topV x) (1100 - k)
      have h2 := atL_bound y.digs (topV y) (1100 - k)
      rw [hax] at h1 ⊢
      rw [hay] at h2 ⊢
      have HAX := Lib.hid hax
      have HAY := Lib.hid hay
      clear hax hay hbl
      by_cases hl : ax < ay
      · go_wp2
        go_ret
        exact ⟨by rw [HS1.out, szF_lt (by rw [HAX.out, HAY.out]; exact hl)]; rfl, HBL2.out⟩
      · by_cases hg : ay < ax
        · go_wp2
          go_ret
          exact ⟨by rw [HS1.out, szF_gt (by rw [HAX.out, HAY.out]; exact hg)]; rfl, HBL2.out⟩
        · have HNX : Hid (sizeV x y = szF (atL x.digs (topV x)) (atL y.digs (topV y)) (2201 - (k + 1)) (1100 - ((k + 1 : Nat) : Int))) := Lib.hid (by
            rw [HS1.out, szF_eq (by rw [HAX.out, HAY.out]; exact hl) (by rw [HAX.out, HAY.out]; exact hg)]
            congr 1
            omega)
          go_wp2
          go_roundw
          case rel => exact ⟨k + 1, by omega, by go_num, HX2, HY2, HBL2, HNX⟩
          case measure => simp [intOf]; omega
    · obtain rfl : k = 2201 := by omega
      go_wp2
      go_ret
      exact ⟨by rw [HS.out]; rfl, HBL.out⟩

theorem szF_01 (f g : Int → Int) (n : Nat) (q : Int) : -1 ≤ szF f g n q ∧ szF f g n q ≤ 1 := by
  induction n generalizing q with
  | zero => exact ⟨by simp [szF], by simp [szF]⟩
  | succ n ih =>
    simp only [szF]
    split
    · omega
    · split
      · omega
      · exact ih _
theorem bv_of {l : List UInt8} {v : Val} (h : readL l = some v) : BV v := ⟨can_of h, (okV_of h).1, (okV_of h).2.1, (okV_of h).2.2.2⟩

set_option maxHeartbeats 1000000 in
theorem rcompare_yes (s t : ByteArray) (x y : Val) (w : World) (hs : s.size ≤ 140737488355328) (ht : t.size ≤ 140737488355328) (hx : readL s.data.toList = some x) (hy : readL t.data.toList = some y) :
    Calls Tryd.prog 15 #[.string s, .string t] w fun e w' => e = .returned (.tuple #[.int .i64 (cmpV x y), .int .i64 0]) ∧ Below w.heap.size w w' := by
  have BX := bv_of hx
  have BY := bv_of hy
  rw [← refCmp_is BX BY]
  have HX := Lib.hid hx
  have HY := Lib.hid hy
  clear hx hy
  go_enter Tryd.func15, Tryd.ntmps15
  go_wp2_with (fail)
  refine (rread_any s _ hs).mono ?_
  rintro e w1 ⟨hb1, hv⟩
  rw [HX.out] at hv
  simp only at hv
  obtain ⟨sx, rfl, hrx⟩ := hv
  obtain ⟨A1, c1, rfl, _⟩ := iread_d hrx
  have hs1 := hb1.size
  have hbA : Below w1.heap.size w1 (w1.alloc (.cells #[.bool x.neg, .slice A1 x.digs.length c1, .int .i64 x.pow] 44)) := (Below.refl w1.heap.size w1).alloc (Nat.le_refl _) _
  have BX1 := Blk.new w1 44 #[.bool x.neg, .slice A1 x.digs.length c1, .int .i64 x.pow]
  have hrx2 := hrx.below hbA
  go_wp2_with (fail)
  refine (rread_any t _ ht).mono ?_
  rintro e w2 ⟨hb2, hv⟩
  rw [HY.out] at hv
  simp only at hv
  obtain ⟨sy, rfl, hry⟩ := hv
  obtain ⟨A2, c2, rfl, _⟩ := iread_d hry
  have hs2 := hb2.size
  simp at hs2
  have BX2 := BX1.below hb2 (by simp)
  have hrx3 := hrx2.below hb2
  have hbB : Below w2.heap.size w2 (w2.alloc (.cells #[.bool y.neg, .slice A2 y.digs.length c2, .int .i64 y.pow] 44)) := (Below.refl w2.heap.size w2).alloc (Nat.le_refl _) _
  have BX3 := BX2.alloc (.cells #[.bool y.neg, .slice A2 y.digs.length c2, .int .i64 y.pow] 44)
  have BY3 := Blk.new w2 44 #[.bool y.neg, .slice A2 y.digs.length c2, .int .i64 y.pow]
  have hrx4 := hrx3.below hbB
  have hry4 := hry.below hbB
  have hball : Below w.heap.size w (w2.alloc (.cells #[.bool y.neg, .slice A2 y.digs.length c2, .int .i64 y.pow] 44)) :=
    hb1.trans ((hbA.trans ((hb2.mono (by simp)).trans (hbB.mono (by omega)))).mono hs1)
  have a0 : w2.cell? ⟨w1.heap.size, 0, none⟩ = some (.bool x.neg) := BX2.cell 0
  have a1 : w2.cell? ⟨w1.heap.size, 1, none⟩ = some (.slice A1 x.digs.length c1) := BX2.cell 1
  have a2 : w2.cell? ⟨w1.heap.size, 2, none⟩ = some (.int .i64 x.pow) := BX2.cell 2
  have e0 : (w2.alloc (.cells #[.bool y.neg, .slice A2 y.digs.length c2, .int .i64 y.pow] 44)).cell? ⟨w1.heap.size, 0, none⟩ = some (.bool x.neg) := BX3.cell 0
  have e1 : (w2.alloc (.cells #[.bool y.neg, .slice A2 y.digs.length c2, .int .i64 y.pow] 44)).cell? ⟨w1.heap.size, 1, none⟩ = some (.slice A1 x.digs.length c1) := BX3.cell 1
  have e2 : (w2.alloc (.cells #[.bool y.neg, .slice A2 y.digs.length c2, .int .i64 y.pow] 44)).cell? ⟨w1.heap.size, 2, none⟩ = some (.int .i64 x.pow) := BX3.cell 2
  go_wp2_with (fail)
  refine (rsized_any x y (.slice A1 x.digs.length c1) (.slice A2 y.digs.length c2) _ BX BY hrx4 hry4).mono ?_
  rintro e w3 ⟨rfl, hb3⟩
  have hs3 := hb3.size
  simp at hs3
  have BX4 := BX3.below hb3 (by simp; omega)
  have BY4 := BY3.below hb3 (by simp)
  have hbz := hball.trans (hb3.mono hball.size)
  have f0 : w3.cell? ⟨w1.heap.size, 0, none⟩ = some (.bool x.neg) := BX4.cell 0
  have f1 : w3.cell? ⟨w2.heap.size, 0, none⟩ = some (.bool y.neg) := BY4.cell 0
  have hz := szF_01 (atL x.digs (topV x)) (atL y.digs (topV y)) 2201 1100
  rw [← sizeV_at] at hz
  obtain ⟨z1, z2⟩ := hz
  obtain ⟨sz, hsz⟩ : ∃ sz, sizeV x y = sz := ⟨_, rfl⟩
  obtain ⟨nx, hnx⟩ : ∃ nx, x.neg = nx := ⟨_, rfl⟩
  obtain ⟨ny, hny⟩ : ∃ ny, y.neg = ny := ⟨_, rfl⟩
  have hR : refCmp x y = if nx && ny then -sz else if nx then -1 else if ny then 1 else sz := by unfold refCmp; rw [hsz, hnx, hny]
  rw [hsz] at z1 z2 ⊢
  rw [hnx] at f0
  rw [hny] at f1
  have HR := Lib.hid hR
  clear hsz hnx hny hR a0 a1 a2 e0 e1 e2
  cases nx <;> cases ny
  all_goals
    go_wp2_with (fail)
    go_ret2
    refine ⟨?_, hbz⟩
    rw [HR.out]
    rfl

set_option maxHeartbeats 1000000 in
theorem rcompare_no (s t : ByteArray) (w : World) (hs : s.size ≤ 140737488355328) (ht : t.size ≤ 140737488355328) (h : readL s.data.toList = none ∨ readL t.data.toList = none) :
    Calls Tryd.prog 15 #[.string s, .string t] w fun e w' => e = .returned (.tuple #[.int .i64 0, .int .i64 8]) ∧ Below w.heap.size w w' := by
  have H := Lib.hid h
  clear h
  go_enter Tryd.func15, Tryd.ntmps15
  go_wp2_with (fail)
  refine (rread_any s _ hs).mono ?_
  rintro e w1 ⟨hb1, hv⟩
  have hb1s := hb1.size
  cases hx : readL s.data.toList with
  | none =>
    rw [hx] at hv
    simp only at hv
    subst hv
    clear hx
    go_wp2_with (fail)
    refine (rread_any t _ ht).mono ?_
    rintro e w2 ⟨hb2, hv⟩
    have hs2 := hb2.size
    simp at hs2
    have hball := (hb1.alloc hb1s (.cells #[.bool false, .slice none 0 0, .int .i64 0] 44)).trans (hb2.mono (by simp; omega))
    cases hy : readL t.data.toList with
    | none =>
      rw [hy] at hv
      simp only at hv
      subst hv
      clear hy
      go_wp2_with (fail)
      go_ret2
      exact ⟨rfl, hball.alloc (by omega) _⟩
    | some y =>
      rw [hy] at hv
      simp only at hv
      obtain ⟨sy, rfl, hry⟩ := hv
      obtain ⟨A2, c2, rfl, _⟩ := iread_d hry
      clear hy hry
      go_wp2_with (fail)
      go_ret2
      exact ⟨rfl, hball.alloc (by omega) _⟩
  | some x =>
    rw [hx] at hv
    simp only at hv
    obtain ⟨sx, rfl, hrx⟩ := hv
    obtain ⟨A1, c1, rfl, _⟩ := iread_d hrx
    have hy : readL t.data.toList = none := by
      rcases H.out with h | h
      · rw [hx] at h; cases h
      · exact h
    have HY := Lib.hid hy
    clear hx hrx hy
    go_wp2_with (fail)
    refine (rread_any t _ ht).mono ?_
    rintro e w2 ⟨hb2, hv⟩
    rw [HY.out] at hv
    simp only at hv
    subst hv
    have hs2 := hb2.size
    simp at hs2
    have hball := (hb1.alloc hb1s (.cells #[.bool x.neg, .slice A1 x.digs.length c1, .int .i64 x.pow] 44)).trans (hb2.mono (by simp; omega))
    go_wp2_with (fail)
    go_ret2
    exact ⟨rfl, hball.alloc (by omega) _⟩

theorem rcompare_any (s t : ByteArray) (w : World) (hs : s.size ≤ 140737488355328) (ht : t.size ≤ 140737488355328) :
    Calls Tryd.prog 15 #[.string s, .string t] w fun e w' => e = .returned (.tuple #[.int .i64 (cmpN s.data.toList t.data.toList), .int .i64 (cmpC s.data.toList t.data.toList)]) ∧ Below w.heap.size w w' := by
  cases hx : readL s.data.toList with
  | none =>
    rw [cmpN_none (.inl hx), cmpC_none (.inl hx)]
    exact rcompare_no s t w hs ht (.inl hx)
  | some x =>
    cases hy : readL t.data.toList with
    | none =>
      rw [cmpN_none (.inr hy), cmpC_none (.inr hy)]
      exact rcompare_no s t w hs ht (.inr hy)
    | some y =>
      rw [cmpN_some hx hy, cmpC_some hx hy]
      exact rcompare_yes s t x y w hs ht hx hy

set_option maxHeartbeats 1000000 in
theorem walk_NumCompares (a : ByteArray) (ha : a.size ≤ 140737488355328) (b : ByteArray) (hb : b.size ≤ 140737488355328) (w : World) (hw : StdW w) :
    Calls Tryd.prog 7 #[.string a, .string b] w fun e w' => e = .returned (.bool true) ∧ Below w.heap.size w w' := by
  have h1 := compare_any a b w hw (by omega) (by omega)
  have h2 := fun w => rcompare_any a b w ha hb
  generalize cmpN a.data.toList b.data.toList = X at h1 h2
  generalize cmpC a.data.toList b.data.toList = C at h1 h2
  have H1 := Lib.hid h1
  have H2 := Lib.hid h2
  clear h1 h2
  go_enter Tryd.func7, Tryd.ntmps7
  go_wp2_with (fail)
  refine H1.out.mono ?_
  rintro e w1 ⟨rfl, hb1⟩
  go_wp2_with (fail)
  refine (H2.out _).mono ?_
  rintro e w2 ⟨rfl, hb2⟩
  have hbl := hb1.trans (hb2.mono hb1.size)
  have hXX : (X == X) = true := by simp
  have hCC : (C == C) = true := by simp
  go_wp2_with (go_at_call 11; refine (lives_any _ (hw.below hbl)).mono ?_; rintro e w2 ⟨rfl, hb3⟩)
  go_ret
  exact ⟨rfl, hbl.trans (hb3.mono hbl.size)⟩
end Go.Proofs.YtpffkdknjdjakaaDoor

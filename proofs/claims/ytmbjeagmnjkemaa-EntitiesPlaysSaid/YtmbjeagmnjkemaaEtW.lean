/-
  The law's few and does (hexaplalaw13): a deed cut, a deed done of both.
-/
import Derived.Test.YtmbjeagmnjkemaaEtV
import Derived.Test.YtmbjeagmnjkemaaEtT
import Derived.Deep.RegionHeld3
namespace Go.Proofs.Ytmbjeagmnjkemaa
open Go.RowKit Go.Maps
set_option maxRecDepth 100000
set_option linter.unusedSimpArgs false
set_option linter.unusedVariables false
set_option linter.unusedSectionVars false
variable [Fo]

def cut400 (t : ByteArray) : ByteArray := if 400 < t.size then t.extract 0 400 else t
theorem cut400_le (t : ByteArray) : (cut400 t).size ≤ 400 := by
  unfold cut400
  split
  · rw [ByteArray.size_extract]; omega
  · omega
theorem few13_any (k : Int) (n t : ByteArray) (w : World) (ht : t.size ≤ 140737488355328) :
    Calls Try.prog 9 #[.agg #[.int .i64 k, .string n, .string t]] w fun e w' => e = .returned (.agg #[.int .i64 k, .string n, .string (cut400 t)]) ∧ Below w.heap.size w w' := by
  have ha : Below w.heap.size w (w.alloc (.cells #[.int .i64 k, .string n, .string t] 31)) := (Below.refl _ _).alloc (Nat.le_refl _) _
  by_cases h4 : 400 < t.size
  · have hc : cut400 t = t.extract 0 400 := by unfold cut400; rw [if_pos h4]
    rw [hc]
    have h5 : ¬ (t.size : Int) ≤ 400 := by omega
    have h6 : 400 ≤ t.size := by omega
    clear hc
    go_enter Try.func9, Try.ntmps9
    go_wp2
    have B2 : Blk ((w.alloc (.cells #[.int .i64 k, .string n, .string (t.extract 0 400)] 31)).alloc (.cells #[.int .i64 k, .string n, .string (t.extract 0 400)] 31)) (w.heap.size + 1) 31 #[.int .i64 k, .string n, .string (t.extract 0 400)] := by
      have := Blk.new (w.alloc (.cells #[.int .i64 k, .string n, .string (t.extract 0 400)] 31)) 31 #[.int .i64 k, .string n, .string (t.extract 0 400)]
      simpa using this
    have r0 := B2.cell 0
    have r1 := B2.cell 1
    have r2 := B2.cell 2
    refine bodyPost_ret (v := .agg #[.int .i64 k, .string n, .string (t.extract 0 400)]) (by simp [results, Try.results9, go_sem, r0, r1, r2]) rfl ⟨rfl, ?_⟩
    exact ((Below.refl _ _).alloc (Nat.le_refl _) _).alloc (by simp) _
  · have hc : cut400 t = t := by unfold cut400; rw [if_neg h4]
    rw [hc]
    have h5 : (t.size : Int) ≤ 400 := by omega
    clear hc
    go_enter Try.func9, Try.ntmps9
    go_wp2
    have B2 : Blk ((w.alloc (.cells #[.int .i64 k, .string n, .string t] 31)).alloc (.cells #[.int .i64 k, .string n, .string t] 31)) (w.heap.size + 1) 31 #[.int .i64 k, .string n, .string t] := by
      have := Blk.new (w.alloc (.cells #[.int .i64 k, .string n, .string t] 31)) 31 #[.int .i64 k, .string n, .string t]
      simpa using this
    have r0 := B2.cell 0
    have r1 := B2.cell 1
    have r2 := B2.cell 2
    refine bodyPost_ret (v := .agg #[.int .i64 k, .string n, .string t]) (by simp [results, Try.results9, go_sem, r0, r1, r2]) rfl ⟨rfl, ?_⟩
    exact ((Below.refl _ _).alloc (Nat.le_refl _) _).alloc (by simp) _

/-- The deed, in its own place. -/
def X13 (w : World) (b : Nat) (k : Int) (n t : ByteArray) : Prop := Blk w b 31 #[.int .i64 k, .string n, .string t]
theorem X13.c1 {w : World} {b : Nat} {k : Int} {n t : ByteArray} (h : X13 w b k n t) : w.cell? ⟨b, 1, none⟩ = some (.string n) := Blk.cell h 1
theorem X13.c2 {w : World} {b : Nat} {k : Int} {n t : ByteArray} (h : X13 w b k n t) : w.cell? ⟨b, 2, none⟩ = some (.string t) := Blk.cell h 2
theorem X13.t2 {w w' : World} {b e mb : Nat} {k : Int} {n t : ByteArray} (h : X13 w b k n t) (ht : T2 e mb w w') (he : b ≠ e) (hm : b ≠ mb) : X13 w' b k n t := (ht.block b (Blk.lt h) he hm).trans h
theorem X13.tr {w w' : World} {base b : Nat} {k : Int} {n t : ByteArray} (h : X13 w b k n t) (ht : TR base w w') : X13 w' b k n t := ht.block b _ h (.inr (by simp [rKind]))
theorem X13.drew {w : World} {b : Nat} {k : Int} {n t : ByteArray} (h : X13 w b k n t) : X13 w.drew b k n t := h
theorem REAt.drew {w : World} {base h : Nat} {L : EnL} {told : Nat} (hr : REAt w base h L told) : REAt w.drew base h L told := hr.below (below_drew (Below.refl _ _))
/-- What a deed leaves. -/
def Does13 (w : World) (base e mb h : Nat) (x : Ending) (w' : World) : Prop := x = .returned (.bool true) ∧ Below base w w' ∧ ∃ L told, EAt w' e mb L told ∧ REAt w' base h L told

set_option maxHeartbeats 4000000 in
theorem does13_any (w : World) (base e mb h : Nat) (L : EnL) (told : Nat) (k : Int) (n t : ByteArray) (hs : EAt w e mb L told) (hr : REAt w base h L told) (he : base ≤ e) (hm : base ≤ mb) (k0 : -9223372036854775808 ≤ k) (k1 : k ≤ 9223372036854775807) (hn : n.size ≤ 140737488355328) (ht : t.size ≤ 400) :
    Calls Try.prog 8 #[.pointer (some ⟨e, 0, none⟩), .pointer (some ⟨h, 0, none⟩), .agg #[.int .i64 k, .string n, .string t]] w (Does13 w base e mb h) := by
  have hbw : base ≤ w.heap.size := Nat.le_trans he (Nat.le_of_lt hs.blk.lt)
  have ha : Below w.heap.size w (w.alloc (.cells #[.int .i64 k, .string n, .string t] 31)) := (Below.refl _ _).alloc (Nat.le_refl _) _
  have ne1 : w.heap.size ≠ e := by have := hs.blk.lt; omega
  have ne2 : w.heap.size ≠ mb := by have := hs.map.lt; omega
  have hs1 := hs.below ha
  have hr1 := hr.below ha
  have hx1 : X13 (w.alloc (.cells #[.int .i64 k, .string n, .string t] 31)) w.heap.size k n t := Blk.new w _ _
  have hb1 : Below base w (w.alloc (.cells #[.int .i64 k, .string n, .string t] 31)) := (Below.refl base w).alloc hbw _
  have hp3 : 0 ≤ pick13 k ∧ pick13 k < 3 := by unfold pick13; omega
  have ht1 : t.size ≤ 140737488355328 := by omega
  have ht2 : t.size ≤ 1099511627776 := by omega
  have ht3 : t.size ≤ 100000000 := by omega
  clear ha hs hr
  by_cases c0 : pick13 k = 0
  · have HC := Lib.hid c0
    clear c0 hp3
    go_enter Try.func8, Try.ntmps8
    go_wp2_with (first
      | (go_at_call 18; refine (pick13_any k _ k0 k1).mono ?_; rw [HC.out]; rintro x w' ⟨rfl, rfl⟩))
    go_region_held3 (fun w' => w'.cell? ⟨w.heap.size, 1, none⟩ = some (.string n) ∧ w'.cell? ⟨w.heap.size, 2, none⟩ = some (.string t))
      (first
        | exact ⟨hx1.c1, hx1.c2⟩
        | exact ⟨hx2.c1, hx2.c2⟩
        | exact ⟨hx3.c1, hx3.c2⟩
        | go_keep)
      (first
        | (go_at_call 15; refine (edefine_any _ e mb L told n t hs1.drew hn ht1).mono ?_; rintro x w2 ⟨rfl, hs2, t2⟩; have hr2 := hr1.drew.t2 hs1.drew t2; have hx2 := hx1.drew.t2 t2 ne1 ne2; have hb2 := (below_drew hb1).trans (t2.below (Nat.le_trans hbw hb1.size) he hm))
        | (go_at_call 19; refine (rdefineE_any _ base h L told n t hr2 hn ht2).mono ?_; rintro x w3 ⟨rfl, hr3, t3⟩; have hs3 := hs2.tr t3; have hx3 := hx2.tr t3; have hb3 := hb2.trans (t3.below (Nat.le_trans hbw hb2.size))))
    go_wp2
    go_ret
    exact ⟨rfl, hb3, _, _, hs3, hr3⟩
  by_cases c1 : pick13 k = 1
  · have HC := Lib.hid c1
    clear c0 c1 hp3
    have y1 := hx1.c1
    go_enter Try.func8, Try.ntmps8
    go_wp2_with (first
      | (go_at_call 18; refine (pick13_any k _ k0 k1).mono ?_; rw [HC.out]; rintro x w' ⟨rfl, rfl⟩)
      | (go_at_call 16; refine (eget_any _ e mb L told n hs1 hn).mono ?_; rintro x w2 ⟨rfl, hs2, t2⟩; have hr2 := hr1.t2 hs1 t2; have hx2 := hx1.t2 t2 ne1 ne2; have y2 := hx2.c1; have hb2 := hb1.trans (t2.below (Nat.le_trans hbw hb1.size) he hm))
      | (go_at_call 20; refine (rgetE_any _ base h L told n hr2 hn).mono ?_; rintro x w3 ⟨rfl, hr3, t3⟩; have hs3 := hs2.tr t3; have hb3 := hb2.trans (t3.below (Nat.le_trans hbw hb2.size))))
    go_ret
    exact ⟨rfl, hb3, _, _, hs3, hr3⟩
  · obtain ⟨K, hK⟩ : ∃ K, pick13 k = K := ⟨_, rfl⟩
    have HC := Lib.hid hK
    rw [hK] at c0 c1
    have d0 : (K == 0) = false := beq_eq_false_iff_ne.2 c0
    have d1 : (K == 1) = false := beq_eq_false_iff_ne.2 c1
    clear hp3 hK
    have y1 := hx1.c2
    go_enter Try.func8, Try.ntmps8
    go_wp2_with (first
      | (go_at_call 18; refine (pick13_any k _ k0 k1).mono ?_; rw [HC.out]; rintro x w' ⟨rfl, rfl⟩)
      | (go_at_call 14; refine (efill_any _ e mb L told t hs1 ht3).mono ?_; rintro x w2 ⟨rfl, hs2, t2⟩; have hr2 := hr1.t2 hs1 t2; have hx2 := hx1.t2 t2 ne1 ne2; have y2 := hx2.c2; have hb2 := hb1.trans (t2.below (Nat.le_trans hbw hb1.size) he hm))
      | (go_at_call 21; refine (rfillE_any _ base h L told t hr2 ht3).mono ?_; rintro x w3 ⟨rfl, hr3, t3⟩; have hs3 := hs2.tr t3; have hb3 := hb2.trans (t3.below (Nat.le_trans hbw hb2.size))))
    go_ret
    exact ⟨rfl, hb3, _, _, hs3, hr3⟩
end Go.Proofs.Ytmbjeagmnjkemaa

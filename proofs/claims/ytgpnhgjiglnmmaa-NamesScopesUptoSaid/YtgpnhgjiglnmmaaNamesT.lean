/-
  The law's does: one deed, of both.
-/
import Derived.Test.YtgpnhgjiglnmmaaNamesQ
import Derived.Test.YtgpnhgjiglnmmaaNamesO
import Derived.Deep.RegionHeld3
namespace Go.Proofs.Ytgpnhgjiglnmmaa
open Go.RowKit Go.Maps
set_option maxRecDepth 100000

def doS (k : Int) (p s : List UInt8) (st : St) : St := if k = 0 then [] :: st else if k = 1 then bindS p s st else if k = 2 then closeS st else st

theorem RAt.of_s {w w' : World} {base h : Nat} {st : St} (hr : RAt w base h st) (ht : Tch base sObj w w') : RAt w' base h st :=
  hr.tch ht fun cs t fr h hc => by
    simp only [sObj] at hc
    rcases h with rfl | rfl <;> rcases hc with hc | hc <;> exact absurd hc (by decide)
theorem SAt.of_r {w w' : World} {base g : Nat} {st : St} (hs : SAt w base g st) (ht : Tch base rObj w w') : SAt w' base g st :=
  hs.tch ht (fun cs t fr h hc => by simp only [rObj] at hc; rcases h with rfl | rfl <;> rcases hc with hc | hc <;> exact absurd hc (by decide)) (fun _ _ hc => hc)
theorem SAt.drew {w : World} {base g : Nat} {st : St} (hs : SAt w base g st) : SAt w.drew base g st := hs.below (below_drew (Below.refl _ _))
theorem RAt.drew {w : World} {base h : Nat} {st : St} (hr : RAt w base h st) : RAt w.drew base h st := hr.below (below_drew (Below.refl _ _))
/-- The deed, in its own place. -/
def XAt (w : World) (b : Nat) (k : Int) (p s : ByteArray) : Prop := Blk w b 38 #[.int .i64 k, .string p, .string s]
theorem XAt.of_s {w w' : World} {base b : Nat} {k : Int} {p s : ByteArray} (hx : XAt w b k p s) (ht : Tch base sObj w w') : XAt w' b k p s :=
  Blk.tch hx ht (.inr (by simp only [sObj]; decide))
theorem XAt.of_r {w w' : World} {base b : Nat} {k : Int} {p s : ByteArray} (hx : XAt w b k p s) (ht : Tch base rObj w w') : XAt w' b k p s :=
  Blk.tch hx ht (.inr (by simp only [rObj]; decide))
theorem XAt.below {w w' : World} {b : Nat} {k : Int} {p s : ByteArray} (hx : XAt w b k p s) (hb : Below w.heap.size w w') : XAt w' b k p s := Blk.below hx hb (Blk.lt hx)
theorem XAt.drew {w : World} {b : Nat} {k : Int} {p s : ByteArray} (hx : XAt w b k p s) : XAt w.drew b k p s := hx
theorem XAt.c1 {w : World} {b : Nat} {k : Int} {p s : ByteArray} (hx : XAt w b k p s) : w.cell? ⟨b, 1, none⟩ = some (.string p) := Blk.cell hx 1
theorem XAt.c2 {w : World} {b : Nat} {k : Int} {p s : ByteArray} (hx : XAt w b k p s) : w.cell? ⟨b, 2, none⟩ = some (.string s) := Blk.cell hx 2
theorem spaceEnd_ex (p : List UInt8) (st : St) : ∃ X f, SpaceEnd p st = .returned (.tuple #[.string X, .bool f]) := by
  unfold SpaceEnd
  cases spaceS p st with
  | none => exact ⟨_, _, rfl⟩
  | some s => exact ⟨_, _, rfl⟩

theorem ropen_done {w : World} {base h : Nat} {st : St} (hr : RAt w base h st) : RAt (w.setCell ⟨h, 1, none⟩ (.int .i64 ((st.length : Int) + 1))) base h ([] :: st) ∧ Tch base rObj w (w.setCell ⟨h, 1, none⟩ (.int .i64 ((st.length : Int) + 1))) := by
  obtain ⟨A, cap, hg, hk, ho⟩ := hr
  refine ⟨⟨A, cap, hg, ?_, ?_⟩, (Tch.refl _ _ _).set hk hg (.inl rfl) 1 _⟩
  · rw [refL_open, show (((([] : Sc) :: st).length : Nat) : Int) = (st.length : Int) + 1 from by simp]
    exact hk.set_ 1 _
  · rw [refL_open]
    refine World.ownsRow.kept (row := some h) ho (only_setCell (p := ⟨h, 1, none⟩) (World.grownBy.refl _ (some h)) (.inl rfl) _) (.inr ?_)
    intro e
    obtain ⟨cur, hcur⟩ := row_obj ho e
    rw [hk] at hcur
    cases hcur

/-- What a deed leaves. -/
def DoesPost (w : World) (base g h : Nat) (st' : St) (e : Ending) (w' : World) : Prop := e = .returned (.bool true) ∧ SAt w' base g st' ∧ RAt w' base h st' ∧ Below base w w'

set_option maxHeartbeats 4000000 in
theorem does_any (w : World) (base g h : Nat) (st : St) (k : Int) (p s : ByteArray) (hs : SAt w base g st) (hr : RAt w base h st) (k0 : -9223372036854775808 ≤ k) (k1 : k ≤ 9223372036854775807) (hp : p.size ≤ 1048576) (hm : s.size ≤ 1048576)
    (hn : ((refL st).length + 1) * 40 ≤ 140737488355328) (hn8 : (st.length + 1) * 8 ≤ 140737488355328) :
    Calls Try.prog 19 #[.pointer (some ⟨g, 0, none⟩), .pointer (some ⟨h, 0, none⟩), .agg #[.int .i64 k, .string p, .string s]] w (DoesPost w base g h (doS (pickI k) p.data.toList s.data.toList st)) := by
  have hbw : base ≤ w.heap.size := Nat.le_trans hs.base (Nat.le_of_lt hs.lt)
  have ha : Below w.heap.size w (w.alloc (.cells #[.int .i64 k, .string p, .string s] 38)) := (Below.refl _ _).alloc (Nat.le_refl _) _
  have hs1 := hs.below ha
  have hr1 := hr.below ha
  have hx1 : XAt (w.alloc (.cells #[.int .i64 k, .string p, .string s] 38)) w.heap.size k p s := Blk.new w _ _
  have hb1 : Below base w (w.alloc (.cells #[.int .i64 k, .string p, .string s] 38)) := (Below.refl base w).alloc hbw _
  have hp4 : 0 ≤ pickI k ∧ pickI k < 4 := by unfold pickI; omega
  obtain ⟨X, f, hE⟩ := spaceEnd_ex p.data.toList (doS (pickI k) p.data.toList s.data.toList st)
  have HE := Lib.hid hE
  clear hE ha hs hr
  by_cases c1 : pickI k = 1
  · have hd : doS (pickI k) p.data.toList s.data.toList st = bindS p.data.toList s.data.toList st := by unfold doS; rw [if_neg (by omega), if_pos c1]
    rw [hd]
    have HD := Lib.hid hd
    have HC := Lib.hid c1
    clear hd c1 hp4
    go_enter Try.func19, Try.ntmps19
    go_wp2_with (first
      | (go_at_call 35; refine (pick_any k _ k0 k1).mono ?_; rw [HC.out]; rintro e w' ⟨rfl, rfl⟩))
    go_region_held3 (fun w' => w'.cell? ⟨w.heap.size, 1, none⟩ = some (.string p) ∧ w'.cell? ⟨w.heap.size, 2, none⟩ = some (.string s))
      (first
        | exact ⟨hx1.c1, hx1.c2⟩
        | exact ⟨hx2.c1, hx2.c2⟩
        | exact ⟨hx3.c1, hx3.c2⟩
        | go_keep)
      (first
        | (go_at_call 22; refine (bind_any _ base g st p s hs1.drew (by omega) (by omega)).mono ?_; rintro e w2 ⟨rfl, hs2, ht2⟩; have hr2 := hr1.drew.of_s ht2; have hx2 := hx1.drew.of_s ht2; have hb2 := (below_drew hb1).trans (ht2.below (by simp; omega)))
        | (go_at_call 36; refine (rbind_any _ base h st p s hr2 (by omega) (by omega) hn).mono ?_; rintro e w3 ⟨rfl, hr3, ht3⟩; have hs3 := hs2.of_r ht3; have hx3 := hx2.of_r ht3; have hb3 := hb2.trans (ht3.below (by have := hs2.lt; have := hs2.base; omega))))
    go_wp2
    go_ret
    exact ⟨rfl, hs3, hr3, hb3⟩
  by_cases c2 : pickI k = 2
  · have hd : doS (pickI k) p.data.toList s.data.toList st = closeS st := by unfold doS; rw [if_neg (by omega), if_neg (by omega), if_pos c2]
    rw [hd]
    have HC := Lib.hid c2
    clear hd c1 c2 hp4 HE
    go_enter Try.func19, Try.ntmps19
    go_wp2_with (first
      | (go_at_call 35; refine (pick_any k _ k0 k1).mono ?_; rw [HC.out]; rintro e w' ⟨rfl, rfl⟩)
      | (go_at_call 23; refine (close_any _ base g st hs1).mono ?_; rintro e w2 ⟨rfl, hs2, ht2⟩; have hr2 := hr1.of_s ht2; have hb2 := hb1.trans (ht2.below (by simp; omega)))
      | (go_at_call 37; refine (rclose_any _ base h st hr2 hn (by omega)).mono ?_; rintro e w3 ⟨rfl, hr3, ht3⟩; have hs3 := hs2.of_r ht3; have hb3 := hb2.trans (ht3.below (by have := hs2.lt; have := hs2.base; omega))))
    go_ret
    exact ⟨rfl, hs3, hr3, hb3⟩
  by_cases c0 : pickI k = 0
  · have hd : doS (pickI k) p.data.toList s.data.toList st = [] :: st := by unfold doS; rw [if_pos c0]
    rw [hd] at HE
    rw [hd]
    have HC := Lib.hid c0
    clear hd c1 c2 hp4 c0
    go_enter Try.func19, Try.ntmps19
    go_wp2_with (first
      | (go_at_call 35; refine (pick_any k _ k0 k1).mono ?_; rw [HC.out]; rintro e w' ⟨rfl, rfl⟩)
      | (go_at_call 21; refine (open_any _ base g st hs1 hn8).mono ?_; rintro e w2 ⟨rfl, hs2, ht2⟩; have hr2 := hr1.of_s ht2; have hx2 := hx1.of_s ht2; have hb2 := hb1.trans (ht2.below (by simp; omega)); obtain ⟨hr4, T4⟩ := ropen_done hr2; have hs4 := hs2.of_r T4; have hx4 := hx2.of_r T4; have y4 := hx4.c1; have hb4 := hb2.trans (T4.below (by have := hs2.lt; have := hs2.base; omega)); obtain ⟨A, cap, hg, hk, ho⟩ := hr2; have e1 : w2.cell? ⟨h, 1, none⟩ = some (.int .i64 st.length) := hk.cell 1; have f1 := hk.frozen 1; have l1 := hk.lt)
      | (go_at_call 20; refine (sspace_any _ base g _ p (by omega) hs4).mono ?_; rw [HE.out]; rintro e w5 ⟨rfl, hb5⟩; have hs5 := hs4.below hb5; have hr5 := hr4.below hb5; have hx5 := hx4.below hb5; have y5 := hx5.c1; have hb6 := hb4.trans (hb5.mono (by have := hs4.lt; have := hs4.base; omega)))
      | (go_at_call 24; refine (rspaceS_any _ base h _ p hr5).mono ?_; rw [HE.out]; rintro e w7 ⟨rfl, rfl⟩))
    go_ret
    exact ⟨rfl, hs5, hr5, hb6⟩
  · have hd : doS (pickI k) p.data.toList s.data.toList st = st := by unfold doS; rw [if_neg c0, if_neg c1, if_neg c2]
    rw [hd] at HE
    rw [hd]
    obtain ⟨K, hK⟩ : ∃ K, pickI k = K := ⟨_, rfl⟩
    have HC := Lib.hid hK
    rw [hK] at c0 c1 c2
    have d0 : (K == 0) = false := beq_eq_false_iff_ne.2 c0
    have d1 : (K == 1) = false := beq_eq_false_iff_ne.2 c1
    have d2 : (K == 2) = false := beq_eq_false_iff_ne.2 c2
    have y1 := hx1.c1
    clear hd hp4 hK
    go_enter Try.func19, Try.ntmps19
    go_wp2_with (first
      | (go_at_call 35; refine (pick_any k _ k0 k1).mono ?_; rw [HC.out]; rintro e w' ⟨rfl, rfl⟩)
      | (go_at_call 20; refine (sspace_any _ base g st p (by omega) hs1).mono ?_; rw [HE.out]; rintro e w2 ⟨rfl, hb2⟩; have hs2 := hs1.below hb2; have hr2 := hr1.below hb2; have hx2 := hx1.below hb2; have y2 := hx2.c1; have hb3 := hb1.trans (hb2.mono (by simp; omega)))
      | (go_at_call 24; refine (rspaceS_any _ base h st p hr2).mono ?_; rw [HE.out]; rintro e w3 ⟨rfl, rfl⟩))
    go_ret
    exact ⟨rfl, hs2, hr2, hb3⟩
end Go.Proofs.Ytgpnhgjiglnmmaa

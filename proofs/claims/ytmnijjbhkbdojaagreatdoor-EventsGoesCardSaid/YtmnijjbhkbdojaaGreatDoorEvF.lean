/-
  events: add, where a key is kept.
-/
import Derived.Test.YtmnijjbhkbdojaaGreatDoorEvE
import Derived.Deep.RegionHeld3
import Derived.WalkSpells
namespace Go.Proofs.YtmnijjbhkbdojaaGreatDoor
open Go.RowKit Go.Maps
set_option maxRecDepth 100000

set_option maxHeartbeats 4000000 in
theorem add_kept (w : World) (base g rb cap : Nat) (q : PQ) (r : List PQ) (k : ByteArray) (h : CRep w base g rb cap (q :: r)) (hs : k.size ≤ 140737488355328) (hE : addE q.p.keys k.data.toList = 0) :
    Calls Tryz.prog 22 #[.pointer (some ⟨rb, r.length * 3, none⟩), .string k] w (APost w base g rb cap q r k.data.toList) := by
  have hK : addK q.p.keys k.data.toList = k.data.toList :: q.p.keys := by unfold addK; rw [if_pos hE]
  unfold APost
  rw [hK, hE]
  have hm : k.data.toList ∉ q.p.keys := by
    intro hc; unfold addE at hE; rw [if_pos hc] at hE; exact absurd hE (by decide)
  have h10 : q.p.keys.length < 10 := by
    unfold addE at hE; rw [if_neg hm] at hE; split at hE
    · exact absurd hE (by decide)
    · omega
  have hF : CRep (w.alloc (.cells #[] 53)) base g rb cap (⟨q.p, q.m⟩ :: r) := h.alloc _
  have T := (Tch.refl base cObj w).alloc (.cells #[] 53)
  have hkeys := h.maps.2.1
  have hkeys1 := hF.maps.2.1
  have c2 := h.c2
  have c2' := hF.c2
  have hlr := h.rb_lt
  have HD := Lib.hid (decide_eq_false hm)
  have HM := Lib.hid hm
  have hbase : base ≤ (w.alloc (.cells #[] 53)).heap.size := by have := h.hg; have := h.lt; simp; omega
  clear h hK hE hm
  obtain ⟨p, m⟩ := q
  simp only at hkeys hkeys1 c2 c2' hF h10 HD HM ⊢
  have hmm := @run_makeMap Tryz.prog
  have hq : ∀ (w : World) (r : Option Nat), (binOp .eql 38 (.map r) (.map none)).run Tryz.prog w = .ok (.bool r.isNone) w := fun w r => run_eql_map_nil w _ _ _ r Tryz.underlying38
  cases m with
  | none =>
    have hA := hF.alloc (.map #[] 0)
    obtain ⟨hM, TM⟩ := hF.mapped (show p.keys = [] from hkeys) hbase
    have TM2 := T.trans TM
    rw [World.setCell_alloc_past _ _ _ _ (by simp; omega), World.setCell_alloc_past _ _ _ _ hlr, World.size_alloc] at hM TM2
    have ca := hA.c2
    have hfz := hA.frz (r.length * 3 + 2)
    have hmc := hM.drew.c2
    have hsk : k.size ≤ maxLen := by simp only [maxLen]; omega
    have hlk : p.keys.length < maxLen := by simp only [maxLen]; omega
    clear T TM hbase hA hF
    go_enter Tryz.func22, Tryz.ntmps22
    go_wp2_with (first
      | (at_lookup; refine wp_lookK hkeys rfl _ _ rfl k hs rfl rfl ?_; rw [HD.out])
      | (at_len; refine wp_lenK hkeys1 rfl _ rfl rfl ?_))
    go_region_with (first
      | (go_at_call 32; refine (clone_any k _ (by exact hs)).mono ?_; rintro e w5 ⟨rfl, hb5⟩; have hM5 := hM.drew.below hb5; have c5 := hM5.c2; obtain ⟨w6, hr6, hs6, hg6⟩ := SetAt.put (b := w.heap.size + 1) (show SetAt w5 (w.heap.size + 1) p.keys from hM5.maps.2.1) hsk hlk HM.out))
    all_goals
      go_wp2
      go_ret
      obtain ⟨r1, r2⟩ := hM5.keyed rfl hg6 hs6
      exact ⟨rfl, ⟨_, r1⟩, (TM2.trans (Tch.of_below (below_drew (Below.refl _ _)))).trans ((Tch.of_below hb5).trans r2)⟩
  | some b =>
    have hmc := hF.drew.c2
    have hsk : k.size ≤ maxLen := by simp only [maxLen]; omega
    have hlk : p.keys.length < maxLen := by simp only [maxLen]; omega
    go_enter Tryz.func22, Tryz.ntmps22
    go_wp2_with (first
      | (at_lookup; refine wp_lookK hkeys rfl _ _ rfl k hs rfl rfl ?_; rw [HD.out])
      | (at_len; refine wp_lenK hkeys1 rfl _ rfl rfl ?_))
    go_region_with (first
      | (go_at_call 32; refine (clone_any k _ (by exact hs)).mono ?_; rintro e w5 ⟨rfl, hb5⟩; have hM5 := hF.drew.below hb5; have c5 := hM5.c2; obtain ⟨w6, hr6, hs6, hg6⟩ := SetAt.put (show SetAt w5 _ p.keys from hM5.maps.2.1) hsk hlk HM.out))
    all_goals
      go_wp2
      go_ret
      obtain ⟨r1, r2⟩ := hM5.keyed rfl hg6 hs6
      exact ⟨rfl, ⟨_, r1⟩, (T.trans (Tch.of_below (below_drew (Below.refl _ _)))).trans ((Tch.of_below hb5).trans r2)⟩

theorem add_any (w : World) (base g rb cap : Nat) (q : PQ) (r : List PQ) (k : ByteArray) (h : CRep w base g rb cap (q :: r)) (hs : k.size ≤ 140737488355328) :
    Calls Tryz.prog 22 #[.pointer (some ⟨rb, r.length * 3, none⟩), .string k] w (APost w base g rb cap q r k.data.toList) := by
  by_cases hE : addE q.p.keys k.data.toList = 0
  · exact add_kept w base g rb cap q r k h hs hE
  · exact add_refused w base g rb cap q r k h hs hE
end Go.Proofs.YtmnijjbhkbdojaaGreatDoor

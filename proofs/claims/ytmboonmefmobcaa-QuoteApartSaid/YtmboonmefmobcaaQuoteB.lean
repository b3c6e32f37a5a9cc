/-
  quote: New, denoted, add, Text, endEscape: a Quote is a block of four cells, and what was said lies in a row of its own.
-/
import Derived.Test.YtmboonmefmobcaaQuoteA
namespace Go.Proofs.Ytmboonmefmobcaa
open Go.RowKit Go.Maps
set_option maxRecDepth 100000

/-- The Quote at block g: what was said, what may be next, the digits and their number. -/
def QRaw (w : World) (g : Nat) (xs : List UInt8) (st d n : Int) : Prop :=
  ∃ v, Blk w g 41 #[v, .int .i64 st, .int .i64 d, .int .i64 n] ∧ ORow w (g + 1) 5 v (xs.map bV)
def QAt (w : World) (g : Nat) (q : QS) : Prop := ∃ d n, QRaw w g q.xs q.st d n ∧ (q.st = 2 → d = q.d ∧ n = q.n)

theorem QRaw.lt {w : World} {g : Nat} {xs : List UInt8} {st d n : Int} (h : QRaw w g xs st d n) : g < w.heap.size := by obtain ⟨v, hb, _⟩ := h; exact hb.lt
theorem QAt.lt {w : World} {g : Nat} {q : QS} (h : QAt w g q) : g < w.heap.size := by obtain ⟨_, _, h, _⟩ := h; exact h.lt
theorem QRaw.below {w w' : World} {g : Nat} {xs : List UInt8} {st d n : Int} (h : QRaw w g xs st d n) (hb : Below w.heap.size w w') : QRaw w' g xs st d n := by
  obtain ⟨v, hk, ho⟩ := h
  exact ⟨v, hk.below hb hk.lt, ho.below hb (fun g' hg => (World.ownsRow.lt ho g' hg).2)⟩
theorem QAt.below {w w' : World} {g : Nat} {q : QS} (h : QAt w g q) (hb : Below w.heap.size w w') : QAt w' g q := by
  obtain ⟨d, n, h, h'⟩ := h
  exact ⟨d, n, h.below hb, h'⟩
theorem QRaw.set {w : World} {g : Nat} {xs : List UInt8} {st d n : Int} (h : QRaw w g xs st d n) (st' : Int) : QRaw (w.setCell ⟨g, 1, none⟩ (.int .i64 st')) g xs st' d n := by
  obtain ⟨v, hk, ho⟩ := h
  exact ⟨v, hk.set_ 1 _, ho.set_far (by simp) _⟩
theorem QRaw.set2 {w : World} {g : Nat} {xs : List UInt8} {st d n : Int} (h : QRaw w g xs st d n) (d' : Int) : QRaw (w.setCell ⟨g, 2, none⟩ (.int .i64 d')) g xs st d' n := by
  obtain ⟨v, hk, ho⟩ := h
  exact ⟨v, hk.set_ 2 _, ho.set_far (by simp) _⟩
theorem QRaw.set3 {w : World} {g : Nat} {xs : List UInt8} {st d n : Int} (h : QRaw w g xs st d n) (n' : Int) : QRaw (w.setCell ⟨g, 3, none⟩ (.int .i64 n')) g xs st d n' := by
  obtain ⟨v, hk, ho⟩ := h
  exact ⟨v, hk.set_ 3 _, ho.set_far (by simp) _⟩

theorem qnew_any (w : World) : Calls Try.prog 13 #[] w fun e w' => e = .returned (.pointer (some ⟨w.heap.size, 0, none⟩)) ∧ QAt w' w.heap.size (plainQ []) ∧ Below w.heap.size w w' := by
  go_enter Try.func13, Try.ntmps13
  go_wp2
  go_ret
  exact ⟨rfl, ⟨0, 0, ⟨_, Blk.new w _ _, ORow.nil _ _ _⟩, fun h => by cases h⟩, (Below.refl _ _).alloc (Nat.le_refl _) _⟩

theorem den_any (w : World) : Calls Try.prog 24 #[] w fun e w' => ∃ B, e = .returned (.map (some B)) ∧ w'.ownsMap Try.prog 5 (plainElem Try.prog 5) B 8 denD ∧ Below w.heap.size w w' := by
  have hmm := @run_makeMap Try.prog
  have hown0 := World.ownsMap_made (H := Unit) w Try.prog 5 (plainElem Try.prog 5)
  go_enter Try.func24, Try.ntmps24
  go_wp2
  obtain ⟨w1, hrun, hown1, hg1⟩ := hown0.update (t := 57) (key := .int .u8 34) (val := .int .u8 34) keyLaw Try.underlying57 (by simp [maxLen]) (keyOf_int_mk Try.underlying5 (by decide)) (plainElem_int Try.underlying5 (by decide))
  rw [hrun]
  clear hrun
  go_wp2
  obtain ⟨w2, hrun, hown2, hg2⟩ := hown1.update (t := 57) (key := .int .u8 92) (val := .int .u8 92) keyLaw Try.underlying57 (by simp [maxLen]) (keyOf_int_mk Try.underlying5 (by decide)) (plainElem_int Try.underlying5 (by decide))
  rw [hrun]
  clear hrun
  go_wp2
  obtain ⟨w3, hrun, hown3, hg3⟩ := hown2.update (t := 57) (key := .int .u8 47) (val := .int .u8 47) keyLaw Try.underlying57 (by simp [maxLen]) (keyOf_int_mk Try.underlying5 (by decide)) (plainElem_int Try.underlying5 (by decide))
  rw [hrun]
  clear hrun
  go_wp2
  obtain ⟨w4, hrun, hown4, hg4⟩ := hown3.update (t := 57) (key := .int .u8 110) (val := .int .u8 10) keyLaw Try.underlying57 (by simp [maxLen]) (keyOf_int_mk Try.underlying5 (by decide)) (plainElem_int Try.underlying5 (by decide))
  rw [hrun]
  clear hrun
  go_wp2
  obtain ⟨w5, hrun, hown5, hg5⟩ := hown4.update (t := 57) (key := .int .u8 116) (val := .int .u8 9) keyLaw Try.underlying57 (by simp [maxLen]) (keyOf_int_mk Try.underlying5 (by decide)) (plainElem_int Try.underlying5 (by decide))
  rw [hrun]
  clear hrun
  go_wp2
  obtain ⟨w6, hrun, hown6, hg6⟩ := hown5.update (t := 57) (key := .int .u8 114) (val := .int .u8 13) keyLaw Try.underlying57 (by simp [maxLen]) (keyOf_int_mk Try.underlying5 (by decide)) (plainElem_int Try.underlying5 (by decide))
  rw [hrun]
  clear hrun
  go_wp2
  obtain ⟨w7, hrun, hown7, hg7⟩ := hown6.update (t := 57) (key := .int .u8 98) (val := .int .u8 8) keyLaw Try.underlying57 (by simp [maxLen]) (keyOf_int_mk Try.underlying5 (by decide)) (plainElem_int Try.underlying5 (by decide))
  rw [hrun]
  clear hrun
  go_wp2
  obtain ⟨w8, hrun, hown8, hg8⟩ := hown7.update (t := 57) (key := .int .u8 102) (val := .int .u8 12) keyLaw Try.underlying57 (by simp [maxLen]) (keyOf_int_mk Try.underlying5 (by decide)) (plainElem_int Try.underlying5 (by decide))
  rw [hrun]
  clear hrun
  go_wp2
  go_ret
  refine ⟨_, rfl, hown8, ?_⟩
  have h0 : Below w.heap.size w (w.alloc (.map #[] 0)) := (Below.refl _ _).alloc (Nat.le_refl _) _
  have hs : w.heap.size ≤ w.heap.size := Nat.le_refl _
  have h1 := below_only h0 hg1 h0.size hs
  have h2 := below_only h1 hg2 h1.size hs
  have h3 := below_only h2 hg3 h2.size hs
  have h4 := below_only h3 hg4 h3.size hs
  have h5 := below_only h4 hg5 h4.size hs
  have h6 := below_only h5 hg6 h5.size hs
  have h7 := below_only h6 hg7 h6.size hs
  exact below_only h7 hg8 h7.size hs

theorem text_any (w : World) (g : Nat) (xs : List UInt8) (st d n : Int) (hq : QRaw w g xs st d n) :
    Calls Try.prog 15 #[.pointer (some ⟨g, 0, none⟩)] w fun e w' => e = .returned (.string ⟨xs.toArray⟩) ∧ w = w' := by
  obtain ⟨v, hk, ho⟩ := hq
  have hc : w.cell? ⟨g, 0, none⟩ = some v := hk.cell 0
  have hstr := put_str _ ho
  go_enter Try.func15, Try.ntmps15
  go_wp2
  first | rw [hstr] | skip
  go_wp2
  go_ret
  exact ⟨rfl, rfl⟩

def addE (xs ch : List UInt8) : Int := if 48 < xs.length + ch.length then 4 else 0
def addX (xs ch : List UInt8) : List UInt8 := if 48 < xs.length + ch.length then xs else xs ++ ch

theorem add_any (w : World) (g : Nat) (xs : List UInt8) (st d n : Int) (hq : QRaw w g xs st d n) (hl : xs.length ≤ 48) (A : Addr) (ch : List UInt8) (c : Nat) (h4 : ch.length ≤ 4)
    (hc : ∀ j u, (ch.map bV)[j]? = some u → w.cell? (A.add j) = some u) :
    Calls Try.prog 22 #[.pointer (some ⟨g, 0, none⟩), .slice (some A) ch.length c] w fun e w' => e = .returned (.int .i64 (addE xs ch)) ∧ QRaw w' g (addX xs ch) st d n ∧ Below g w w' := by
  by_cases hov : 48 < xs.length + ch.length
  · unfold addE addX
    rw [if_pos hov, if_pos hov]
    have hq' := hq
    obtain ⟨v, hk, ho⟩ := hq'
    obtain ⟨A', cap, rfl⟩ := ho.shape
    have hc0 : w.cell? ⟨g, 0, none⟩ = some (.slice A' (xs.map bV).length cap) := hk.cell 0
    rw [List.length_map] at hc0
    clear hk ho
    go_enter Try.func22, Try.ntmps22
    go_wp2
    go_ret
    exact ⟨rfl, hq, Below.refl _ _⟩
  · unfold addE addX
    rw [if_neg hov, if_neg hov]
    obtain ⟨v, hk, ho⟩ := hq
    have ho' := ho
    obtain ⟨A', cap, hv⟩ := ho'.shape
    subst hv
    clear ho'
    have hc0 : w.cell? ⟨g, 0, none⟩ = some (.slice A' xs.length cap) := by have := hk.cell 0; simpa using this
    have hlt := hk.lt
    have hvs : (Value.slice A' (xs.map bV).length cap) = .slice A' xs.length cap := by rw [List.length_map]
    rw [hvs] at ho hk
    go_enter Try.func22, Try.ntmps22
    go_wp2_with (first
      | (at_builtin; refine wp_appS rfl _ _ 30 rfl (g + 1) 5 (.int .u8 0) 1 Try.underlying30 Try.info5 rfl _ _ (ch.map bV) rfl (by exact ho) (by intro u hu; simp at hu; obtain ⟨b, _, rfl⟩ := hu; rfl) A ch.length c (by simp) rfl hc (by simp [maxLen]; omega) (by simp; omega) (by omega) ?_; intro v1 w1 hown1 hb1; obtain ⟨A1, c1, rfl⟩ := hown1.shape; have hk1 := hk.below hb1 (Nat.lt_succ_self _); have hc1 : w1.cell? ⟨g, 0, none⟩ = some (.slice A' xs.length cap) := hk1.cell 0; have hf1 := hk1.frozen 0; have hlt1 := hk1.lt))
    go_ret
    refine ⟨rfl, ⟨_, hk1.set_ 0 _, ?_⟩, ?_⟩
    · rw [List.map_append]
      rw [List.length_append, List.length_map, List.length_map] at hown1
      exact ORow.set_far hown1 (Nat.lt_succ_self _) _
    · have hb2 : Below g w w1 := hb1.mono (Nat.le_succ g)
      exact hb2.setCell (Nat.le_refl g) _

theorem qadd_eq {q : QS} {ch : List UInt8} : qAdd q ch = ⟨false, addE q.xs ch, if 48 < q.xs.length + ch.length then q else plainQ (q.xs ++ ch)⟩ := by
  unfold qAdd addE; split <;> rfl

theorem end_any (w : World) (g : Nat) (xs : List UInt8) (st d n : Int) (hq : QRaw w g xs st d n) (hl : xs.length ≤ 48) (A : Addr) (ch : List UInt8) (c : Nat) (h4 : ch.length ≤ 4)
    (hc : ∀ j u, (ch.map bV)[j]? = some u → w.cell? (A.add j) = some u) :
    Calls Try.prog 25 #[.pointer (some ⟨g, 0, none⟩), .slice (some A) ch.length c] w fun e w' => e = .returned (.int .i64 (addE xs ch)) ∧ QRaw w' g (addX xs ch) (if 48 < xs.length + ch.length then st else 0) d n ∧ Below g w w' := by
  have hlt := hq.lt
  by_cases hov : 48 < xs.length + ch.length
  · have e1 : addE xs ch = 4 := if_pos hov
    rw [if_pos hov, e1]
    go_enter Try.func25, Try.ntmps25
    go_wp2_with fail
    refine (add_any w g xs st d n hq hl A ch c h4 hc).mono ?_
    rintro e w1 ⟨rfl, hq1, hb1⟩
    rw [e1]
    go_wp2
    go_ret
    exact ⟨rfl, hq1, hb1⟩
  · have e1 : addE xs ch = 0 := if_neg hov
    rw [if_neg hov, e1]
    go_enter Try.func25, Try.ntmps25
    go_wp2_with fail
    refine (add_any w g xs st d n hq hl A ch c h4 hc).mono ?_
    rintro e w1 ⟨rfl, hq1, hb1⟩
    rw [e1]
    have hc1 : w1.cell? ⟨g, 1, none⟩ = some (.int .i64 st) := by obtain ⟨v, hk, _⟩ := hq1; exact hk.cell 1
    have hf1 : w1.frozen? ⟨g, 1, none⟩ = false := by obtain ⟨v, hk, _⟩ := hq1; exact hk.frozen 1
    have hlt1 := hq1.lt
    go_wp2
    go_ret
    exact ⟨rfl, hq1.set 0, hb1.setCell (Nat.le_refl _) _⟩
end Go.Proofs.Ytmboonmefmobcaa

/-
  A list of events that a call has made: appended to, read; it and a Check keep clear of each other.
  The walk of EventsSteps.
-/
import Derived.Test.YtmnijjbhkbdojaaGreatDoorEvGM
import Derived.Test.YtmnijjbhkbdojaaGreatDoorEvSV
import Derived.Test.YtmnijjbhkbdojaaGreatDoorEvZw
namespace Go.Proofs.YtmnijjbhkbdojaaGreatDoor
open Go.RowKit Go.Maps
set_option maxRecDepth 100000

def evc (x : Ev) : List Value := [.int .i64 x.k, .string x.t, .string x.v]
def evcs (l : List Ev) : List Value := l.flatMap evc
theorem evcs_len (l : List Ev) : (evcs l).length = l.length * 3 := by
  induction l with
  | nil => rfl
  | cons x l ih => simp only [evcs, List.flatMap_cons, List.length_append, List.length_cons] at ih ⊢; rw [ih]; simp [evc]; omega
theorem evcs_get : ∀ (l : List Ev) (k : Nat) (h : k < l.length) (j : Nat) (_ : j < 3), (evcs l)[k * 3 + j]? = (evc l[k])[j]?
  | x :: l, 0, _, j, hj => by
    simp only [evcs, List.flatMap_cons]
    rw [List.getElem?_append_left (by simp [evc]; omega)]
    simp
  | x :: l, k + 1, h, j, hj => by
    have ih := evcs_get l k (by simpa using h) j hj
    simp only [evcs, List.flatMap_cons] at ih ⊢
    rw [List.getElem?_append_right (by simp [evc]; omega), show (k + 1) * 3 + j - (evc x).length = k * 3 + j by simp [evc]; omega, ih]
    simp
theorem evcs_snoc (l : List Ev) (x : Ev) : evcs (l ++ [x]) = evcs l ++ evc x := by simp [evcs]
theorem Tryz.infoEv : (Tryz.prog.info? 28).map (fun i => (i.zero, i.size, i.bytes)) = some (some (.agg #[.int .i64 0, .string ⟨#[]⟩, .string ⟨#[]⟩]), 3, 40) := by kernel_rfl

def ERow (w : World) (base : Nat) (v : Value) (l : List Ev) : Prop := w.ownsRow base 28 3 v l.length (evcs l)
def eObj : Obj → Prop
  | .cells _ t _ => t = 28
  | _ => False
theorem ERow.nil (w : World) (base : Nat) : ERow w base (.slice none 0 0) [] := World.ownsRow_nil w base _ 3
theorem ERow.read {w : World} {base : Nat} {v : Value} {l : List Ev} (h : ERow w base v l) : ERead w v l := by
  have hr := h
  unfold ERow at hr
  rcases hr.2 with ⟨rfl, h0⟩ | ⟨r, c, cur, rfl, hg, hh, hnc, hm, hs, ht⟩
  · exact ⟨none, 0, by rw [h0], by omega, Nat.zero_le _, fun hp => by omega⟩
  · refine ⟨some ⟨r, 0, none⟩, c, rfl, hnc, hm, fun _ => ⟨r, 0, rfl, fun j hj => ?_⟩⟩
    have hat : ∀ i, i < 3 → w.cell? ⟨r, j * 3 + i, none⟩ = (evc l[j])[i]? := by
      intro i hi
      rw [Blk.cell hh, ← evcs_get l j hj i hi, ← ht, List.getElem?_take_of_lt (by omega), Array.getElem?_toList]
    rw [Nat.zero_add]
    have h0 := hat 0 (by omega)
    have h1 := hat 1 (by omega)
    have h2 := hat 2 (by omega)
    exact ⟨h0, h1, h2⟩
theorem ERow.below {w w' : World} {base : Nat} {v : Value} {l : List Ev} (h : ERow w base v l) (hb : Below w.heap.size w w') : ERow w' base v l :=
  row_tch (base := base) (p := fun _ => False) h (Tch.of_below hb) (fun _ _ h => h)
theorem ERow.of_c {w w' : World} {base : Nat} {v : Value} {l : List Ev} (h : ERow w base v l) (ht : Tch base cObj w w') : ERow w' base v l :=
  row_tch h ht (fun _ _ => by simp only [cObj]; decide)
theorem CAt.of_e {w w' : World} {base g : Nat} {st : List Pt} (h : CAt w base g st) (ht : Tch base eObj w w') : CAt w' base g st :=
  h.tch ht (fun cs t fr h hc => by simp only [eObj] at hc; rcases h with rfl | rfl <;> exact absurd hc (by decide)) (fun _ _ hc => hc)
theorem ERow.shape {w : World} {base : Nat} {v : Value} {l : List Ev} (h : ERow w base v l) : ∃ A c, v = .slice A l.length c := by
  rcases h.2 with ⟨rfl, h0⟩ | ⟨g, cap, cur, rfl, _⟩
  · exact ⟨_, _, by rw [h0]⟩
  · exact ⟨_, _, rfl⟩
theorem ERow.alloc {w : World} {base : Nat} {v : Value} {l : List Ev} (h : ERow w base v l) (o : Obj) : ERow (w.alloc o) base v l := World.ownsRow.alloc h o
theorem erow_push {w w' : World} {base : Nat} {v v' : Value} {l : List Ev} {x : Ev} {o : Obj} (h : ERow w base v l) (hg : (w.alloc o).grownBy w' v.ownBlock)
    (hr : w'.ownsRow base 28 3 v' (l.length + 1) (evcs l ++ [.int .i64 x.k, .string x.t, .string x.v])) : ERow w' base v' (l ++ [x]) ∧ Tch base eObj w w' := by
  refine ⟨?_, ((Tch.refl base eObj w).alloc o).trans (Tch.of_row (h.alloc o) hg (Nat.le_refl _) (fun _ => rfl))⟩
  unfold ERow
  rw [evcs_snoc, List.length_append]
  exact hr

/-- How deep one is, and whether all is a document, by the places. -/
theorem deep_nil {hs : List Ev} {st : List Pt} (h : Rel hs st) (ha : atL hs = []) : st.length = 1 ∧ doneB st = decide (0 < hs.length) := by
  have := rel_done h
  rw [ha] at this
  exact ⟨this.2, by rw [this.1]; simp⟩
theorem deep_cons {hs : List Ev} {st : List Pt} {p : Nat} {ps : List Nat} (h : Rel hs st) (ha : atL hs = p :: ps) : st.length = ps.length + 2 ∧ doneB st = false := by
  have := rel_done h
  rw [ha] at this
  exact ⟨this.2, by rw [this.1]; simp⟩
end Go.Proofs.YtmnijjbhkbdojaaGreatDoor
namespace Go.Proofs.YtmnijjbhkbdojaaGreatDoor
open Go.RowKit Go.Maps
set_option maxRecDepth 100000

/-- What the round holds. -/
structure SRel (w : World) (g : Nat) (v : Value) (hs : List Ev) (st : List Pt) (wr : World) : Prop where
  row : ERow wr w.heap.size v hs
  chk : CAt wr w.heap.size g st
  rel : Rel hs st
  good : Good st
  bel : Below w.heap.size w wr

set_option maxHeartbeats 8000000 in
theorem walk_EventsSteps (v : Value) (xs : List Ev) (hx : ∀ x ∈ xs, okE x) (hn : xs.length ≤ 4611686018427387904) (hm : ∀ x ∈ xs, x.t.size ≤ 1048576 ∧ x.v.size ≤ 1048576) (w : World) (hw : Nm.StdW w) (hv : ERead w v xs) :
    Calls Tryz.prog 3 #[v] w fun e w' => e = .returned (.bool true) ∧ Below w.heap.size w w' := by
  obtain ⟨A, c, rfl, _, _, hr⟩ := hv
  go_enter Tryz.func3, Tryz.ntmps3
  go_wp2_with (first
    | (go_at_call 8; refine (cnew_any _ w.heap.size (Nat.le_refl _)).mono ?_; rintro e w1 ⟨g, rfl, hg, hC1, hb1⟩))
  go_loopw [4, 5] (fun h i wr => ∃ (k : Nat) (hs : List Ev) (st : List Pt), k ≤ xs.length ∧ k ≤ 120 ∧ i = .int .i64 k ∧ hs.length ≤ k ∧ SRel w g h hs st wr) (fun _ i _ => xs.length - (intOf i).toNat)
  case atStart => exact ⟨0, [], [topP], Nat.zero_le _, Nat.zero_le _, rfl, Nat.le_refl _, ERow.nil _ _, hC1, rel_start, good_start, hb1⟩
  case round =>
    obtain ⟨k, hs, st, hk, hk120, rfl, hkl, SR⟩ := hrel
    by_cases hlt : k < xs.length ∧ k < 120
    · obtain ⟨hlt, h120⟩ := hlt
      obtain ⟨bb, oo, rfl, hc⟩ := hr (by omega)
      obtain ⟨h1, h2, h3⟩ := hc k hlt
      have hok := hx _ (List.getElem_mem hlt)
      obtain ⟨m1, m2⟩ := hm _ (List.getElem_mem hlt)
      have g1 := (SR.bel.cell (cell_lt h1)).trans h1
      have g2 := (SR.bel.cell (cell_lt h2)).trans h2
      have g3 := (SR.bel.cell (cell_lt h3)).trans h3
      clear hr
      generalize hxk : xs[k] = x at *
      obtain ⟨_, _, hsz, _⟩ := hok
      have hwr := hw.below SR.bel
      have hsl : hs.length ≤ 120 := by omega
      have hRS := rstepV wr u4 hs st _ x rfl SR.row.read (by omega) (by omega) (by omega) SR.rel SR.good
      have hlti : (k : Int) < xs.length := by omega
      have hki : (k : Int) < 120 := by omega
      go_wp2_with fail
      refine hRS.mono ?_
      rintro e w2 ⟨rfl, hb2⟩
      have k1 := (hb2.cell (cell_lt g1)).trans g1
      have k2 := (hb2.cell (cell_lt g2)).trans g2
      have k3 := (hb2.cell (cell_lt g3)).trans g3
      have hbel2 := SR.bel.trans (hb2.mono SR.bel.size)
      have hCS := stepV w2 w.heap.size g st _ _ x rfl rfl (SR.chk.below hb2) SR.good (hw.below hbel2) hsz
      have hG2 := good_step SR.good x
      have hR2 := fun h => rel_step SR.rel x h
      have hSn : stepE st x ≠ 0 → stepS st x = st := fun h => by unfold stepS; rw [if_neg h]
      generalize hst2 : stepS st x = st2 at *
      generalize stepE st x = E at *
      go_wp2_with fail
      refine hCS.mono ?_
      rintro e w3 ⟨rfl, hC3, hT3⟩
      have hrow3 := (SR.row.below hb2).of_c hT3
      have hbel3 := hbel2.trans (hT3.below hbel2.size)
      have l1 := (hbel3.cell (cell_lt h1)).trans h1
      have l2 := (hbel3.cell (cell_lt h2)).trans h2
      have l3 := (hbel3.cell (cell_lt h3)).trans h3
      clear hc h1 h2 h3 g1 g2 g3 k1 k2 k3 hRS hCS
      have hAt := fun (w' : World) (v' : Value) (l : List Ev) (h : ERow w' w.heap.size v' l) (hn : l.length ≤ 121) => at_any w' v' l h.read (by omega)
      have hDp := fun (w' : World) (s : List Pt) (h : CAt w' w.heap.size g s) (hg : Good s) => depth_any w' w.heap.size g s h hg.2
      have hDn := fun (w' : World) (s : List Pt) (h : CAt w' w.heap.size g s) (hg : Good s) => done_any w' w.heap.size g s h hg.2 (by obtain ⟨p, r, rfl⟩ := hg.ne; simp)
      by_cases hz : E = 0
      case' pos =>
        have hRn := hR2 hz
        subst hz
        have h63 : hs.length + 1 ≤ maxLen := by simp only [maxLen]; omega
        have h40 : (hs.length + 1) * 40 ≤ 140737488355328 := by omega
        have hbs3 : w.heap.size ≤ (w3.alloc (.cells #[.int .i64 x.k, .string x.t, .string x.v] 28)).heap.size := by have := hbel3.size; simp; omega
        clear hR2 hSn
        go_wp2_with (first
          | (at_builtin; refine wp_appG rfl _ _ 22 rfl w.heap.size 28 _ 3 40 Tryz.underlying22 Tryz.infoEv rfl (by decide) u4 hs.length (evcs hs) [.int .i64 x.k, .string x.t, .string x.v] rfl (by exact hrow3.alloc _) (by simp [Value.oneCell']) ⟨w3.heap.size, 0, none⟩ 1 1 rfl rfl (by exact cellsOf3 w3 _ _ _ _) h63 h40 hbs3 ?_; intro v4 w4 hown4 hg4))
        obtain ⟨hrow5, hT4⟩ := erow_push (x := x) hrow3 hg4 hown4
        have hC5 := hC3.of_e hT4
        have hbel5 := hbel3.trans (hT4.below hbel3.size)
        have hl5 : (hs ++ [x]).length ≤ k + 1 := by simp; omega
        have hR5 := hRn
        clear hC3 hrow3 hbel3 hown4 hg4 hRn
        generalize hs ++ [x] = hs5 at *
      case' neg =>
        have hs2 := hSn hz
        subst hs2
        have e0 := ne_beq hz
        have e1 := ne_bne hz
        have hs2' := hst2
        have hrow5 := hrow3
        have hC5 := hC3
        have hbel5 := hbel3
        have hl5 : hs.length ≤ k + 1 := by omega
        have hR5 := SR.rel
        clear hR2 hSn hz hs2' hC3 hrow3 hbel3
        generalize hs = hs5 at *
        go_wp2_with fail
      all_goals
        obtain ⟨A5, c5, rfl⟩ := hrow5.shape
        have hA := hAt _ _ hs5 hrow5 (by omega)
        cases ha : atL hs5 with
        | nil =>
          obtain ⟨d1, d2⟩ := deep_nil hR5 ha
          rw [atEnd_nil ha] at hA
          have HD1 := Lib.hid (show (st2.length : Int) - 1 = 0 by omega)
          have HD2 := Lib.hid d2
          clear d1 d2 ha
          go_wp2_with fail
          refine hA.mono ?_
          rintro e w6 ⟨rfl, hb6⟩
          have hC6 := hC5.below hb6
          have hDp6 := hDp _ _ hC6 hG2
          have hDn6 := hDn _ _ hC6 hG2
          rw [HD1.out] at hDp6
          rw [HD2.out] at hDn6
          go_wp2_with fail
          refine hDp6.mono ?_
          rintro e w7 ⟨rfl, rfl⟩
          by_cases h0 : 0 < hs5.length
          · rw [decide_eq_true h0] at hDn6
            have h0i : decide ((0 : Int) < hs5.length) = true := decide_eq_true (by omega)
            have h0d : decide (0 < hs5.length) = true := decide_eq_true h0
            go_wp2_with (first
              | (go_at_call 13; refine hDn6.mono ?_; rintro e w8 ⟨rfl, rfl⟩))
            go_roundw
            case rel => exact ⟨k + 1, hs5, st2, hlt, by omega, by go_num, hl5, hrow5.below hb6, hC6, hR5, hG2, hbel5.trans (hb6.mono hbel5.size)⟩
            case measure => first | (simp [intOf]; done) | (simp [intOf]; omega)
          · rw [decide_eq_false h0] at hDn6
            have h0i : decide ((0 : Int) < hs5.length) = false := decide_eq_false (by omega)
            have h0d : decide (0 < hs5.length) = false := decide_eq_false h0
            go_wp2_with (first
              | (go_at_call 13; refine hDn6.mono ?_; rintro e w8 ⟨rfl, rfl⟩))
            go_roundw
            case rel => exact ⟨k + 1, hs5, st2, hlt, by omega, by go_num, hl5, hrow5.below hb6, hC6, hR5, hG2, hbel5.trans (hb6.mono hbel5.size)⟩
            case measure => first | (simp [intOf]; done) | (simp [intOf]; omega)
        | cons p ps =>
          obtain ⟨d1, d2⟩ := deep_cons hR5 ha
          rw [atEnd_cons ha] at hA
          have HD1 := Lib.hid (show (st2.length : Int) - 1 = (ps.length : Int) + 1 by omega)
          have HD2 := Lib.hid d2
          clear d1 d2 ha
          go_wp2_with fail
          refine hA.mono ?_
          rintro e w6 ⟨rfl, hb6⟩
          have hC6 := hC5.below hb6
          have hDp6 := hDp _ _ hC6 hG2
          have hDn6 := hDn _ _ hC6 hG2
          rw [HD1.out] at hDp6
          rw [HD2.out] at hDn6
          go_wp2_with fail
          refine hDp6.mono ?_
          rintro e w7 ⟨rfl, rfl⟩
          go_wp2_with (first
            | (go_at_call 13; refine hDn6.mono ?_; rintro e w8 ⟨rfl, rfl⟩))
          go_roundw
          case rel => exact ⟨k + 1, hs5, st2, hlt, by omega, by go_num, hl5, hrow5.below hb6, hC6, hR5, hG2, hbel5.trans (hb6.mono hbel5.size)⟩
          case measure => first | (simp [intOf]; done) | (simp [intOf]; omega)
    · have hL := fun w' h => elives_any w' h
      by_cases hl2 : k < xs.length
      · have hki : ¬ (k : Int) < 120 := by omega
        have hlti : (k : Int) < xs.length := by omega
        go_wp2_with (first
          | (go_at_call 14; refine (hL _ (hw.below SR.bel)).mono ?_; rintro e w3 ⟨rfl, hb3⟩))
        go_ret
        exact ⟨rfl, SR.bel.trans (hb3.mono SR.bel.size)⟩
      · have hlti : ¬ (k : Int) < xs.length := by omega
        go_wp2_with (first
          | (go_at_call 14; refine (hL _ (hw.below SR.bel)).mono ?_; rintro e w3 ⟨rfl, hb3⟩))
        go_ret
        exact ⟨rfl, SR.bel.trans (hb3.mono SR.bel.size)⟩
end Go.Proofs.YtmnijjbhkbdojaaGreatDoor

/-
  A list of events that a call has made: appended to, read; it and a Check keep clear of each other.
-/
import Derived.Test.YtmnijjbhkbdojaaGreatDoorEvM
import Derived.Test.YtmnijjbhkbdojaaGreatDoorEvU
namespace Go.Proofs.YtmnijjbhkbdojaaGreatDoor
open Go.RowKit Go.Maps
set_option maxRecDepth 100000

def evc (x : Ev) : List Value := [.int .i64 x.k, .string x.t, .string x.v]
def evcs (l : List Ev) : List Value := l.flatMap evc
theorem evcs_len (l : List Ev) : (evcs l).length = l.length * 3 := by
  induction l with
  | nil => rfl
  | cons x l ih => simp only [evcs, List.flatMap_cons, List.length_append, List.length_cons] at ih ⊢; rw [ih]; simp [evc]; omega
theorem evcs_get : ∀ (l : List Ev) (k : Nat) (h : k < l.length) (j : Nat) (_ : j < 3), (evcs l)[k * 3 + j]? = (evc l[k])[j]?
  | x :: l, 0, _, j, hj => by
    simp only [evcs, List.flatMap_cons]
    rw [List.getElem?_append_left (by simp [evc]; omega)]
    simp
  | x :: l, k + 1, h, j, hj => by
    have ih := evcs_get l k (by simpa using h) j hj
    simp only [evcs, List.flatMap_cons] at ih ⊢
    rw [List.getElem?_append_right (by simp [evc]; omega), show (k + 1) * 3 + j - (evc x).length = k * 3 + j by simp [evc]; omega, ih]
    simp
theorem evcs_snoc (l : List Ev) (x : Ev) : evcs (l ++ [x]) = evcs l ++ evc x := by simp [evcs]
theorem Tryz.infoEv : (Tryz.prog.info? 28).map (fun i => (i.zero, i.size, i.bytes)) = some (some (.agg #[.int .i64 0, .string ⟨#[]⟩, .string ⟨#[]⟩]), 3, 40) := by kernel_rfl

def ERow (w : World) (base : Nat) (v : Value) (l : List Ev) : Prop := w.ownsRow base 28 3 v l.length (evcs l)
def eObj : Obj → Prop
  | .cells _ t _ => t = 28
  | _ => False
theorem ERow.nil (w : World) (base : Nat) : ERow w base (.slice none 0 0) [] := World.ownsRow_nil w base _ 3
theorem ERow.read {w : World} {base : Nat} {v : Value} {l : List Ev} (h : ERow w base v l) : ERead w v l := by
  have hr := h
  unfold ERow at hr
  rcases hr.2 with ⟨rfl, h0⟩ | ⟨r, c, cur, rfl, hg, hh, hnc, hm, hs, ht⟩
  · exact ⟨none, 0, by rw [h0], by omega, Nat.zero_le _, fun hp => by omega⟩
  · refine ⟨some ⟨r, 0, none⟩, c, rfl, hnc, hm, fun _ => ⟨r, 0, rfl, fun j hj => ?_⟩⟩
    have hat : ∀ i, i < 3 → w.cell? ⟨r, j * 3 + i, none⟩ = (evc l[j])[i]? := by
      intro i hi
      rw [Blk.cell hh, ← evcs_get l j hj i hi, ← ht, List.getElem?_take_of_lt (by omega), Array.getElem?_toList]
    rw [Nat.zero_add]
    have h0 := hat 0 (by omega)
    have h1 := hat 1 (by omega)
    have h2 := hat 2 (by omega)
    exact ⟨h0, h1, h2⟩
theorem ERow.below {w w' : World} {base : Nat} {v : Value} {l : List Ev} (h : ERow w base v l) (hb : Below w.heap.size w w') : ERow w' base v l :=
  row_tch (base := base) (p := fun _ => False) h (Tch.of_below hb) (fun _ _ h => h)
theorem ERow.of_c {w w' : World} {base : Nat} {v : Value} {l : List Ev} (h : ERow w base v l) (ht : Tch base cObj w w') : ERow w' base v l :=
  row_tch h ht (fun _ _ => by simp only [cObj]; decide)
theorem CAt.of_e {w w' : World} {base g : Nat} {st : List Pt} (h : CAt w base g st) (ht : Tch base eObj w w') : CAt w' base g st :=
  h.tch ht (fun cs t fr h hc => by simp only [eObj] at hc; rcases h with rfl | rfl <;> exact absurd hc (by decide)) (fun _ _ hc => hc)
theorem ERow.shape {w : World} {base : Nat} {v : Value} {l : List Ev} (h : ERow w base v l) : ∃ A c, v = .slice A l.length c := by
  rcases h.2 with ⟨rfl, h0⟩ | ⟨g, cap, cur, rfl, _⟩
  · exact ⟨_, _, by rw [h0]⟩
  · exact ⟨_, _, rfl⟩
theorem ERow.alloc {w : World} {base : Nat} {v : Value} {l : List Ev} (h : ERow w base v l) (o : Obj) : ERow (w.alloc o) base v l := World.ownsRow.alloc h o
theorem erow_push {w w' : World} {base : Nat} {v v' : Value} {l : List Ev} {x : Ev} {o : Obj} (h : ERow w base v l) (hg : (w.alloc o).grownBy w' v.ownBlock)
    (hr : w'.ownsRow base 28 3 v' (l.length + 1) (evcs l ++ [.int .i64 x.k, .string x.t, .string x.v])) : ERow w' base v' (l ++ [x]) ∧ Tch base eObj w w' := by
  refine ⟨?_, ((Tch.refl base eObj w).alloc o).trans (Tch.of_row (h.alloc o) hg (Nat.le_refl _) (fun _ => rfl))⟩
  unfold ERow
  rw [evcs_snoc, List.length_append]
  exact hr

/-- How deep one is, and whether all is a document, by the places. -/
theorem deep_nil {hs : List Ev} {st : List Pt} (h : Rel hs st) (ha : atL hs = []) : st.length = 1 ∧ doneB st = decide (0 < hs.length) := by
  have := rel_done h
  rw [ha] at this
  exact ⟨this.2, by rw [this.1]; simp⟩
theorem deep_cons {hs : List Ev} {st : List Pt} {p : Nat} {ps : List Nat} (h : Rel hs st) (ha : atL hs = p :: ps) : st.length = ps.length + 2 ∧ doneB st = false := by
  have := rel_done h
  rw [ha] at this
  exact ⟨this.2, by rw [this.1]; simp⟩
end Go.Proofs.YtmnijjbhkbdojaaGreatDoor

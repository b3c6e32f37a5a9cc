/-
  Scopes as plain functions: scopes innermost first, each with what it binds, newest first; and the reference's one list. No program is read here.
-/
import Derived.Test.YtgpnhgjiglnmmaaNamesP
namespace Go.Proofs.Ytgpnhgjiglnmmaa
set_option maxRecDepth 8000

abbrev Sc := List (List UInt8 × List UInt8)
abbrev St := List Sc

def lookP (p : List UInt8) : Sc → Option (List UInt8)
  | [] => none
  | x :: r => if x.1 = p then some x.2 else lookP p r
def spaceS (p : List UInt8) : St → Option (List UInt8)
  | [] => none
  | m :: r => (lookP p m).orElse fun _ => spaceS p r
def mayP (p s : List UInt8) : Bool := if s = [] then decide (p = []) else spaceL s && (decide (p = []) || localL p)
def bindE (p s : List UInt8) : St → Int
  | [] => 1
  | m :: _ => if mayP p s = false then 1 else if (lookP p m).isSome = true then 6 else if 10 ≤ m.length then 7 else 0
def bindS (p s : List UInt8) : St → St
  | [] => []
  | m :: r => if bindE p s (m :: r) = 0 then ((p, s) :: m) :: r else m :: r
def closeE : St → Int
  | [] => 21
  | _ :: _ => 0
def closeS : St → St
  | [] => []
  | _ :: r => r

structure Pr where
  p : List UInt8
  s : List UInt8
  n : Nat
def tag (n : Nat) (m : Sc) : List Pr := m.map fun x => ⟨x.1, x.2, n⟩
/-- The reference's list, newest first. -/
def flat : St → List Pr
  | [] => []
  | m :: r => tag (r.length + 1) m ++ flat r
/-- The reference's list as it stands. -/
def refL (st : St) : List Pr := (flat st).reverse
def find3 (p : List UInt8) : List Pr → Option (List UInt8)
  | [] => none
  | x :: r => if x.p = p then some x.s else find3 p r

theorem find_tag (p : List UInt8) (n : Nat) (m : Sc) (l : List Pr) : find3 p (tag n m ++ l) = (lookP p m).orElse fun _ => find3 p l := by
  induction m with
  | nil => rfl
  | cons x m ih =>
    simp only [tag, List.map_cons, List.cons_append, find3, lookP] at ih ⊢
    by_cases h : x.1 = p
    · rw [if_pos h, if_pos h]; rfl
    · rw [if_neg h, if_neg h]; exact ih
theorem find_flat (p : List UInt8) (st : St) : find3 p (flat st) = spaceS p st := by
  induction st with
  | nil => rfl
  | cons m r ih =>
    simp only [flat, spaceS]
    rw [find_tag, ih]
theorem flat_rest (st : St) : ∀ x ∈ flat st, x.n ≤ st.length ∧ 1 ≤ x.n := by
  induction st with
  | nil => intro x hx; cases hx
  | cons m r ih =>
    intro x hx
    simp only [flat, tag] at hx
    rcases List.mem_append.1 hx with hx | hx
    · obtain ⟨y, _, rfl⟩ := List.mem_map.1 hx
      simp
    · have := ih x hx
      simp only [List.length_cons]
      omega
theorem refL_cons (m : Sc) (r : St) : refL (m :: r) = refL r ++ (tag (r.length + 1) m).reverse := by simp [refL, flat]
theorem refL_open (st : St) : refL ([] :: st) = refL st := by rw [refL_cons]; simp [tag]
theorem refL_bind (p s : List UInt8) (m : Sc) (r : St) : refL (((p, s) :: m) :: r) = refL (m :: r) ++ [⟨p, s, r.length + 1⟩] := by rw [refL_cons, refL_cons]; simp [tag]
theorem refL_rest (st : St) : ∀ x ∈ refL st, x.n ≤ st.length ∧ 1 ≤ x.n := fun x hx => flat_rest st x (List.mem_reverse.1 hx)
theorem filter_close (m : Sc) (r : St) : (refL (m :: r)).filter (fun x => decide (x.n < r.length + 1)) = refL r := by
  rw [refL_cons, List.filter_append]
  have e1 : (refL r).filter (fun x => decide (x.n < r.length + 1)) = refL r := by
    rw [List.filter_eq_self]
    intro x hx
    have := refL_rest r x hx
    simp
    omega
  have e2 : ((tag (r.length + 1) m).reverse).filter (fun x => decide (x.n < r.length + 1)) = [] := by
    rw [List.filter_eq_nil_iff]
    intro x hx
    have := List.mem_reverse.1 hx
    simp only [tag] at this
    obtain ⟨y, _, rfl⟩ := List.mem_map.1 this
    simp
  rw [e1, e2, List.append_nil]

/-- How many of them stand in the innermost scope; and whether one of those binds p. -/
def inner (n : Nat) (l : List Pr) : Nat := (l.filter fun x => decide (x.n = n)).length
def boundIn (n : Nat) (p : List UInt8) (l : List Pr) : Bool := l.any fun x => decide (x.n = n) && decide (x.p = p)
theorem inner_refL (m : Sc) (r : St) : inner (r.length + 1) (refL (m :: r)) = m.length := by
  unfold inner
  rw [refL_cons, List.filter_append]
  have e1 : (refL r).filter (fun x => decide (x.n = r.length + 1)) = [] := by
    rw [List.filter_eq_nil_iff]
    intro x hx
    have := refL_rest r x hx
    simp
    omega
  have e2 : ((tag (r.length + 1) m).reverse).filter (fun x => decide (x.n = r.length + 1)) = (tag (r.length + 1) m).reverse := by
    rw [List.filter_eq_self]
    intro x hx
    have := List.mem_reverse.1 hx
    simp only [tag] at this
    obtain ⟨y, _, rfl⟩ := List.mem_map.1 this
    simp
  rw [e1, e2]
  simp [tag]
theorem any_tag (p : List UInt8) (n : Nat) (m : Sc) : (tag n m).any (fun x => decide (x.n = n) && decide (x.p = p)) = (lookP p m).isSome := by
  induction m with
  | nil => rfl
  | cons x m ih =>
    simp only [tag, List.map_cons, List.any_cons, lookP] at ih ⊢
    rw [ih]
    by_cases h : x.1 = p
    · simp [h]
    · simp [h]
theorem bound_refL (p : List UInt8) (m : Sc) (r : St) : boundIn (r.length + 1) p (refL (m :: r)) = (lookP p m).isSome := by
  unfold boundIn
  rw [refL_cons, List.any_append, List.any_reverse, any_tag]
  have e1 : (refL r).any (fun x => decide (x.n = r.length + 1) && decide (x.p = p)) = false := by
    rw [List.any_eq_false]
    intro x hx
    have := refL_rest r x hx
    simp
    omega
  rw [e1, Bool.false_or]
theorem inner_snoc (n : Nat) (l : List Pr) (x : Pr) : inner n (l ++ [x]) = inner n l + if x.n = n then 1 else 0 := by
  unfold inner
  rw [List.filter_append, List.length_append]
  by_cases h : x.n = n <;> simp [h]
theorem inner_le (n : Nat) (l : List Pr) : inner n l ≤ l.length := List.length_filter_le _ _
theorem bound_snoc (n : Nat) (p : List UInt8) (l : List Pr) (x : Pr) : boundIn n p (l ++ [x]) = (boundIn n p l || (decide (x.n = n) && decide (x.p = p))) := by
  unfold boundIn
  rw [List.any_append]
  simp
/-- All that is kept is short. -/
def Small (st : St) : Prop := ∀ m ∈ st, m.length ≤ 10
theorem bind_len (p s : List UInt8) (st : St) : (bindS p s st).length = st.length := by
  cases st with
  | nil => rfl
  | cons m r => simp only [bindS]; split <;> rfl
theorem refL_bind_len (p s : List UInt8) (st : St) : (refL (bindS p s st)).length ≤ (refL st).length + 1 := by
  cases st with
  | nil => simp [bindS]
  | cons m r =>
    simp only [bindS]
    split
    · rw [refL_bind]; simp
    · omega
theorem refL_close_len (st : St) : (refL (closeS st)).length ≤ (refL st).length := by
  cases st with
  | nil => simp [closeS]
  | cons m r => simp only [closeS]; rw [refL_cons]; simp
end Go.Proofs.Ytgpnhgjiglnmmaa

/-
  Names as plain functions on bytes: local names, namespaces, full names cut and joined. No program is read here.
-/
import Derived.Test.YtmbjeagmnjkemaaU8
namespace Go.Proofs.Ytmbjeagmnjkemaa
set_option maxRecDepth 8000

def firstB (c : Int) : Bool := decide ((97 ≤ c ∧ c ≤ 122) ∨ (65 ≤ c ∧ c ≤ 90) ∨ c = 95)
def laterB (c : Int) : Bool := decide ((97 ≤ c ∧ c ≤ 122) ∨ (65 ≤ c ∧ c ≤ 90) ∨ c = 95 ∨ (48 ≤ c ∧ c ≤ 57) ∨ c = 45 ∨ c = 46)
def localL : List UInt8 → Bool
  | [] => false
  | c :: t => decide (t.length < 16) && firstB (c.toNat : Int) && t.all (fun d => laterB (d.toNat : Int))
def badB (c : Int) : Bool := decide (c < 33 ∨ c = 123 ∨ c = 125 ∨ c = 34 ∨ c = 60 ∨ c = 62 ∨ c = 38 ∨ c = 92)
def spaceL (l : List UInt8) : Bool := (runesL l).isSome && decide (1 ≤ l.length ∧ l.length ≤ 48) && l.all (fun d => !badB (d.toNat : Int))
def noEnd (c : UInt8) : Bool := decide ((c.toNat : Int) ≠ 125)
def cutL : List UInt8 → Option (List UInt8 × List UInt8)
  | [] => none
  | c :: t =>
    if 48 < t.length + 1 then none
    else if (c.toNat : Int) = 123 then
      match t.dropWhile noEnd with
      | [] => none
      | _ :: b => if spaceL (t.takeWhile noEnd) = true ∧ localL b = true then some (t.takeWhile noEnd, b) else none
    else if localL (c :: t) = true then some ([], c :: t) else none
def joinL (s l : List UInt8) : Option (List UInt8) :=
  if localL l = true ∧ (s = [] ∨ spaceL s = true) then
    if s = [] then some l else if 48 < s.length + l.length + 2 then none else some (123 :: (s ++ 125 :: l))
  else none

theorem local_len {l : List UInt8} (h : localL l = true) : 1 ≤ l.length ∧ l.length ≤ 16 := by
  cases l with
  | nil => cases h
  | cons c t =>
    simp only [localL, Bool.and_eq_true, decide_eq_true_eq] at h
    simp only [List.length_cons]
    omega
theorem local_head {c : UInt8} {t : List UInt8} (h : localL (c :: t) = true) : (c.toNat : Int) ≠ 123 := by
  simp only [localL, Bool.and_eq_true, decide_eq_true_eq] at h
  have h2 := h.1.2
  unfold firstB at h2
  rw [decide_eq_true_iff] at h2
  omega
theorem space_noEnd {s : List UInt8} (h : spaceL s = true) : ∀ d ∈ s, noEnd d = true := by
  intro d hd
  simp only [spaceL, Bool.and_eq_true, List.all_eq_true] at h
  have := h.2 d hd
  unfold badB at this
  unfold noEnd
  rw [decide_eq_true_iff]
  simp at this
  omega
theorem space_len {s : List UInt8} (h : spaceL s = true) : 1 ≤ s.length ∧ s.length ≤ 48 := by
  simp only [spaceL, Bool.and_eq_true, decide_eq_true_eq] at h
  exact h.1.2
theorem span_end {s l : List UInt8} (h : ∀ d ∈ s, noEnd d = true) : (s ++ 125 :: l).takeWhile noEnd = s ∧ (s ++ 125 :: l).dropWhile noEnd = 125 :: l := by
  induction s with
  | nil =>
    have e : noEnd 125 = false := by decide
    simp [e]
  | cons d t ih =>
    have hd := h d List.mem_cons_self
    have := ih (fun x hx => h x (List.mem_cons_of_mem _ hx))
    simp only [List.cons_append, List.takeWhile_cons, List.dropWhile_cons, hd, if_true]
    exact ⟨by rw [this.1], this.2⟩

/-- What is joined is cut again. -/
theorem join_cut {s l f : List UInt8} (h : joinL s l = some f) : cutL f = some (s, l) := by
  unfold joinL at h
  split at h
  · rename_i hc
    obtain ⟨hl, hs⟩ := hc
    have hll := local_len hl
    split at h
    · rename_i he
      subst he
      injection h with h
      subst h
      cases l with
      | nil => cases hl
      | cons c t =>
        have hh := local_head hl
        simp only [List.length_cons] at hll
        simp only [cutL]
        rw [if_neg (by omega), if_neg hh, if_pos hl]
    · rename_i he
      split at h
      · cases h
      · rename_i hov
        injection h with h
        subst h
        have hsp := hs.resolve_left he
        obtain ⟨e1, e2⟩ := span_end (l := l) (space_noEnd hsp)
        simp only [cutL]
        rw [if_neg (by simp; omega), if_pos (by decide), e1, e2]
        simp only
        rw [if_pos ⟨hsp, hl⟩]
  · cases h

theorem drop_head {t b : List UInt8} {c : UInt8} (h : t.dropWhile noEnd = c :: b) : c = 125 := by
  induction t with
  | nil => cases h
  | cons d t ih =>
    rw [List.dropWhile_cons] at h
    split at h
    · exact ih h
    · rename_i hd
      injection h with h1 h2
      subst h1
      unfold noEnd at hd
      simp at hd
      have : d.toNat = 125 := by omega
      exact UInt8.toNat_inj.1 (by rw [this]; rfl)

/-- What is cut is joined to itself. -/
theorem cut_join {f a b : List UInt8} (h : cutL f = some (a, b)) : joinL a b = some f := by
  cases f with
  | nil => cases h
  | cons c t =>
    simp only [cutL] at h
    split at h
    · cases h
    · rename_i hlen
      split at h
      · rename_i hc
        cases hd : t.dropWhile noEnd with
        | nil => rw [hd] at h; cases h
        | cons e rest =>
          rw [hd] at h
          simp only at h
          split at h
          · rename_i hs
            injection h with h
            injection h with h1 h2
            subst h1 h2
            have he := drop_head hd
            subst he
            have ht : t = t.takeWhile noEnd ++ 125 :: rest := by rw [← hd]; exact (List.takeWhile_append_dropWhile).symm
            have hsl := space_len hs.1
            have hne : t.takeWhile noEnd ≠ [] := by intro hn; rw [hn] at hsl; simp at hsl
            have hcc : c = 123 := UInt8.toNat_inj.1 (by have : c.toNat = 123 := by omega
                                                        rw [this]; rfl)
            have hl2 : t.length = (t.takeWhile noEnd).length + rest.length + 1 := by
              have := congrArg List.length ht
              rw [List.length_append, List.length_cons] at this
              omega
            unfold joinL
            rw [if_pos ⟨hs.2, .inr hs.1⟩, if_neg hne, if_neg (by omega), hcc, ← ht]
          · cases h
      · split at h
        · rename_i hl
          injection h with h
          injection h with h1 h2
          subst h1 h2
          unfold joinL
          rw [if_pos ⟨hl, .inl rfl⟩, if_pos rfl]
        · cases h
theorem cut_inj {f g : List UInt8} {p : List UInt8 × List UInt8} (h : cutL f = some p) (h' : cutL g = some p) : f = g := by
  obtain ⟨a, b⟩ := p
  have e1 := cut_join h
  have e2 := cut_join h'
  rw [e1] at e2
  injection e2
end Go.Proofs.Ytmbjeagmnjkemaa

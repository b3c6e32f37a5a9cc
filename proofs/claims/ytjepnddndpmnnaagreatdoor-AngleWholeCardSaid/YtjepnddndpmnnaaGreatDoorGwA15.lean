/-
  Scopes as plain functions: scopes innermost first, each with what it binds, newest first; and the reference's one list. No program is read here.
  Entities as plain functions on bytes: what is defined, asked, filled in. No program is read here.
  What an open number tells, and blanks: plain functions. No program is read here.
  The angle syntax as a plain function on bytes: the machine, its step, its end. No program is read here.
-/
import Derived.Test.YtjepnddndpmnnaaGreatDoorGwA02
import Derived.Test.YtjepnddndpmnnaaGreatDoorGwA10
import Derived.Test.YtjepnddndpmnnaaGreatDoorGwA14
namespace Go.Proofs.YtjepnddndpmnnaaGreatDoor.Ns
set_option maxRecDepth 8000

abbrev Sc := List (List UInt8 × List UInt8)
abbrev St := List Sc

def lookP (p : List UInt8) : Sc → Option (List UInt8)
  | [] => none
  | x :: r => if x.1 = p then some x.2 else lookP p r
def spaceS (p : List UInt8) : St → Option (List UInt8)
  | [] => none
  | m :: r => (lookP p m).orElse fun _ => spaceS p r
def mayP (p s : List UInt8) : Bool := if s = [] then decide (p = []) else spaceL s && (decide (p = []) || localL p)
def bindE (p s : List UInt8) : St → Int
  | [] => 1
  | m :: _ => if mayP p s = false then 1 else if (lookP p m).isSome = true then 6 else if 10 ≤ m.length then 7 else 0
def bindS (p s : List UInt8) : St → St
  | [] => []
  | m :: r => if bindE p s (m :: r) = 0 then ((p, s) :: m) :: r else m :: r
def closeE : St → Int
  | [] => 21
  | _ :: _ => 0
def closeS : St → St
  | [] => []
  | _ :: r => r

structure Pr where
  p : List UInt8
  s : List UInt8
  n : Nat
def tag (n : Nat) (m : Sc) : List Pr := m.map fun x => ⟨x.1, x.2, n⟩
/-- The reference's list, newest first. -/
def flat : St → List Pr
  | [] => []
  | m :: r => tag (r.length + 1) m ++ flat r
/-- The reference's list as it stands. -/
def refL (st : St) : List Pr := (flat st).reverse
def find3 (p : List UInt8) : List Pr → Option (List UInt8)
  | [] => none
  | x :: r => if x.p = p then some x.s else find3 p r

theorem find_tag (p : List UInt8) (n : Nat) (m : Sc) (l : List Pr) : find3 p (tag n m ++ l) = (lookP p m).orElse fun _ => find3 p l := by
  induction m with
  | nil => rfl
  | cons x m ih =>
    simp only [tag, List.map_cons, List.cons_append, find3, lookP] at ih ⊢
    by_cases h : x.1 = p
    · rw [if_pos h, if_pos h]; rfl
    · rw [if_neg h, if_neg h]; exact ih
theorem find_flat (p : List UInt8) (st : St) : find3 p (flat st) = spaceS p st := by
  induction st with
  | nil => rfl
  | cons m r ih =>
    simp only [flat, spaceS]
    rw [find_tag, ih]
theorem flat_rest (st : St) : ∀ x ∈ flat st, x.n ≤ st.length ∧ 1 ≤ x.n := by
  induction st with
  | nil => intro x hx; cases hx
  | cons m r ih =>
    intro x hx
    simp only [flat, tag] at hx
    rcases List.mem_append.1 hx with hx | hx
    · obtain ⟨y, _, rfl⟩ := List.mem_map.1 hx
      simp
    · have := ih x hx
      simp only [List.length_cons]
      omega
theorem refL_cons (m : Sc) (r : St) : refL (m :: r) = refL r ++ (tag (r.length + 1) m).reverse := by simp [refL, flat]
theorem refL_open (st : St) : refL ([] :: st) = refL st := by rw [refL_cons]; simp [tag]
theorem refL_bind (p s : List UInt8) (m : Sc) (r : St) : refL (((p, s) :: m) :: r) = refL (m :: r) ++ [⟨p, s, r.length + 1⟩] := by rw [refL_cons, refL_cons]; simp [tag]
theorem refL_rest (st : St) : ∀ x ∈ refL st, x.n ≤ st.length ∧ 1 ≤ x.n := fun x hx => flat_rest st x (List.mem_reverse.1 hx)
theorem filter_close (m : Sc) (r : St) : (refL (m :: r)).filter (fun x => decide (x.n < r.length + 1)) = refL r := by
  rw [refL_cons, List.filter_append]
  have e1 : (refL r).filter (fun x => decide (x.n < r.length + 1)) = refL r := by
    rw [List.filter_eq_self]
    intro x hx
    have := refL_rest r x hx
    simp
    omega
  have e2 : ((tag (r.length + 1) m).reverse).filter (fun x => decide (x.n < r.length + 1)) = [] := by
    rw [List.filter_eq_nil_iff]
    intro x hx
    have := List.mem_reverse.1 hx
    simp only [tag] at this
    obtain ⟨y, _, rfl⟩ := List.mem_map.1 this
    simp
  rw [e1, e2, List.append_nil]

/-- How many of them stand in the innermost scope; and whether one of those binds p. -/
def inner (n : Nat) (l : List Pr) : Nat := (l.filter fun x => decide (x.n = n)).length
def boundIn (n : Nat) (p : List UInt8) (l : List Pr) : Bool := l.any fun x => decide (x.n = n) && decide (x.p = p)
theorem inner_refL (m : Sc) (r : St) : inner (r.length + 1) (refL (m :: r)) = m.length := by
  unfold inner
  rw [refL_cons, List.filter_append]
  have e1 : (refL r).filter (fun x => decide (x.n = r.length + 1)) = [] := by
    rw [List.filter_eq_nil_iff]
    intro x hx
    have := refL_rest r x hx
    simp
    omega
  have e2 : ((tag (r.length + 1) m).reverse).filter (fun x => decide (x.n = r.length + 1)) = (tag (r.length + 1) m).reverse := by
    rw [List.filter_eq_self]
    intro x hx
    have := List.mem_reverse.1 hx
    simp only [tag] at this
    obtain ⟨y, _, rfl⟩ := List.mem_map.1 this
    simp
  rw [e1, e2]
  simp [tag]
theorem any_tag (p : List UInt8) (n : Nat) (m : Sc) : (tag n m).any (fun x => decide (x.n = n) && decide (x.p = p)) = (lookP p m).isSome := by
  induction m with
  | nil => rfl
  | cons x m ih =>
    simp only [tag, List.map_cons, List.any_cons, lookP] at ih ⊢
    rw [ih]
    by_cases h : x.1 = p
    · simp [h]
    · simp [h]
theorem bound_refL (p : List UInt8) (m : Sc) (r : St) : boundIn (r.length + 1) p (refL (m :: r)) = (lookP p m).isSome := by
  unfold boundIn
  rw [refL_cons, List.any_append, List.any_reverse, any_tag]
  have e1 : (refL r).any (fun x => decide (x.n = r.length + 1) && decide (x.p = p)) = false := by
    rw [List.any_eq_false]
    intro x hx
    have := refL_rest r x hx
    simp
    omega
  rw [e1, Bool.false_or]
theorem inner_snoc (n : Nat) (l : List Pr) (x : Pr) : inner n (l ++ [x]) = inner n l + if x.n = n then 1 else 0 := by
  unfold inner
  rw [List.filter_append, List.length_append]
  by_cases h : x.n = n <;> simp [h]
theorem inner_le (n : Nat) (l : List Pr) : inner n l ≤ l.length := List.length_filter_le _ _
theorem bound_snoc (n : Nat) (p : List UInt8) (l : List Pr) (x : Pr) : boundIn n p (l ++ [x]) = (boundIn n p l || (decide (x.n = n) && decide (x.p = p))) := by
  unfold boundIn
  rw [List.any_append]
  simp
/-- All that is kept is short. -/
def Small (st : St) : Prop := ∀ m ∈ st, m.length ≤ 10
theorem bind_len (p s : List UInt8) (st : St) : (bindS p s st).length = st.length := by
  cases st with
  | nil => rfl
  | cons m r => simp only [bindS]; split <;> rfl
theorem refL_bind_len (p s : List UInt8) (st : St) : (refL (bindS p s st)).length ≤ (refL st).length + 1 := by
  cases st with
  | nil => simp [bindS]
  | cons m r =>
    simp only [bindS]
    split
    · rw [refL_bind]; simp
    · omega
theorem refL_close_len (st : St) : (refL (closeS st)).length ≤ (refL st).length := by
  cases st with
  | nil => simp [closeS]
  | cons m r => simp only [closeS]; rw [refL_cons]; simp
end Go.Proofs.YtjepnddndpmnnaaGreatDoor.Ns
namespace Go.Proofs.YtjepnddndpmnnaaGreatDoor
set_option maxRecDepth 8000

abbrev EnL := List (List UInt8 × List UInt8)
def fourE (n : List UInt8) : Option (List UInt8) :=
  if n = [108, 116] then some [60] else if n = [103, 116] then some [62] else if n = [97, 109, 112] then some [38] else if n = [113, 117, 111, 116] then some [34] else none
def findE (n : List UInt8) : EnL → Option (List UInt8)
  | [] => none
  | x :: L => if x.1 = n then some x.2 else findE n L
def sizeE : EnL → Nat
  | [] => 0
  | x :: L => x.1.length + x.2.length + sizeE L
def defC (L : EnL) (n t : List UInt8) : Int :=
  if localL n = false then 1 else if (runesL t).isSome = false then 3 else if (fourE n).isSome || (findE n L).isSome then 6 else if 200 < sizeE L + n.length + t.length then 15 else 0
def defE (L : EnL) (n t : List UInt8) : EnL := if defC L n t = 0 then L ++ [(n, t)] else L
/-- What Get tells: the text, the error, how many were told behind it. -/
structure GR where
  s : List UInt8
  e : Int
  told : Nat
def getE (L : EnL) (told : Nat) (n : List UInt8) : GR :=
  match fourE n with
  | some t => ⟨t, 0, told⟩
  | none => match findE n L with
    | none => ⟨[], 14, told⟩
    | some t => if 40 ≤ told then ⟨[], 13, told⟩ else ⟨t, 0, told + 1⟩
/-- The reference behind a &: its name, or none; how many bytes stand ahead of the byte that ends it, or with which none goes on. -/
def refE (acc : List UInt8) : List UInt8 → Option (List UInt8) × Nat
  | [] => (none, 0)
  | c :: t => if localL (acc ++ [c]) = true then ((refE (acc ++ [c]) t).1, (refE (acc ++ [c]) t).2 + 1) else if c = 59 ∧ acc ≠ [] then (some acc, 0) else (none, 0)
structure FR where
  s : List UInt8
  e : Int
  n : Nat
  told : Nat
def fillE (L : EnL) : Nat → List UInt8 → Nat → List UInt8 → Nat → FR
  | 0, _, at_, out, told => ⟨out, 0, at_, told⟩
  | _ + 1, [], at_, out, told => ⟨out, 0, at_, told⟩
  | f + 1, c :: t, at_, out, told =>
    if c ≠ 38 then fillE L f t (at_ + 1) (out ++ [c]) told
    else match (refE [] t).1 with
      | none => ⟨[], 2, at_ + 1 + (refE [] t).2, told⟩
      | some nm => if (getE L told nm).e = 0 then fillE L f (t.drop ((refE [] t).2 + 1)) (at_ + 1 + (refE [] t).2 + 1) (out ++ (getE L told nm).s) (getE L told nm).told
        else ⟨[], (getE L told nm).e, at_ + 1 + (refE [] t).2, (getE L told nm).told⟩
def fillL (L : EnL) (raw : List UInt8) (told : Nat) : FR := fillE L raw.length raw 0 [] told

theorem fill_byte {L : EnL} {f : Nat} {c : UInt8} {t : List UInt8} {at_ : Nat} {out : List UInt8} {told : Nat} (h : c ≠ 38) : fillE L (f + 1) (c :: t) at_ out told = fillE L f t (at_ + 1) (out ++ [c]) told := by
  simp only [fillE]; rw [if_pos h]
theorem fill_bad {L : EnL} {f : Nat} {t : List UInt8} {at_ : Nat} {out : List UInt8} {told : Nat} (h : (refE [] t).1 = none) : fillE L (f + 1) (38 :: t) at_ out told = ⟨[], 2, at_ + 1 + (refE [] t).2, told⟩ := by
  simp only [fillE]; rw [if_neg (by decide), h]
theorem fill_no {L : EnL} {f : Nat} {t : List UInt8} {at_ : Nat} {out : List UInt8} {told : Nat} {nm : List UInt8} (h : (refE [] t).1 = some nm) (he : (getE L told nm).e ≠ 0) :
    fillE L (f + 1) (38 :: t) at_ out told = ⟨[], (getE L told nm).e, at_ + 1 + (refE [] t).2, (getE L told nm).told⟩ := by
  simp only [fillE]; rw [if_neg (by decide), h]; simp only; rw [if_neg he]
theorem fill_ref {L : EnL} {f : Nat} {t : List UInt8} {at_ : Nat} {out : List UInt8} {told : Nat} {nm : List UInt8} (h : (refE [] t).1 = some nm) (he : (getE L told nm).e = 0) :
    fillE L (f + 1) (38 :: t) at_ out told = fillE L f (t.drop ((refE [] t).2 + 1)) (at_ + 1 + (refE [] t).2 + 1) (out ++ (getE L told nm).s) (getE L told nm).told := by
  simp only [fillE]; rw [if_neg (by decide), h]; simp only; rw [if_pos he]
theorem fill_end {L : EnL} {f : Nat} {at_ : Nat} {out : List UInt8} {told : Nat} : fillE L f [] at_ out told = ⟨out, 0, at_, told⟩ := by
  cases f <;> rfl

theorem local_semi (acc : List UInt8) : localL (acc ++ [59]) = false := by
  cases acc with
  | nil => decide
  | cons c t =>
    simp only [List.cons_append, localL]
    rw [List.all_append]
    simp [laterB]
/-- The beginnings of a local name are local names. -/
theorem local_pre {a b : List UInt8} (ha : a ≠ []) (h : localL (a ++ b) = true) : localL a = true := by
  cases a with
  | nil => exact absurd rfl ha
  | cons c t =>
    simp only [List.cons_append, localL, Bool.and_eq_true, decide_eq_true_eq, List.all_append, List.length_append] at h ⊢
    exact ⟨⟨by omega, h.1.2⟩, h.2.1⟩
theorem ref_name : ∀ (b acc rest : List UInt8), acc ++ b ≠ [] → localL (acc ++ b) = true → refE acc (b ++ 59 :: rest) = (some (acc ++ b), b.length)
  | [], acc, rest, hne, h => by
    rw [List.append_nil] at hne
    simp only [List.nil_append, refE, List.append_nil, List.length_nil]
    rw [if_neg (by rw [local_semi]; decide), if_pos ⟨trivial, hne⟩]
  | c :: t, acc, rest, _, h => by
    have h1 : localL (acc ++ [c]) = true := local_pre (b := t) (by simp) (by simpa using h)
    have ih := ref_name t (acc ++ [c]) rest (by simp) (by simpa using h)
    simp only [List.cons_append, refE]
    rw [if_pos h1, ih]
    simp
theorem ref_is {nm rest : List UInt8} (h : localL nm = true) : refE [] (nm ++ 59 :: rest) = (some nm, nm.length) := by
  have hn : nm ≠ [] := by intro e; subst e; cases h
  have := ref_name nm [] rest (by simpa using hn) (by simpa using h)
  simpa using this

/-- How far a reference reaches. -/
theorem ref_le : ∀ (l acc : List UInt8), (refE acc l).2 ≤ l.length
  | [], _ => Nat.le_refl _
  | c :: t, acc => by
    simp only [refE]
    split
    · have := ref_le t (acc ++ [c]); simp only [List.length_cons]; omega
    · split <;> simp
theorem ref_lt : ∀ (l acc nm : List UInt8), (refE acc l).1 = some nm → (refE acc l).2 < l.length
  | [], _, _, h => by cases h
  | c :: t, acc, nm, h => by
    simp only [refE] at h ⊢
    split at h
    · rename_i hl
      rw [if_pos hl]
      have := ref_lt t (acc ++ [c]) nm h
      simp only [List.length_cons]; omega
    · rename_i hl
      rw [if_neg hl]
      split <;> simp

/-- Where no & is nothing changes. -/
theorem fill_plain (L : EnL) : ∀ (l : List UInt8) (f at_ : Nat) (out : List UInt8) (told : Nat), (∀ c ∈ l, c ≠ 38) → l.length ≤ f → fillE L f l at_ out told = ⟨out ++ l, 0, at_ + l.length, told⟩
  | [], f, at_, out, told, _, _ => by rw [fill_end]; simp
  | c :: t, 0, _, _, _, _, h => by simp at h
  | c :: t, f + 1, at_, out, told, hc, hf => by
    rw [fill_byte (hc c (by simp)), fill_plain L t f (at_ + 1) (out ++ [c]) told (fun d hd => hc d (by simp [hd])) (by simpa using hf)]
    simp; omega
theorem fill_front (L : EnL) (r : List UInt8) : ∀ (l : List UInt8) (f at_ : Nat) (out : List UInt8) (told : Nat), (∀ c ∈ l, c ≠ 38) → l.length ≤ f → fillE L f (l ++ r) at_ out told = fillE L (f - l.length) r (at_ + l.length) (out ++ l) told
  | [], f, at_, out, told, _, _ => by simp
  | c :: t, 0, _, _, _, _, h => by simp at h
  | c :: t, f + 1, at_, out, told, hc, hf => by
    rw [List.cons_append, fill_byte (hc c (by simp)), fill_front L r t f (at_ + 1) (out ++ [c]) told (fun d hd => hc d (by simp [hd])) (by simpa using hf)]
    congr 1 <;> simp <;> omega
/-- What is defined is told by a reference, or why not. -/
theorem fill_tells (L : EnL) (front nm : List UInt8) (told : Nat) (hf : ∀ c ∈ front, c ≠ 38) (hn : localL nm = true) :
    fillL L (front ++ 38 :: (nm ++ [59])) told = if (getE L told nm).e = 0 then ⟨front ++ (getE L told nm).s, 0, front.length + 1 + nm.length + 1, (getE L told nm).told⟩ else ⟨[], (getE L told nm).e, front.length + 1 + nm.length, (getE L told nm).told⟩ := by
  have hr : refE [] (nm ++ [59]) = (some nm, nm.length) := ref_is (rest := []) hn
  unfold fillL
  rw [fill_front L _ front _ _ _ _ hf (by simp)]
  have hfl : (front ++ 38 :: (nm ++ [59])).length - front.length = (nm.length + 1) + 1 := by simp only [List.length_append, List.length_cons, List.length_nil]; omega
  rw [hfl]
  simp only [List.nil_append, Nat.zero_add]
  split
  · rename_i h
    rw [fill_ref (nm := nm) (by rw [hr]) h, hr]
    simp only
    rw [List.drop_eq_nil_of_le (by simp), fill_end]
  · rename_i h
    rw [fill_no (nm := nm) (by rw [hr]) h, hr]

theorem get_e (L : EnL) (told : Nat) (n : List UInt8) : (getE L told n).told = told ∨ (getE L told n).told = told + 1 := by
  unfold getE
  split
  · exact .inl rfl
  · split
    · exact .inl rfl
    · split
      · exact .inl rfl
      · exact .inr rfl
theorem find_size {n t : List UInt8} : ∀ {L : EnL}, findE n L = some t → t.length ≤ sizeE L
  | [], h => by cases h
  | x :: L, h => by
    simp only [findE] at h
    simp only [sizeE]
    split at h
    · injection h with h; subst h; omega
    · have := find_size h; omega
theorem get_len {L : EnL} {told : Nat} {n : List UInt8} (h : sizeE L ≤ 200) : (getE L told n).s.length ≤ 200 := by
  unfold getE
  split
  · rename_i t ht
    unfold fourE at ht
    repeat' split at ht
    all_goals first
      | (cases ht; simp; done)
      | cases ht
  · split
    · simp
    · rename_i t ht
      split
      · simp
      · have := find_size ht; simp only; omega
theorem size_snoc : ∀ (L : EnL) (n t : List UInt8), sizeE (L ++ [(n, t)]) = sizeE L + n.length + t.length
  | [], n, t => by simp [sizeE]
  | x :: L, n, t => by simp only [List.cons_append, sizeE, size_snoc L n t]; omega
theorem def_size {L : EnL} {n t : List UInt8} (h : sizeE L ≤ 200) : sizeE (defE L n t) ≤ 200 := by
  unfold defE
  split
  · rename_i hc
    rw [size_snoc]
    unfold defC at hc
    repeat' split at hc
    all_goals first
      | omega
      | cases hc
  · exact h
theorem def_len (L : EnL) (n t : List UInt8) : (defE L n t).length ≤ L.length + 1 := by
  unfold defE; split <;> simp
theorem find_snoc (n m t : List UInt8) : ∀ L : EnL, findE n (L ++ [(m, t)]) = match findE n L with | some x => some x | none => if m = n then some t else none
  | [] => rfl
  | x :: L => by
    simp only [List.cons_append, findE]
    split
    · rfl
    · exact find_snoc n m t L
end Go.Proofs.YtjepnddndpmnnaaGreatDoor
namespace Go.Proofs.YtjepnddndpmnnaaGreatDoor
set_option linter.unusedSectionVars false
variable [Tab]
def mayB1 (nm : ByteArray) (b : UInt8) : Bool := Nm.begB (nm.data.toList ++ [b])
def blankB (b : UInt8) : Bool := decide (b.toNat = 32 ∨ b.toNat = 9 ∨ b.toNat = 10 ∨ b.toNat = 13)
/-- What End tells: the normal form, and an error. -/
def endS (nm : ByteArray) : ByteArray := if Nm.isB nm.data.toList = true then Nm.readS nm.data.toList else ⟨#[]⟩
def endC (nm : ByteArray) : Int := if Nm.isB nm.data.toList = true then Nm.readC nm.data.toList else 2
theorem endS_size (nm : ByteArray) : (endS nm).size ≤ 30 := by
  unfold endS
  split
  · generalize nm.data.toList = l
    cases h : Nm.readL l with
    | none => rw [Nm.readS_none h]; exact Nat.zero_le _
    | some v =>
      rw [Nm.readS_some h]
      have h2 : Nm.okV v = true := by
        unfold Nm.readL Nm.readE at h
        split at h
        · split at h
          · rename_i hok
            injection h with h
            rw [← h]; exact hok
          · cases h
        · cases h
      unfold Nm.okV at h2
      have h3 := (of_decide_eq_true h2).2.2
      show (Nm.formL v).toArray.size ≤ 30
      rw [List.size_toArray]
      exact h3
  · exact Nat.zero_le _
end Go.Proofs.YtjepnddndpmnnaaGreatDoor
namespace Go.Proofs.YtjepnddndpmnnaaGreatDoor
set_option maxRecDepth 100000
set_option linter.unusedSectionVars false
variable [Tab]

/-- A name as it is written: its prefix, or none; its local name. -/
structure Na where
  p : List UInt8
  l : List UInt8
deriving DecidableEq
/-- The machine: where the next byte stands; what the open mark lacks; the open definition's name, as it grows and whole; the entities; the open raw text, its expansion, whether a reference is open, and its name; the open name, behind and ahead of its colon; the open tag's name, the open attribute's, the tag's attributes; the end tag's name; the open elements; the scopes. -/
structure Ag where
  a : Int
  rest : List UInt8
  ent : List UInt8
  nmd : List UInt8
  L : EnL
  told : Nat
  rt : List UInt8
  rr : Bool
  rn : List UInt8
  nt : List UInt8
  np : List UInt8
  el : Na
  an : Na
  ats : List (Na × List UInt8)
  en : Na
  op : List Na
  sc : Ns.St
def ag0 : Ag := ⟨0, [], [], [], [], 0, [], false, [], [], [], ⟨[], []⟩, ⟨[], []⟩, [], ⟨[], []⟩, [], []⟩
structure As where
  m : Ag
  st : List Pt
  l : List Ev
structure Ar where
  b : As
  e : Int
/-- What a call that tells nothing leaves of the machine. -/
structure Mr where
  m : Ag
  e : Int
def as0 : As := ⟨ag0, [topP], []⟩
def bs (l : List UInt8) : ByteArray := ⟨l.toArray⟩
def As.mr (s : As) (r : Mr) : Ar := ⟨{ s with m := r.m }, r.e⟩
def tellA (s : As) (x : Ev) : Ar := ⟨⟨s.m, stepS s.st x, tellL s.st s.l x⟩, stepE s.st x⟩

/-! Local names, byte by byte. -/
def goesN (t : List UInt8) (b : UInt8) : Bool := localL (t.take 1 ++ [b])

/-! Raw text. -/
def putR (s : Ag) (t : List UInt8) : Mr := if 48 < s.rt.length + t.length then ⟨s, 4⟩ else ⟨{ s with rt := s.rt ++ t }, 0⟩
def getA (s : Ag) : GR := getE s.L s.told s.rn
def referA (s : Ag) (b : UInt8) : Mr :=
  if goesN s.rn b = true then (if 16 ≤ s.rn.length then ⟨s, 2⟩ else ⟨{ s with rn := s.rn ++ [b] }, 0⟩)
  else if s.rn = [] ∨ b.toNat ≠ 59 then ⟨{ s with rn := [] }, 2⟩
  else if (getA s).e ≠ 0 then ⟨{ s with rn := [], told := (getA s).told }, (getA s).e⟩
  else putR { s with rn := [], told := (getA s).told, rr := false } (getA s).s
def addR (s : Ag) (b : UInt8) : Mr :=
  if s.rr = true then referA s b
  else if b.toNat = 38 then ⟨{ s with rr := true }, 0⟩
  else if b.toNat = 60 ∨ (b.toNat < 32 ∧ blankB b = false) then ⟨s, 2⟩
  else putR s [b]
def endedA (s : Ag) (b : UInt8) (c : Nat) : Bool := decide (b.toNat = c) && !s.rr

/-! Names. -/
def goesA (s : Ag) (b : UInt8) : Bool := goesN s.nt b || (decide (b.toNat = 58) && decide (s.np = []))
def nameAdd (s : Ag) (b : UInt8) : Mr :=
  if b.toNat ≠ 58 then (if 16 ≤ s.nt.length then ⟨s, 4⟩ else ⟨{ s with nt := s.nt ++ [b] }, 0⟩)
  else ⟨{ s with np := s.nt, nt := [] }, if s.nt = [] then 2 else 0⟩
def nameOf (s : Ag) : Na := ⟨s.np, s.nt⟩
def nameGone (s : Ag) : Ag := { s with nt := [], np := [] }
def mustA (s : Ag) (b : UInt8) (c : Nat) (a : Int) : Mr := if b.toNat ≠ c then ⟨s, 2⟩ else ⟨{ s with a := a }, 0⟩

/-! Definitions. -/
def markedA (s : Ag) (b : UInt8) : Mr :=
  if b ≠ s.rest.headD 0 then ⟨s, 2⟩
  else if s.rest.tail = [] then ⟨{ s with rest := [], a := 3 }, 0⟩ else ⟨{ s with rest := s.rest.tail }, 0⟩
def entNameA (s : Ag) (b : UInt8) : Mr :=
  if goesN s.ent b = true then (if 16 ≤ s.ent.length then ⟨s, 4⟩ else ⟨{ s with ent := s.ent ++ [b] }, 0⟩)
  else if s.ent = [] then ⟨{ s with nmd := [], ent := [] }, 2⟩
  else mustA { s with nmd := s.ent, ent := [] } b 32 4
def entTextA (s : Ag) (b : UInt8) : Mr := if endedA s b 34 = true then ⟨{ s with a := 6 }, 0⟩ else addR s b
def defineA (s : Ag) (b : UInt8) : Mr :=
  if b.toNat ≠ 62 then ⟨s, 2⟩ else ⟨{ s with a := 0, rt := [], L := defE s.L s.nmd s.rt }, defC s.L s.nmd s.rt⟩

/-! Tags. -/
def xmlnsL : List UInt8 := [120, 109, 108, 110, 115]
/-- The prefix that an attribute binds. -/
def bindsA (n : Na) : Option (List UInt8) := if n.p = xmlnsL then some n.l else if n.p = [] ∧ n.l = xmlnsL then some [] else none
def bindErr (e : Int) : Int := if e = 1 then 18 else e
structure Br where
  st : Ns.St
  e : Int
def bindAllA : List (Na × List UInt8) → Ns.St → Br
  | [], st => ⟨st, 0⟩
  | a :: r, st => match bindsA a.1 with
    | none => bindAllA r st
    | some p => if Ns.bindE p a.2 st = 0 then bindAllA r (Ns.bindS p a.2 st) else ⟨Ns.bindS p a.2 st, bindErr (Ns.bindE p a.2 st)⟩
/-- The space of a name. -/
def spaceA (st : Ns.St) (el : Bool) (n : Na) : Option (List UInt8) :=
  if el = true ∨ n.p ≠ [] then (match Ns.spaceS n.p st with | some s => some s | none => if n.p = [] then some [] else none) else some []
def fullA (st : Ns.St) (el : Bool) (n : Na) : Option (List UInt8) := match spaceA st el n with
  | none => none
  | some s => joinL s n.l
def tellN (s : As) (el : Bool) (n : Na) (v : List UInt8) : Ar := match fullA s.m.sc el n with
  | none => ⟨s, 18⟩
  | some f => tellA s ⟨if el = true then 10 else 11, bs f, bs v⟩
def tellAts : List (Na × List UInt8) → As → Ar
  | [], s => ⟨s, 0⟩
  | a :: r, s => if (bindsA a.1).isSome = true then tellAts r s else if (tellN s false a.1 a.2).e ≠ 0 then tellN s false a.1 a.2 else tellAts r (tellN s false a.1 a.2).b
def tellElemA (s : As) : Ar :=
  if (tellN s true s.m.el []).e ≠ 0 then tellN s true s.m.el []
  else if (tellAts s.m.ats (tellN s true s.m.el []).b).e ≠ 0 then tellAts s.m.ats (tellN s true s.m.el []).b
  else ⟨{ (tellAts s.m.ats (tellN s true s.m.el []).b).b with m := { s.m with ats := [] } }, 0⟩
def opened (s : Ag) : Ag := { s with op := s.op ++ [s.el], sc := [] :: s.sc }
def openA (s : As) : Ar :=
  if (bindAllA s.m.ats ([] :: s.m.sc)).e ≠ 0 then ⟨{ s with m := { opened s.m with sc := (bindAllA s.m.ats ([] :: s.m.sc)).st } }, (bindAllA s.m.ats ([] :: s.m.sc)).e⟩
  else tellElemA { s with m := { opened s.m with sc := (bindAllA s.m.ats ([] :: s.m.sc)).st } }
def setAt (s : As) (a : Int) : As := { s with m := { s.m with a := a } }
def endAttrsA (s : As) (b : UInt8) : Ar := if b.toNat = 47 then openA (setAt s 14) else if b.toNat = 62 then openA (setAt s 15) else ⟨s, 2⟩
def behindAttrA (s : As) (b : UInt8) : Ar := if blankB b = true then ⟨setAt s 9, 0⟩ else endAttrsA s b
def equalsA (s : Ag) (b : UInt8) : Mr := if b.toNat = 61 ∧ 20 ≤ s.ats.length then ⟨s, 7⟩ else mustA s b 61 12
def attrTextA (s : Ag) (b : UInt8) : Mr := if endedA s b 34 = true then ⟨{ s with a := 8, ats := s.ats ++ [(s.an, s.rt)], rt := [] }, 0⟩ else addR s b
def closedA (s : Ag) : Ag := { s with sc := Ns.closeS s.sc, op := s.op.dropLast, a := if s.op.dropLast = [] then 18 else 15 }
def endElemA (s : As) : Ar := tellA { s with m := closedA s.m } (bare 12)
def endEmptyA (s : As) (b : UInt8) : Ar := if b.toNat ≠ 62 then ⟨s, 2⟩ else endElemA s
def endTagA (s : As) (b : UInt8) : Ar := if b.toNat ≠ 62 then ⟨s, 2⟩ else if s.m.en ≠ s.m.op.getLastD ⟨[], []⟩ then ⟨s, 18⟩ else endElemA s
def contentA (s : As) (b : UInt8) : Ar :=
  if endedA s.m b 60 = false then s.mr (addR s.m b)
  else if s.m.rt = [] then ⟨setAt s 1, 0⟩
  else tellA { s with m := { s.m with a := 1, rt := [] } } ⟨4, bs s.m.rt, ⟨#[]⟩⟩

/-! The step. -/
def inElem (s : As) (b : UInt8) : Ar :=
  if goesA s.m b = true then s.mr (nameAdd s.m b)
  else if s.m.nt = [] then ⟨{ s with m := { nameGone s.m with el := nameOf s.m } }, 2⟩
  else behindAttrA { s with m := { nameGone s.m with el := nameOf s.m, a := 8 } } b
def inAttr (s : As) (b : UInt8) : Ar :=
  if goesA s.m b = true then s.mr (nameAdd s.m b)
  else if s.m.nt = [] then ⟨{ s with m := { nameGone s.m with an := nameOf s.m } }, 2⟩
  else s.mr (equalsA { nameGone s.m with an := nameOf s.m, a := 11 } b)
def atEnd (s : As) (b : UInt8) : Ar := if blankB b = true then ⟨s, 0⟩ else endTagA s b
def inEnd (s : As) (b : UInt8) : Ar :=
  if goesA s.m b = true then s.mr (nameAdd s.m b)
  else if s.m.nt = [] then ⟨{ s with m := { nameGone s.m with en := nameOf s.m } }, 2⟩
  else atEnd { s with m := { nameGone s.m with en := nameOf s.m, a := 17 } } b
def markL : List UInt8 := [33, 69, 78, 84, 73, 84, 89, 32]
def beginA (s : As) (b : UInt8) : Ar :=
  if s.m.op = [] ∧ b.toNat = 33 then s.mr (markedA { s.m with a := 2, rest := markL } b)
  else if s.m.op ≠ [] ∧ b.toNat = 47 then ⟨setAt s 16, 0⟩
  else inElem (setAt s 7) b
def beginAttrA (s : As) (b : UInt8) : Ar := if b.toNat = 47 ∨ b.toNat = 62 then endAttrsA s b else inAttr (setAt s 10) b
def skipsA (a : Int) : Bool := decide (a = 0 ∨ a = 6 ∨ a = 9 ∨ a = 17 ∨ a = 18)
def stepA (s : As) (b : UInt8) : Ar :=
  if blankB b = true ∧ skipsA s.m.a = true then ⟨s, 0⟩
  else if s.m.a = 0 then s.mr (mustA s.m b 60 1)
  else if s.m.a = 1 then beginA s b
  else if s.m.a = 2 then s.mr (markedA s.m b)
  else if s.m.a = 3 then s.mr (entNameA s.m b)
  else if s.m.a = 4 then s.mr (mustA s.m b 34 5)
  else if s.m.a = 5 then s.mr (entTextA s.m b)
  else if s.m.a = 6 then s.mr (defineA s.m b)
  else if s.m.a = 7 then inElem s b
  else if s.m.a = 8 then behindAttrA s b
  else if s.m.a = 9 then beginAttrA s b
  else if s.m.a = 10 then inAttr s b
  else if s.m.a = 11 then s.mr (equalsA s.m b)
  else if s.m.a = 12 then s.mr (mustA s.m b 34 13)
  else if s.m.a = 13 then s.mr (attrTextA s.m b)
  else if s.m.a = 14 then endEmptyA s b
  else if s.m.a = 15 then contentA s b
  else if s.m.a = 16 then inEnd s b
  else if s.m.a = 17 then endTagA s b
  else ⟨s, 2⟩
def endAgE (s : As) : Int := if s.m.a ≠ 18 then 2 else 0
end Go.Proofs.YtjepnddndpmnnaaGreatDoor

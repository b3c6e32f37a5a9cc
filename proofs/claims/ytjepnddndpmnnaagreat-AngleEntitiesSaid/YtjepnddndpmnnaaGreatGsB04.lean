/-
  Scopes as plain functions: scopes innermost first, each with what it binds, newest first; and the reference's one list. No program is read here.
  Entities as plain functions on bytes: what is defined, asked, filled in. No program is read here.
  Contracts of num's machine: digit, step, complete, May.
  Memory words: a block that is known whole, worlds in which one block has turned, small laws.
-/
import Derived.Test.YtjepnddndpmnnaaGreatGsB01
import Derived.Test.YtjepnddndpmnnaaGreatChecked
import Derived.Test.YtjepnddndpmnnaaGreatGsB02
import Derived.WalkKit
import Derived.WalkSpells
import Derived.WalkLawsBesides
import Derived.Lib.Hide
import Derived.Below
import Derived.Laws.OwnMore
import Derived.Deep.Draws
import Derived.Laws.Rows
import Derived.Deep.OwnRows
import Derived.OwnWalk
namespace Go.Proofs.YtjepnddndpmnnaaGreat.Ns
set_option maxRecDepth 8000

abbrev Sc := List (List UInt8 × List UInt8)
abbrev St := List Sc

def lookP (p : List UInt8) : Sc → Option (List UInt8)
  | [] => none
  | x :: r => if x.1 = p then some x.2 else lookP p r
def spaceS (p : List UInt8) : St → Option (List UInt8)
  | [] => none
  | m :: r => (lookP p m).orElse fun _ => spaceS p r
def mayP (p s : List UInt8) : Bool := if s = [] then decide (p = []) else spaceL s && (decide (p = []) || localL p)
def bindE (p s : List UInt8) : St → Int
  | [] => 1
  | m :: _ => if mayP p s = false then 1 else if (lookP p m).isSome = true then 6 else if 10 ≤ m.length then 7 else 0
def bindS (p s : List UInt8) : St → St
  | [] => []
  | m :: r => if bindE p s (m :: r) = 0 then ((p, s) :: m) :: r else m :: r
def closeE : St → Int
  | [] => 21
  | _ :: _ => 0
def closeS : St → St
  | [] => []
  | _ :: r => r

structure Pr where
  p : List UInt8
  s : List UInt8
  n : Nat
def tag (n : Nat) (m : Sc) : List Pr := m.map fun x => ⟨x.1, x.2, n⟩
/-- The reference's list, newest first. -/
def flat : St → List Pr
  | [] => []
  | m :: r => tag (r.length + 1) m ++ flat r
/-- The reference's list as it stands. -/
def refL (st : St) : List Pr := (flat st).reverse
def find3 (p : List UInt8) : List Pr → Option (List UInt8)
  | [] => none
  | x :: r => if x.p = p then some x.s else find3 p r

theorem find_tag (p : List UInt8) (n : Nat) (m : Sc) (l : List Pr) : find3 p (tag n m ++ l) = (lookP p m).orElse fun _ => find3 p l := by
  induction m with
  | nil => rfl
  | cons x m ih =>
    simp only [tag, List.map_cons, List.cons_append, find3, lookP] at ih ⊢
    by_cases h : x.1 = p
    · rw [if_pos h, if_pos h]; rfl
    · rw [if_neg h, if_neg h]; exact ih
theorem find_flat (p : List UInt8) (st : St) : find3 p (flat st) = spaceS p st := by
  induction st with
  | nil => rfl
  | cons m r ih =>
    simp only [flat, spaceS]
    rw [find_tag, ih]
theorem flat_rest (st : St) : ∀ x ∈ flat st, x.n ≤ st.length ∧ 1 ≤ x.n := by
  induction st with
  | nil => intro x hx; cases hx
  | cons m r ih =>
    intro x hx
    simp only [flat, tag] at hx
    rcases List.mem_append.1 hx with hx | hx
    · obtain ⟨y, _, rfl⟩ := List.mem_map.1 hx
      simp
    · have := ih x hx
      simp only [List.length_cons]
      omega
theorem refL_cons (m : Sc) (r : St) : refL (m :: r) = refL r ++ (tag (r.length + 1) m).reverse := by simp [refL, flat]
theorem refL_open (st : St) : refL ([] :: st) = refL st := by rw [refL_cons]; simp [tag]
theorem refL_bind (p s : List UInt8) (m : Sc) (r : St) : refL (((p, s) :: m) :: r) = refL (m :: r) ++ [⟨p, s, r.length + 1⟩] := by rw [refL_cons, refL_cons]; simp [tag]
theorem refL_rest (st : St) : ∀ x ∈ refL st, x.n ≤ st.length ∧ 1 ≤ x.n := fun x hx => flat_rest st x (List.mem_reverse.1 hx)
theorem filter_close (m : Sc) (r : St) : (refL (m :: r)).filter (fun x => decide (x.n < r.length + 1)) = refL r := by
  rw [refL_cons, List.filter_append]
  have e1 : (refL r).filter (fun x => decide (x.n < r.length + 1)) = refL r := by
    rw [List.filter_eq_self]
    intro x hx
    have := refL_rest r x hx
    simp
    omega
  have e2 : ((tag (r.length + 1) m).reverse).filter (fun x => decide (x.n < r.length + 1)) = [] := by
    rw [List.filter_eq_nil_iff]
    intro x hx
    have := List.mem_reverse.1 hx
    simp only [tag] at this
    obtain ⟨y, _, rfl⟩ := List.mem_map.1 this
    simp
  rw [e1, e2, List.append_nil]

/-- How many of them stand in the innermost scope; and whether one of those binds p. -/
def inner (n : Nat) (l : List Pr) : Nat := (l.filter fun x => decide (x.n = n)).length
def boundIn (n : Nat) (p : List UInt8) (l : List Pr) : Bool := l.any fun x => decide (x.n = n) && decide (x.p = p)
theorem inner_refL (m : Sc) (r : St) : inner (r.length + 1) (refL (m :: r)) = m.length := by
  unfold inner
  rw [refL_cons, List.filter_append]
  have e1 : (refL r).filter (fun x => decide (x.n = r.length + 1)) = [] := by
    rw [List.filter_eq_nil_iff]
    intro x hx
    have := refL_rest r x hx
    simp
    omega
  have e2 : ((tag (r.length + 1) m).reverse).filter (fun x => decide (x.n = r.length + 1)) = (tag (r.length + 1) m).reverse := by
    rw [List.filter_eq_self]
    intro x hx
    have := List.mem_reverse.1 hx
    simp only [tag] at this
    obtain ⟨y, _, rfl⟩ := List.mem_map.1 this
    simp
  rw [e1, e2]
  simp [tag]
theorem any_tag (p : List UInt8) (n : Nat) (m : Sc) : (tag n m).any (fun x => decide (x.n = n) && decide (x.p = p)) = (lookP p m).isSome := by
  induction m with
  | nil => rfl
  | cons x m ih =>
    simp only [tag, List.map_cons, List.any_cons, lookP] at ih ⊢
    rw [ih]
    by_cases h : x.1 = p
    · simp [h]
    · simp [h]
theorem bound_refL (p : List UInt8) (m : Sc) (r : St) : boundIn (r.length + 1) p (refL (m :: r)) = (lookP p m).isSome := by
  unfold boundIn
  rw [refL_cons, List.any_append, List.any_reverse, any_tag]
  have e1 : (refL r).any (fun x => decide (x.n = r.length + 1) && decide (x.p = p)) = false := by
    rw [List.any_eq_false]
    intro x hx
    have := refL_rest r x hx
    simp
    omega
  rw [e1, Bool.false_or]
theorem inner_snoc (n : Nat) (l : List Pr) (x : Pr) : inner n (l ++ [x]) = inner n l + if x.n = n then 1 else 0 := by
  unfold inner
  rw [List.filter_append, List.length_append]
  by_cases h : x.n = n <;> simp [h]
theorem inner_le (n : Nat) (l : List Pr) : inner n l ≤ l.length := List.length_filter_le _ _
theorem bound_snoc (n : Nat) (p : List UInt8) (l : List Pr) (x : Pr) : boundIn n p (l ++ [x]) = (boundIn n p l || (decide (x.n = n) && decide (x.p = p))) := by
  unfold boundIn
  rw [List.any_append]
  simp
/-- All that is kept is short. -/
def Small (st : St) : Prop := ∀ m ∈ st, m.length ≤ 10
theorem bind_len (p s : List UInt8) (st : St) : (bindS p s st).length = st.length := by
  cases st with
  | nil => rfl
  | cons m r => simp only [bindS]; split <;> rfl
theorem refL_bind_len (p s : List UInt8) (st : St) : (refL (bindS p s st)).length ≤ (refL st).length + 1 := by
  cases st with
  | nil => simp [bindS]
  | cons m r =>
    simp only [bindS]
    split
    · rw [refL_bind]; simp
    · omega
theorem refL_close_len (st : St) : (refL (closeS st)).length ≤ (refL st).length := by
  cases st with
  | nil => simp [closeS]
  | cons m r => simp only [closeS]; rw [refL_cons]; simp
end Go.Proofs.YtjepnddndpmnnaaGreat.Ns
namespace Go.Proofs.YtjepnddndpmnnaaGreat
set_option maxRecDepth 8000

abbrev EnL := List (List UInt8 × List UInt8)
def fourE (n : List UInt8) : Option (List UInt8) :=
  if n = [108, 116] then some [60] else if n = [103, 116] then some [62] else if n = [97, 109, 112] then some [38] else if n = [113, 117, 111, 116] then some [34] else none
def findE (n : List UInt8) : EnL → Option (List UInt8)
  | [] => none
  | x :: L => if x.1 = n then some x.2 else findE n L
def sizeE : EnL → Nat
  | [] => 0
  | x :: L => x.1.length + x.2.length + sizeE L
def defC (L : EnL) (n t : List UInt8) : Int :=
  if localL n = false then 1 else if (runesL t).isSome = false then 3 else if (fourE n).isSome || (findE n L).isSome then 6 else if 200 < sizeE L + n.length + t.length then 15 else 0
def defE (L : EnL) (n t : List UInt8) : EnL := if defC L n t = 0 then L ++ [(n, t)] else L
/-- What Get tells: the text, the error, how many were told behind it. -/
structure GR where
  s : List UInt8
  e : Int
  told : Nat
def getE (L : EnL) (told : Nat) (n : List UInt8) : GR :=
  match fourE n with
  | some t => ⟨t, 0, told⟩
  | none => match findE n L with
    | none => ⟨[], 14, told⟩
    | some t => if 40 ≤ told then ⟨[], 13, told⟩ else ⟨t, 0, told + 1⟩
/-- The reference behind a &: its name, or none; how many bytes stand ahead of the byte that ends it, or with which none goes on. -/
def refE (acc : List UInt8) : List UInt8 → Option (List UInt8) × Nat
  | [] => (none, 0)
  | c :: t => if localL (acc ++ [c]) = true then ((refE (acc ++ [c]) t).1, (refE (acc ++ [c]) t).2 + 1) else if c = 59 ∧ acc ≠ [] then (some acc, 0) else (none, 0)
structure FR where
  s : List UInt8
  e : Int
  n : Nat
  told : Nat
def fillE (L : EnL) : Nat → List UInt8 → Nat → List UInt8 → Nat → FR
  | 0, _, at_, out, told => ⟨out, 0, at_, told⟩
  | _ + 1, [], at_, out, told => ⟨out, 0, at_, told⟩
  | f + 1, c :: t, at_, out, told =>
    if c ≠ 38 then fillE L f t (at_ + 1) (out ++ [c]) told
    else match (refE [] t).1 with
      | none => ⟨[], 2, at_ + 1 + (refE [] t).2, told⟩
      | some nm => if (getE L told nm).e = 0 then fillE L f (t.drop ((refE [] t).2 + 1)) (at_ + 1 + (refE [] t).2 + 1) (out ++ (getE L told nm).s) (getE L told nm).told
        else ⟨[], (getE L told nm).e, at_ + 1 + (refE [] t).2, (getE L told nm).told⟩
def fillL (L : EnL) (raw : List UInt8) (told : Nat) : FR := fillE L raw.length raw 0 [] told

theorem fill_byte {L : EnL} {f : Nat} {c : UInt8} {t : List UInt8} {at_ : Nat} {out : List UInt8} {told : Nat} (h : c ≠ 38) : fillE L (f + 1) (c :: t) at_ out told = fillE L f t (at_ + 1) (out ++ [c]) told := by
  simp only [fillE]; rw [if_pos h]
theorem fill_bad {L : EnL} {f : Nat} {t : List UInt8} {at_ : Nat} {out : List UInt8} {told : Nat} (h : (refE [] t).1 = none) : fillE L (f + 1) (38 :: t) at_ out told = ⟨[], 2, at_ + 1 + (refE [] t).2, told⟩ := by
  simp only [fillE]; rw [if_neg (by decide), h]
theorem fill_no {L : EnL} {f : Nat} {t : List UInt8} {at_ : Nat} {out : List UInt8} {told : Nat} {nm : List UInt8} (h : (refE [] t).1 = some nm) (he : (getE L told nm).e ≠ 0) :
    fillE L (f + 1) (38 :: t) at_ out told = ⟨[], (getE L told nm).e, at_ + 1 + (refE [] t).2, (getE L told nm).told⟩ := by
  simp only [fillE]; rw [if_neg (by decide), h]; simp only; rw [if_neg he]
theorem fill_ref {L : EnL} {f : Nat} {t : List UInt8} {at_ : Nat} {out : List UInt8} {told : Nat} {nm : List UInt8} (h : (refE [] t).1 = some nm) (he : (getE L told nm).e = 0) :
    fillE L (f + 1) (38 :: t) at_ out told = fillE L f (t.drop ((refE [] t).2 + 1)) (at_ + 1 + (refE [] t).2 + 1) (out ++ (getE L told nm).s) (getE L told nm).told := by
  simp only [fillE]; rw [if_neg (by decide), h]; simp only; rw [if_pos he]
theorem fill_end {L : EnL} {f : Nat} {at_ : Nat} {out : List UInt8} {told : Nat} : fillE L f [] at_ out told = ⟨out, 0, at_, told⟩ := by
  cases f <;> rfl

theorem local_semi (acc : List UInt8) : localL (acc ++ [59]) = false := by
  cases acc with
  | nil => decide
  | cons c t =>
    simp only [List.cons_append, localL]
    rw [List.all_append]
    simp [laterB]
/-- The beginnings of a local name are local names. -/
theorem local_pre {a b : List UInt8} (ha : a ≠ []) (h : localL (a ++ b) = true) : localL a = true := by
  cases a with
  | nil => exact absurd rfl ha
  | cons c t =>
    simp only [List.cons_append, localL, Bool.and_eq_true, decide_eq_true_eq, List.all_append, List.length_append] at h ⊢
    exact ⟨⟨by omega, h.1.2⟩, h.2.1⟩
theorem ref_name : ∀ (b acc rest : List UInt8), acc ++ b ≠ [] → localL (acc ++ b) = true → refE acc (b ++ 59 :: rest) = (some (acc ++ b), b.length)
  | [], acc, rest, hne, h => by
    rw [List.append_nil] at hne
    simp only [List.nil_append, refE, List.append_nil, List.length_nil]
    rw [if_neg (by rw [local_semi]; decide), if_pos ⟨trivial, hne⟩]
  | c :: t, acc, rest, _, h => by
    have h1 : localL (acc ++ [c]) = true := local_pre (b := t) (by simp) (by simpa using h)
    have ih := ref_name t (acc ++ [c]) rest (by simp) (by simpa using h)
    simp only [List.cons_append, refE]
    rw [if_pos h1, ih]
    simp
theorem ref_is {nm rest : List UInt8} (h : localL nm = true) : refE [] (nm ++ 59 :: rest) = (some nm, nm.length) := by
  have hn : nm ≠ [] := by intro e; subst e; cases h
  have := ref_name nm [] rest (by simpa using hn) (by simpa using h)
  simpa using this

/-- How far a reference reaches. -/
theorem ref_le : ∀ (l acc : List UInt8), (refE acc l).2 ≤ l.length
  | [], _ => Nat.le_refl _
  | c :: t, acc => by
    simp only [refE]
    split
    · have := ref_le t (acc ++ [c]); simp only [List.length_cons]; omega
    · split <;> simp
theorem ref_lt : ∀ (l acc nm : List UInt8), (refE acc l).1 = some nm → (refE acc l).2 < l.length
  | [], _, _, h => by cases h
  | c :: t, acc, nm, h => by
    simp only [refE] at h ⊢
    split at h
    · rename_i hl
      rw [if_pos hl]
      have := ref_lt t (acc ++ [c]) nm h
      simp only [List.length_cons]; omega
    · rename_i hl
      rw [if_neg hl]
      split <;> simp

/-- Where no & is nothing changes. -/
theorem fill_plain (L : EnL) : ∀ (l : List UInt8) (f at_ : Nat) (out : List UInt8) (told : Nat), (∀ c ∈ l, c ≠ 38) → l.length ≤ f → fillE L f l at_ out told = ⟨out ++ l, 0, at_ + l.length, told⟩
  | [], f, at_, out, told, _, _ => by rw [fill_end]; simp
  | c :: t, 0, _, _, _, _, h => by simp at h
  | c :: t, f + 1, at_, out, told, hc, hf => by
    rw [fill_byte (hc c (by simp)), fill_plain L t f (at_ + 1) (out ++ [c]) told (fun d hd => hc d (by simp [hd])) (by simpa using hf)]
    simp; omega
theorem fill_front (L : EnL) (r : List UInt8) : ∀ (l : List UInt8) (f at_ : Nat) (out : List UInt8) (told : Nat), (∀ c ∈ l, c ≠ 38) → l.length ≤ f → fillE L f (l ++ r) at_ out told = fillE L (f - l.length) r (at_ + l.length) (out ++ l) told
  | [], f, at_, out, told, _, _ => by simp
  | c :: t, 0, _, _, _, _, h => by simp at h
  | c :: t, f + 1, at_, out, told, hc, hf => by
    rw [List.cons_append, fill_byte (hc c (by simp)), fill_front L r t f (at_ + 1) (out ++ [c]) told (fun d hd => hc d (by simp [hd])) (by simpa using hf)]
    congr 1 <;> simp <;> omega
/-- What is defined is told by a reference, or why not. -/
theorem fill_tells (L : EnL) (front nm : List UInt8) (told : Nat) (hf : ∀ c ∈ front, c ≠ 38) (hn : localL nm = true) :
    fillL L (front ++ 38 :: (nm ++ [59])) told = if (getE L told nm).e = 0 then ⟨front ++ (getE L told nm).s, 0, front.length + 1 + nm.length + 1, (getE L told nm).told⟩ else ⟨[], (getE L told nm).e, front.length + 1 + nm.length, (getE L told nm).told⟩ := by
  have hr : refE [] (nm ++ [59]) = (some nm, nm.length) := ref_is (rest := []) hn
  unfold fillL
  rw [fill_front L _ front _ _ _ _ hf (by simp)]
  have hfl : (front ++ 38 :: (nm ++ [59])).length - front.length = (nm.length + 1) + 1 := by simp only [List.length_append, List.length_cons, List.length_nil]; omega
  rw [hfl]
  simp only [List.nil_append, Nat.zero_add]
  split
  · rename_i h
    rw [fill_ref (nm := nm) (by rw [hr]) h, hr]
    simp only
    rw [List.drop_eq_nil_of_le (by simp), fill_end]
  · rename_i h
    rw [fill_no (nm := nm) (by rw [hr]) h, hr]

theorem get_e (L : EnL) (told : Nat) (n : List UInt8) : (getE L told n).told = told ∨ (getE L told n).told = told + 1 := by
  unfold getE
  split
  · exact .inl rfl
  · split
    · exact .inl rfl
    · split
      · exact .inl rfl
      · exact .inr rfl
theorem find_size {n t : List UInt8} : ∀ {L : EnL}, findE n L = some t → t.length ≤ sizeE L
  | [], h => by cases h
  | x :: L, h => by
    simp only [findE] at h
    simp only [sizeE]
    split at h
    · injection h with h; subst h; omega
    · have := find_size h; omega
theorem get_len {L : EnL} {told : Nat} {n : List UInt8} (h : sizeE L ≤ 200) : (getE L told n).s.length ≤ 200 := by
  unfold getE
  split
  · rename_i t ht
    unfold fourE at ht
    repeat' split at ht
    all_goals first
      | (cases ht; simp; done)
      | cases ht
  · split
    · simp
    · rename_i t ht
      split
      · simp
      · have := find_size ht; simp only; omega
theorem size_snoc : ∀ (L : EnL) (n t : List UInt8), sizeE (L ++ [(n, t)]) = sizeE L + n.length + t.length
  | [], n, t => by simp [sizeE]
  | x :: L, n, t => by simp only [List.cons_append, sizeE, size_snoc L n t]; omega
theorem def_size {L : EnL} {n t : List UInt8} (h : sizeE L ≤ 200) : sizeE (defE L n t) ≤ 200 := by
  unfold defE
  split
  · rename_i hc
    rw [size_snoc]
    unfold defC at hc
    repeat' split at hc
    all_goals first
      | omega
      | cases hc
  · exact h
theorem def_len (L : EnL) (n t : List UInt8) : (defE L n t).length ≤ L.length + 1 := by
  unfold defE; split <;> simp
theorem find_snoc (n m t : List UInt8) : ∀ L : EnL, findE n (L ++ [(m, t)]) = match findE n L with | some x => some x | none => if m = n then some t else none
  | [] => rfl
  | x :: L => by
    simp only [List.cons_append, findE]
    split
    · rfl
    · exact find_snoc n m t L
end Go.Proofs.YtjepnddndpmnnaaGreat
namespace Go.Proofs.YtjepnddndpmnnaaGreat.Nm
open Go.RowKit

theorem ret_bool {a b : Bool} (h : a = b) : Ending.returned (.bool a) = .returned (.bool b) := by rw [h]
theorem ret_int {k : IntKind} {a b : Int} (h : a = b) : Ending.returned (.int k a) = .returned (.int k b) := by rw [h]

theorem digit_any (a : Int) (w : World) :
    Calls Tryz.prog 195 #[.int .i64 a] w fun e w' => e = .returned (.int .i64 (dgI a)) ∧ w = w' := by
  go_enter Tryz.func195, Tryz.ntmps195
  go_wp2
  all_goals go_ret
  all_goals refine ⟨ret_int ?_, rfl⟩
  all_goals unfold dgI
  all_goals repeat' split
  all_goals first | rfl | (exfalso; simp_all; done) | (exfalso; simp_all; omega) 

theorem compl_any (a : Int) (w : World) :
    Calls Tryz.prog 187 #[.int .i64 a] w fun e w' => e = .returned (.bool (compB a)) ∧ w = w' := by
  go_enter Tryz.func187, Tryz.ntmps187
  go_wp2
  all_goals go_ret
  all_goals refine ⟨ret_bool ?_, rfl⟩
  all_goals unfold compB
  all_goals first | (refine (decide_eq_true ?_).symm; simp_all; done) | (refine (decide_eq_false ?_).symm; simp_all; done)

set_option maxHeartbeats 2000000 in
theorem step_any (a b : Int) (w : World) :
    Calls Tryz.prog 186 #[.int .i64 a, .int .u8 b] w fun e w' => e = .returned (.int .i64 (stepI a b)) ∧ w = w' := by
  go_enter Tryz.func186, Tryz.ntmps186
  go_wp2_with (go_at_call 195; refine (digit_any _ _).mono ?_; rintro e w' ⟨rfl, rfl⟩)
  all_goals go_ret
  all_goals refine ⟨ret_int ?_, rfl⟩
  all_goals simp only [beq_iff_eq, beq_eq_false_iff_ne, ne_eq] at *
  all_goals unfold stepI
  all_goals repeat' split
  all_goals first | rfl | omega

theorem stepI_rng (a b : Int) : 0 ≤ stepI a b ∧ stepI a b ≤ 9 := by
  unfold stepI dgI
  repeat' split
  all_goals omega

/-- May: the machine over the whole text; it stops where nothing can follow. -/
theorem may_any (s : ByteArray) (w : World) (hm : s.size ≤ 9223372036854775807) :
    Calls Tryz.prog 179 #[.string s] w fun e w' => e = .returned (.tuple #[.bool (begB s.data.toList), .bool (isB s.data.toList)]) ∧ w = w' := by
  go_enter Tryz.func179, Tryz.ntmps179
  go_wp2
  go_loop [4, 5] (fun a i => ∃ k : Nat, k ≤ s.size ∧ i = .int .i64 k ∧ a = .int .i64 (mst 1 (s.data.toList.take k))) (fun _ i => s.size - (intOf i).toNat)
  case atStart => exact ⟨0, Nat.zero_le _, rfl, rfl⟩
  case round =>
    obtain ⟨k, hk, rfl, rfl⟩ := hrel
    generalize hM : mst 1 (s.data.toList.take k) = M
    have HM := Lib.hid hM
    clear hM
    by_cases hlt : k < s.size
    · by_cases h0 : M = 0
      · have hb : (M != 0) = false := by simp [h0]
        have hfin : mst 1 s.data.toList = 0 := by
          rw [← List.take_append_drop k s.data.toList, mst_append, HM.out, h0, mst_0]
        have HF := Lib.hid hfin
        have H0 := Lib.hid h0
        clear hfin h0
        go_wp2_with (first | (go_at_call 187; refine (compl_any _ _).mono ?_; rintro e w' ⟨rfl, rfl⟩))
        go_ret2
        refine ⟨?_, rfl⟩
        unfold begB isB
        rw [HF.out, H0.out]
        rfl
      · have hb : (M != 0) = true := by simpa using h0
        have hts : mst 1 (s.data.toList.take (k + 1)) = stepI M (s[k].toNat : Int) := by
          rw [List.take_succ_eq_append_getElem (by simpa using hlt), mst_snoc, HM.out]
          rfl
        have HT := Lib.hid hts
        clear hts h0
        go_wp2_with (first | (go_at_call 186; refine (step_any _ _ _).mono ?_; rintro e w' ⟨rfl, rfl⟩))
        go_round
        case rel => exact ⟨k + 1, by omega, by go_num, by rw [HT.out]⟩
        case measure => simp [intOf]; omega
    · have hfin : begB s.data.toList = (M != 0) ∧ isB s.data.toList = compB M := by
        have h1 : mst 1 s.data.toList = M := by rw [← HM.out, List.take_of_length_le (by simp; omega)]
        unfold begB isB
        rw [h1]
        exact ⟨by rw [Bool.eq_iff_iff]; simp, rfl⟩
      have HF := Lib.hid hfin
      clear hfin
      go_wp2_with (first | (go_at_call 187; refine (compl_any _ _).mono ?_; rintro e w' ⟨rfl, rfl⟩))
      all_goals go_ret2
      all_goals refine ⟨?_, rfl⟩
      all_goals rw [HF.out.1, HF.out.2]
      all_goals rfl
end Go.Proofs.YtjepnddndpmnnaaGreat.Nm
namespace Go.Proofs.YtjepnddndpmnnaaGreat
open Go.RowKit

def Blk (w : World) (g : Nat) (t : TypeId) (cs : Array Value) : Prop := w.heap[g]? = some (.cells cs t (0, 0))

section
variable {w w' : World} {g : Nat} {t : TypeId} {cs : Array Value}
theorem Blk.lt (h : Blk w g t cs) : g < w.heap.size := by
  rcases Nat.lt_or_ge g w.heap.size with hlt | hge
  · exact hlt
  · unfold Blk at h; rw [Array.getElem?_eq_none hge] at h; cases h
theorem Blk.cell (h : Blk w g t cs) (i : Nat) : w.cell? ⟨g, i, none⟩ = cs[i]? := cell_of_row w g i cs t (0, 0) h
theorem Blk.frozen (h : Blk w g t cs) (i : Nat) : w.frozen? ⟨g, i, none⟩ = false := by
  unfold Blk at h
  simp [World.frozen?, h]
theorem Blk.new (w : World) (t : TypeId) (cs : Array Value) : Blk (w.alloc (.cells cs t)) w.heap.size t cs := heap_alloc_new w _
theorem Blk.drew (h : Blk w g t cs) : Blk w.drew g t cs := h
theorem Blk.drewN (h : Blk w g t cs) (n : Nat) : Blk (w.drewN n) g t cs := h
theorem Blk.alloc (h : Blk w g t cs) (o : Obj) : Blk (w.alloc o) g t cs := (Below.heap_alloc w o g h.lt).trans h
theorem Blk.set_ (h : Blk w g t cs) (i : Nat) (u : Value) : Blk (w.setCell ⟨g, i, none⟩ u) g t (cs.setIfInBounds i u) := by
  unfold Blk at h ⊢
  simp [World.setCell, Array.getElem?_modify, h]
theorem Blk.far (h : Blk w g t cs) {p : Addr} (hp : g ≠ p.block) (u : Value) : Blk (w.setCell p u) g t cs := (Below.heap_setCell w p u g hp).trans h
theorem Blk.below {B : Nat} (h : Blk w g t cs) (hb : Below B w w') (hg : g < B) : Blk w' g t cs := (hb.block g hg).trans h
theorem Blk.grown {row : Option Nat} (h : Blk w g t cs) (hb : w.grownBy w' row) (hg : some g ≠ row) : Blk w' g t cs := (hb.block g h.lt hg).trans h
end

theorem only_drewN {a w : World} {row : Option Nat} (h : a.grownBy w row) (n : Nat) : a.grownBy (w.drewN n) row := ⟨h.os, h.tape, h.output, h.size, h.block⟩
theorem only_drew {a w : World} {row : Option Nat} (h : a.grownBy w row) : a.grownBy w.drew row := ⟨h.os, h.tape, h.output, h.size, h.block⟩
theorem only_alloc {a w : World} {row : Option Nat} (h : a.grownBy w row) (o : Obj) : a.grownBy (w.alloc o) row :=
  ⟨h.os, h.tape, h.output, Nat.le_trans h.size (by simp), fun i hi hne => (Below.heap_alloc w o i (Nat.lt_of_lt_of_le hi h.size)).trans (h.block i hi hne)⟩
theorem only_setCell {a w : World} {g : Nat} (h : a.grownBy w (some g)) {p : Addr} (hp : p.block = g ∨ a.heap.size ≤ p.block) (u : Value) : a.grownBy (w.setCell p u) (some g) :=
  ⟨h.os, h.tape, h.output, by simpa [World.setCell] using h.size, fun i hi hne => (Below.heap_setCell w p u i (by
    rintro rfl
    rcases hp with hp | hp
    · exact hne (by rw [hp])
    · omega)).trans (h.block i hi hne)⟩
theorem only_of_below {a w : World} (h : Below a.heap.size a w) (row : Option Nat) : a.grownBy w row := ⟨h.os, h.tape, h.output, h.size, fun i hi _ => h.block i hi⟩
theorem below_drewN {B : Nat} {a w : World} (h : Below B a w) (n : Nat) : Below B a (w.drewN n) := ⟨h.os, h.tape, h.output, h.size, h.block⟩
theorem below_drew {B : Nat} {a w : World} (h : Below B a w) : Below B a w.drew := ⟨h.os, h.tape, h.output, h.size, h.block⟩
theorem below_only {a w w' : World} {B g : Nat} (h : Below B a w) (k : w.grownBy w' (some g)) (hB : B ≤ w.heap.size) (hg : B ≤ g) : Below B a w' :=
  ⟨k.os.trans h.os, k.tape.trans h.tape, k.output.trans h.output, Nat.le_trans h.size k.size, fun i hi => (k.block i (by omega) (fun e => by injection e; omega)).trans (h.block i hi)⟩

end Go.Proofs.YtjepnddndpmnnaaGreat

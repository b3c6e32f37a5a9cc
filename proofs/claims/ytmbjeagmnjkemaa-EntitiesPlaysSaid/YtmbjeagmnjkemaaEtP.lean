/-
  Entities as plain functions on bytes: what is defined, asked, filled in. No program is read here.
-/
import Derived.Test.YtmbjeagmnjkemaaNamesP
namespace Go.Proofs.Ytmbjeagmnjkemaa
set_option maxRecDepth 8000

abbrev EnL := List (List UInt8 × List UInt8)
def fourE (n : List UInt8) : Option (List UInt8) :=
  if n = [108, 116] then some [60] else if n = [103, 116] then some [62] else if n = [97, 109, 112] then some [38] else if n = [113, 117, 111, 116] then some [34] else none
def findE (n : List UInt8) : EnL → Option (List UInt8)
  | [] => none
  | x :: L => if x.1 = n then some x.2 else findE n L
def sizeE : EnL → Nat
  | [] => 0
  | x :: L => x.1.length + x.2.length + sizeE L
def defC (L : EnL) (n t : List UInt8) : Int :=
  if localL n = false then 1 else if (runesL t).isSome = false then 3 else if (fourE n).isSome || (findE n L).isSome then 6 else if 200 < sizeE L + n.length + t.length then 15 else 0
def defE (L : EnL) (n t : List UInt8) : EnL := if defC L n t = 0 then L ++ [(n, t)] else L
/-- What Get tells: the text, the error, how many were told behind it. -/
structure GR where
  s : List UInt8
  e : Int
  told : Nat
def getE (L : EnL) (told : Nat) (n : List UInt8) : GR :=
  match fourE n with
  | some t => ⟨t, 0, told⟩
  | none => match findE n L with
    | none => ⟨[], 14, told⟩
    | some t => if 40 ≤ told then ⟨[], 13, told⟩ else ⟨t, 0, told + 1⟩
/-- The reference behind a &: its name, or none; how many bytes stand ahead of the byte that ends it, or with which none goes on. -/
def refE (acc : List UInt8) : List UInt8 → Option (List UInt8) × Nat
  | [] => (none, 0)
  | c :: t => if localL (acc ++ [c]) = true then ((refE (acc ++ [c]) t).1, (refE (acc ++ [c]) t).2 + 1) else if c = 59 ∧ acc ≠ [] then (some acc, 0) else (none, 0)
structure FR where
  s : List UInt8
  e : Int
  n : Nat
  told : Nat
def fillE (L : EnL) : Nat → List UInt8 → Nat → List UInt8 → Nat → FR
  | 0, _, at_, out, told => ⟨out, 0, at_, told⟩
  | _ + 1, [], at_, out, told => ⟨out, 0, at_, told⟩
  | f + 1, c :: t, at_, out, told =>
    if c ≠ 38 then fillE L f t (at_ + 1) (out ++ [c]) told
    else match (refE [] t).1 with
      | none => ⟨[], 2, at_ + 1 + (refE [] t).2, told⟩
      | some nm => if (getE L told nm).e = 0 then fillE L f (t.drop ((refE [] t).2 + 1)) (at_ + 1 + (refE [] t).2 + 1) (out ++ (getE L told nm).s) (getE L told nm).told
        else ⟨[], (getE L told nm).e, at_ + 1 + (refE [] t).2, (getE L told nm).told⟩
def fillL (L : EnL) (raw : List UInt8) (told : Nat) : FR := fillE L raw.length raw 0 [] told

theorem fill_byte {L : EnL} {f : Nat} {c : UInt8} {t : List UInt8} {at_ : Nat} {out : List UInt8} {told : Nat} (h : c ≠ 38) : fillE L (f + 1) (c :: t) at_ out told = fillE L f t (at_ + 1) (out ++ [c]) told := by
  simp only [fillE]; rw [if_pos h]
theorem fill_bad {L : EnL} {f : Nat} {t : List UInt8} {at_ : Nat} {out : List UInt8} {told : Nat} (h : (refE [] t).1 = none) : fillE L (f + 1) (38 :: t) at_ out told = ⟨[], 2, at_ + 1 + (refE [] t).2, told⟩ := by
  simp only [fillE]; rw [if_neg (by decide), h]
theorem fill_no {L : EnL} {f : Nat} {t : List UInt8} {at_ : Nat} {out : List UInt8} {told : Nat} {nm : List UInt8} (h : (refE [] t).1 = some nm) (he : (getE L told nm).e ≠ 0) :
    fillE L (f + 1) (38 :: t) at_ out told = ⟨[], (getE L told nm).e, at_ + 1 + (refE [] t).2, (getE L told nm).told⟩ := by
  simp only [fillE]; rw [if_neg (by decide), h]; simp only; rw [if_neg he]
theorem fill_ref {L : EnL} {f : Nat} {t : List UInt8} {at_ : Nat} {out : List UInt8} {told : Nat} {nm : List UInt8} (h : (refE [] t).1 = some nm) (he : (getE L told nm).e = 0) :
    fillE L (f + 1) (38 :: t) at_ out told = fillE L f (t.drop ((refE [] t).2 + 1)) (at_ + 1 + (refE [] t).2 + 1) (out ++ (getE L told nm).s) (getE L told nm).told := by
  simp only [fillE]; rw [if_neg (by decide), h]; simp only; rw [if_pos he]
theorem fill_end {L : EnL} {f : Nat} {at_ : Nat} {out : List UInt8} {told : Nat} : fillE L f [] at_ out told = ⟨out, 0, at_, told⟩ := by
  cases f <;> rfl

theorem local_semi (acc : List UInt8) : localL (acc ++ [59]) = false := by
  cases acc with
  | nil => decide
  | cons c t =>
    simp only [List.cons_append, localL]
    rw [List.all_append]
    simp [laterB]
/-- The beginnings of a local name are local names. -/
theorem local_pre {a b : List UInt8} (ha : a ≠ []) (h : localL (a ++ b) = true) : localL a = true := by
  cases a with
  | nil => exact absurd rfl ha
  | cons c t =>
    simp only [List.cons_append, localL, Bool.and_eq_true, decide_eq_true_eq, List.all_append, List.length_append] at h ⊢
    exact ⟨⟨by omega, h.1.2⟩, h.2.1⟩
theorem ref_name : ∀ (b acc rest : List UInt8), acc ++ b ≠ [] → localL (acc ++ b) = true → refE acc (b ++ 59 :: rest) = (some (acc ++ b), b.length)
  | [], acc, rest, hne, h => by
    rw [List.append_nil] at hne
    simp only [List.nil_append, refE, List.append_nil, List.length_nil]
    rw [if_neg (by rw [local_semi]; decide), if_pos ⟨trivial, hne⟩]
  | c :: t, acc, rest, _, h => by
    have h1 : localL (acc ++ [c]) = true := local_pre (b := t) (by simp) (by simpa using h)
    have ih := ref_name t (acc ++ [c]) rest (by simp) (by simpa using h)
    simp only [List.cons_append, refE]
    rw [if_pos h1, ih]
    simp
theorem ref_is {nm rest : List UInt8} (h : localL nm = true) : refE [] (nm ++ 59 :: rest) = (some nm, nm.length) := by
  have hn : nm ≠ [] := by intro e; subst e; cases h
  have := ref_name nm [] rest (by simpa using hn) (by simpa using h)
  simpa using this

/-- How far a reference reaches. -/
theorem ref_le : ∀ (l acc : List UInt8), (refE acc l).2 ≤ l.length
  | [], _ => Nat.le_refl _
  | c :: t, acc => by
    simp only [refE]
    split
    · have := ref_le t (acc ++ [c]); simp only [List.length_cons]; omega
    · split <;> simp
theorem ref_lt : ∀ (l acc nm : List UInt8), (refE acc l).1 = some nm → (refE acc l).2 < l.length
  | [], _, _, h => by cases h
  | c :: t, acc, nm, h => by
    simp only [refE] at h ⊢
    split at h
    · rename_i hl
      rw [if_pos hl]
      have := ref_lt t (acc ++ [c]) nm h
      simp only [List.length_cons]; omega
    · rename_i hl
      rw [if_neg hl]
      split <;> simp

/-- Where no & is nothing changes. -/
theorem fill_plain (L : EnL) : ∀ (l : List UInt8) (f at_ : Nat) (out : List UInt8) (told : Nat), (∀ c ∈ l, c ≠ 38) → l.length ≤ f → fillE L f l at_ out told = ⟨out ++ l, 0, at_ + l.length, told⟩
  | [], f, at_, out, told, _, _ => by rw [fill_end]; simp
  | c :: t, 0, _, _, _, _, h => by simp at h
  | c :: t, f + 1, at_, out, told, hc, hf => by
    rw [fill_byte (hc c (by simp)), fill_plain L t f (at_ + 1) (out ++ [c]) told (fun d hd => hc d (by simp [hd])) (by simpa using hf)]
    simp; omega
theorem fill_front (L : EnL) (r : List UInt8) : ∀ (l : List UInt8) (f at_ : Nat) (out : List UInt8) (told : Nat), (∀ c ∈ l, c ≠ 38) → l.length ≤ f → fillE L f (l ++ r) at_ out told = fillE L (f - l.length) r (at_ + l.length) (out ++ l) told
  | [], f, at_, out, told, _, _ => by simp
  | c :: t, 0, _, _, _, _, h => by simp at h
  | c :: t, f + 1, at_, out, told, hc, hf => by
    rw [List.cons_append, fill_byte (hc c (by simp)), fill_front L r t f (at_ + 1) (out ++ [c]) told (fun d hd => hc d (by simp [hd])) (by simpa using hf)]
    congr 1 <;> simp <;> omega
/-- What is defined is told by a reference, or why not. -/
theorem fill_tells (L : EnL) (front nm : List UInt8) (told : Nat) (hf : ∀ c ∈ front, c ≠ 38) (hn : localL nm = true) :
    fillL L (front ++ 38 :: (nm ++ [59])) told = if (getE L told nm).e = 0 then ⟨front ++ (getE L told nm).s, 0, front.length + 1 + nm.length + 1, (getE L told nm).told⟩ else ⟨[], (getE L told nm).e, front.length + 1 + nm.length, (getE L told nm).told⟩ := by
  have hr : refE [] (nm ++ [59]) = (some nm, nm.length) := ref_is (rest := []) hn
  unfold fillL
  rw [fill_front L _ front _ _ _ _ hf (by simp)]
  have hfl : (front ++ 38 :: (nm ++ [59])).length - front.length = (nm.length + 1) + 1 := by simp only [List.length_append, List.length_cons, List.length_nil]; omega
  rw [hfl]
  simp only [List.nil_append, Nat.zero_add]
  split
  · rename_i h
    rw [fill_ref (nm := nm) (by rw [hr]) h, hr]
    simp only
    rw [List.drop_eq_nil_of_le (by simp), fill_end]
  · rename_i h
    rw [fill_no (nm := nm) (by rw [hr]) h, hr]

theorem get_e (L : EnL) (told : Nat) (n : List UInt8) : (getE L told n).told = told ∨ (getE L told n).told = told + 1 := by
  unfold getE
  split
  · exact .inl rfl
  · split
    · exact .inl rfl
    · split
      · exact .inl rfl
      · exact .inr rfl
theorem find_size {n t : List UInt8} : ∀ {L : EnL}, findE n L = some t → t.length ≤ sizeE L
  | [], h => by cases h
  | x :: L, h => by
    simp only [findE] at h
    simp only [sizeE]
    split at h
    · injection h with h; subst h; omega
    · have := find_size h; omega
theorem get_len {L : EnL} {told : Nat} {n : List UInt8} (h : sizeE L ≤ 200) : (getE L told n).s.length ≤ 200 := by
  unfold getE
  split
  · rename_i t ht
    unfold fourE at ht
    repeat' split at ht
    all_goals first
      | (cases ht; simp; done)
      | cases ht
  · split
    · simp
    · rename_i t ht
      split
      · simp
      · have := find_size ht; simp only; omega
theorem size_snoc : ∀ (L : EnL) (n t : List UInt8), sizeE (L ++ [(n, t)]) = sizeE L + n.length + t.length
  | [], n, t => by simp [sizeE]
  | x :: L, n, t => by simp only [List.cons_append, sizeE, size_snoc L n t]; omega
theorem def_size {L : EnL} {n t : List UInt8} (h : sizeE L ≤ 200) : sizeE (defE L n t) ≤ 200 := by
  unfold defE
  split
  · rename_i hc
    rw [size_snoc]
    unfold defC at hc
    repeat' split at hc
    all_goals first
      | omega
      | cases hc
  · exact h
theorem def_len (L : EnL) (n t : List UInt8) : (defE L n t).length ≤ L.length + 1 := by
  unfold defE; split <;> simp
theorem find_snoc (n m t : List UInt8) : ∀ L : EnL, findE n (L ++ [(m, t)]) = match findE n L with | some x => some x | none => if m = n then some t else none
  | [] => rfl
  | x :: L => by
    simp only [List.cons_append, findE]
    split
    · rfl
    · exact find_snoc n m t L
end Go.Proofs.Ytmbjeagmnjkemaa

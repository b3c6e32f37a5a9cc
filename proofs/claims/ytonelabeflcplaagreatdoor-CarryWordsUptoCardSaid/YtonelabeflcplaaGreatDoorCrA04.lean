/-
  Trees as plain data: the walk of a node, which nodes have one, and the walk held against the machine of events. No program is read here.
  Every document is the walk of one node: what has been taken is gathered into nodes, event by event. No program is read here.
  Two nodes that have a walk have the same walk just if they are the same. No program is read here.
  Nodes as plain data: their size, sameness, what few says of them, the events that the program's walk visits, and where the machine of events stops on them. No program is read here.
-/
import Derived.Test.YtonelabeflcplaaGreatDoorCrA03
namespace Go.Proofs.YtonelabeflcplaaGreatDoor

inductive Nd where
  | mk (k : Int) (t v : ByteArray) (kids : List Nd)
def Nd.ev : Nd → Ev
  | .mk k t v _ => ⟨k, t, v⟩
def Nd.kids : Nd → List Nd
  | .mk _ _ _ l => l
def endL (k : Int) : List Ev := if opensK k then [endE (endK k)] else []
mutual
/-- The walk of a node. -/
def flat : Nd → List Ev
  | .mk k t v kids => ⟨k, t, v⟩ :: (flatL kids ++ endL k)
def flatL : List Nd → List Ev
  | [] => []
  | n :: r => flat n ++ flatL r
end
def leafK (k : Int) : Bool := decide (k = 1 ∨ k = 2 ∨ k = 3 ∨ k = 4 ∨ k = 11)
def okShape (k : Int) (n : Nat) : Bool := opensK k || (leafK k && decide (n = 0)) || (decide (k = 8) && decide (n = 1))
mutual
def shaped : Nd → Bool
  | .mk k _ _ kids => okShape k kids.length && shapedL kids
def shapedL : List Nd → Bool
  | [] => true
  | n :: r => shaped n && shapedL r
end
theorem flatL_append (a b : List Nd) : flatL (a ++ b) = flatL a ++ flatL b := by
  induction a with
  | nil => rfl
  | cons n r ih => simp [flatL, ih, List.append_assoc]
theorem shapedL_append (a b : List Nd) : shapedL (a ++ b) = (shapedL a && shapedL b) := by
  induction a with
  | nil => simp [shapedL]
  | cons n r ih => simp [shapedL, ih, Bool.and_assoc]
theorem flat_ne (n : Nd) : flat n ≠ [] := by
  cases n with
  | mk k t v kids => simp [flat]

mutual
/-- The walk of a node behind events that were taken; an error ends it. -/
def goesN : Nd → List Ev × List Pt → (List Ev × List Pt) × Int
  | .mk k t v kids, s =>
    if okShape k kids.length = false then (s, 19)
    else if stepE s.2 ⟨k, t, v⟩ ≠ 0 then (s, stepE s.2 ⟨k, t, v⟩)
    else
      let r := goesL kids (s.1 ++ [⟨k, t, v⟩], stepS s.2 ⟨k, t, v⟩)
      if r.2 ≠ 0 then r
      else if opensK k then
        if stepE r.1.2 (endE (endK k)) ≠ 0 then (r.1, stepE r.1.2 (endE (endK k)))
        else ((r.1.1 ++ [endE (endK k)], stepS r.1.2 (endE (endK k))), 0)
      else (r.1, 0)
def goesL : List Nd → List Ev × List Pt → (List Ev × List Pt) × Int
  | [], s => (s, 0)
  | n :: r, s =>
    let q := goesN n s
    if q.2 ≠ 0 then q else goesL r q.1
end

mutual
theorem goesN_taken : ∀ (n : Nd) (s : List Ev × List Pt), Taken s.1 s.2 → Taken (goesN n s).1.1 (goesN n s).1.2
  | .mk k t v kids, s, h => by
    simp only [goesN]
    split
    · exact h
    · split
      · exact h
      · rename_i h0
        have h1 : stepE s.2 ⟨k, t, v⟩ = 0 := Decidable.not_not.1 h0
        have hr := goesL_taken kids (s.1 ++ [⟨k, t, v⟩], stepS s.2 ⟨k, t, v⟩) (h.snoc h1)
        split
        · exact hr
        · split
          · split
            · exact hr
            · rename_i h2
              exact hr.snoc (Decidable.not_not.1 h2)
          · exact hr
theorem goesL_taken : ∀ (l : List Nd) (s : List Ev × List Pt), Taken s.1 s.2 → Taken (goesL l s).1.1 (goesL l s).1.2
  | [], s, h => by simpa only [goesL] using h
  | n :: r, s, h => by
    have hn := goesN_taken n s h
    simp only [goesL]
    split
    · exact hn
    · exact goesL_taken r _ hn
end

mutual
theorem goesN_ok : ∀ (n : Nd) (s : List Ev × List Pt), (goesN n s).2 = 0 → shaped n = true ∧ (goesN n s).1.1 = s.1 ++ flat n
  | .mk k t v kids, s, h => by
    simp only [goesN] at h ⊢
    split at h
    · exact absurd (show (19 : Int) = 0 from h) (by decide)
    · rename_i hs
      rw [Bool.not_eq_false] at hs
      split at h
      · rename_i h0; exact absurd h h0
      · rename_i h0
        split at h
        · rename_i h1; exact absurd h h1
        · rename_i h1
          have hk := goesL_ok kids (s.1 ++ [⟨k, t, v⟩], stepS s.2 ⟨k, t, v⟩) (Decidable.not_not.1 h1)
          rw [if_neg (by rw [hs]; decide), if_neg h0, if_neg h1]
          cases ho : opensK k with
          | true =>
            rw [ho, if_pos rfl] at h
            split at h
            · rename_i h2; exact absurd h h2
            · rename_i h2
              rw [if_pos rfl, if_neg h2]
              refine ⟨by simp [shaped, hs, hk.1], ?_⟩
              simp only [hk.2, flat, endL, ho, if_true]
              simp
          | false =>
            rw [if_neg (by decide)]
            refine ⟨by simp [shaped, hs, hk.1], ?_⟩
            simp only [hk.2, flat, endL, ho, if_false, Bool.false_eq_true]
            simp
theorem goesL_ok : ∀ (l : List Nd) (s : List Ev × List Pt), (goesL l s).2 = 0 → shapedL l = true ∧ (goesL l s).1.1 = s.1 ++ flatL l
  | [], s, _ => by simp [goesL, shapedL, flatL]
  | n :: r, s, h => by
    simp only [goesL] at h ⊢
    split at h
    · rename_i h0; exact absurd h h0
    · rename_i h0
      rw [if_neg h0]
      have hn := goesN_ok n s (Decidable.not_not.1 h0)
      have hr := goesL_ok r _ h
      exact ⟨by simp [shapedL, hn.1, hr.1], by rw [hr.2, hn.2]; simp [flatL]⟩
end

theorem allOk_append : ∀ (a b : List Ev) (st : List Pt), allOk st (a ++ b) ↔ allOk st a ∧ allOk (runS st a) b
  | [], b, st => by simp [allOk, runS]
  | x :: a, b, st => by
    have := allOk_append a b (stepS st x)
    simp only [List.cons_append, allOk, this, and_assoc]
    rfl
theorem runS_append (st : List Pt) (a b : List Ev) : runS st (a ++ b) = runS (runS st a) b := by simp [runS]

mutual
/-- What could be taken is walked to its end. -/
theorem goesN_of : ∀ (n : Nd) (s : List Ev × List Pt), shaped n = true → allOk s.2 (flat n) → goesN n s = ((s.1 ++ flat n, runS s.2 (flat n)), 0)
  | .mk k t v kids, s, hs, ha => by
    simp only [shaped, Bool.and_eq_true] at hs
    simp only [flat, allOk] at ha
    have hb := (allOk_append _ _ _).1 ha.2
    have hk := goesL_of kids (s.1 ++ [⟨k, t, v⟩], stepS s.2 ⟨k, t, v⟩) hs.2 hb.1
    simp only [goesN, hs.1, ha.1, hk]
    cases ho : opensK k with
    | true =>
      have h2 := hb.2
      simp only [endL, ho, if_true, allOk] at h2
      have h3 := h2.1
      unfold runS at h3
      simp [flat, endL, ho, h3, runS]
    | false => simp [flat, endL, ho, runS]
theorem goesL_of : ∀ (l : List Nd) (s : List Ev × List Pt), shapedL l = true → allOk s.2 (flatL l) → goesL l s = ((s.1 ++ flatL l, runS s.2 (flatL l)), 0)
  | [], s, _, _ => by simp [goesL, flatL, runS]
  | n :: r, s, hs, ha => by
    simp only [shapedL, Bool.and_eq_true] at hs
    simp only [flatL] at ha
    have hb := (allOk_append _ _ _).1 ha
    have hn := goesN_of n s hs.1 hb.1
    have hr := goesL_of r (s.1 ++ flat n, runS s.2 (flat n)) hs.2 hb.2
    simp only [goesL, hn]
    rw [if_neg (by decide), hr]
    simp [flatL, runS_append]
end
end Go.Proofs.YtonelabeflcplaaGreatDoor
namespace Go.Proofs.YtonelabeflcplaaGreatDoor

/-- A thing that is open: the key that it stands under, its beginning, what stands in it. -/
structure Bp where
  key : Option Ev
  x : Ev
  kids : List Nd
def wrapN (key : Option Ev) (n : Nd) : Nd := match key with
  | none => n
  | some q => .mk q.k q.t q.v [n]
def pfl : List Bp → List Nd → List Ev
  | [], top => flatL top
  | o :: r, top => pfl r top ++ (o.key.toList ++ o.x :: flatL o.kids)
def addB (n : Nd) : List Bp → List Nd → List Bp × List Nd
  | [], top => ([], top ++ [n])
  | o :: r, top => (⟨o.key, o.x, o.kids ++ [n]⟩ :: r, top)
def KeyOk (key : Option Ev) : Prop := ∀ q, key = some q → q.k = 8
/-- The things that are open are the machine's. -/
def Mat : List Bp → List Pt → Prop
  | [], [_] => True
  | o :: r, p :: st => p.kind = o.x.k ∧ opensK p.kind = true ∧ KeyOk o.key ∧ shapedL o.kids = true ∧ Mat r st
  | _, _ => False
def TopOk (ops : List Bp) (top : List Nd) (st : List Pt) : Prop := (ops ≠ [] → top = []) ∧ (∀ p, st = [p] → (p.last = 0 → top = []) ∧ (p.last ≠ 0 → ∃ n, top = [n]))
structure Gath (key : Option Ev) (ops : List Bp) (top : List Nd) (hs : List Ev) (st : List Pt) : Prop where
  all : hs = pfl ops top ++ key.toList
  keyed : key.isSome = true ↔ KeySt st
  ok : KeyOk key
  mat : Mat ops st
  shp : shapedL top = true
  top' : TopOk ops top st

theorem pfl_add (n : Nd) (ops : List Bp) (top : List Nd) : pfl (addB n ops top).1 (addB n ops top).2 = pfl ops top ++ flat n := by
  cases ops with
  | nil => simp [addB, pfl, flatL_append, flatL]
  | cons o r => simp [addB, pfl, flatL_append, flatL]
theorem flat_wrap {key : Option Ev} (h : KeyOk key) (n : Nd) : flat (wrapN key n) = key.toList ++ flat n := by
  cases key with
  | none => rfl
  | some q =>
    have := h q rfl
    obtain ⟨k, t, v⟩ := q
    simp only at this
    subst this
    simp [wrapN, flat, flatL, endL, opensK]
theorem shaped_wrap {key : Option Ev} (h : KeyOk key) (n : Nd) (hn : shaped n = true) : shaped (wrapN key n) = true := by
  cases key with
  | none => exact hn
  | some q =>
    have := h q rfl
    obtain ⟨k, t, v⟩ := q
    simp only at this
    subst this
    simp [wrapN, shaped, shapedL, hn, okShape]
theorem mat_add {ops : List Bp} {top : List Nd} {st : List Pt} (n : Nd) (hn : shaped n = true) (h : Mat ops st) (k : Int) (ks : List (List UInt8)) :
    ∀ p r, st = p :: r → Mat (addB n ops top).1 ({ p with last := k, keys := ks } :: r) := by
  intro p r hst
  subst hst
  cases ops with
  | nil =>
    cases r with
    | nil => trivial
    | cons _ _ => exact h.elim
  | cons o r' => exact ⟨h.1, h.2.1, h.2.2.1, by rw [shapedL_append, h.2.2.2.1]; simp [shapedL, hn], h.2.2.2.2⟩
theorem mat_len : ∀ {ops : List Bp} {st : List Pt}, Mat ops st → st.length = ops.length + 1
  | [], [_], _ => rfl
  | [], [], h => h.elim
  | [], _ :: _ :: _, h => h.elim
  | _ :: _, [], h => h.elim
  | _ :: r, _ :: st, h => by have := mat_len h.2.2.2.2; simp [this]
theorem shp_add {ops : List Bp} {top : List Nd} (n : Nd) (hn : shaped n = true) (h : shapedL top = true) : shapedL (addB n ops top).2 = true := by
  cases ops with
  | nil => simp [addB, shapedL_append, shapedL, hn, h]
  | cons _ _ => exact h
theorem top_add {ops : List Bp} {top : List Nd} {p p' : Pt} {r : List Pt} (n : Nd) (hm : Mat ops (p :: r)) (h : TopOk ops top (p :: r)) (hl : p'.last ≠ 0) (h0 : r = [] → p.last = 0) : TopOk (addB n ops top).1 (addB n ops top).2 (p' :: r) := by
  cases ops with
  | nil =>
    have hr : r = [] := by have := mat_len hm; simpa using this
    subst hr
    have ht := (h.2 p rfl).1 (h0 rfl)
    refine ⟨fun hne => absurd rfl hne, fun q hq => ?_⟩
    injection hq with hq _
    subst hq
    exact ⟨fun hc => absurd hc hl, fun _ => ⟨n, by simp [addB, ht]⟩⟩
  | cons o r' =>
    refine ⟨fun _ => h.1 (by simp), fun q hq => ?_⟩
    injection hq with _ hq
    have := mat_len hm
    rw [hq] at this
    simp at this
theorem end_is {kind last k : Int} {te : Bool} (hk : opensK kind = true) (he : endsK k = true) (hc : contB kind last k te = true) : k = endK kind := by
  unfold opensK at hk
  unfold endsK at he
  rw [decide_eq_true_iff] at hk he
  unfold endK
  rcases hk with rfl | rfl | rfl
  · simp only [contB, if_true, valueK, Bool.or_eq_true, decide_eq_true_iff] at hc
    rw [if_neg (by decide), if_neg (by decide)]
    omega
  · rw [if_pos rfl]
    unfold contB at hc
    rw [if_neg (by decide), if_pos rfl] at hc
    split at hc
    · simp only [valueK, decide_eq_true_iff] at hc; omega
    · rw [decide_eq_true_iff] at hc; omega
  · rw [if_neg (by decide), if_pos rfl]
    unfold contB at hc
    rw [if_neg (by decide), if_neg (by decide), if_pos rfl] at hc
    unfold contElem at hc
    split at hc
    · omega
    · split at hc
      · omega
      · rw [decide_eq_true_iff] at hc; omega
theorem emptyT_eq {s : ByteArray} (h : emptyT s = true) : s = ⟨#[]⟩ := by
  unfold emptyT at h
  rw [decide_eq_true_iff] at h
  exact ByteArray.ext (by have := congrArg List.toArray h; simpa using this)
theorem end_ev {x : Ev} (he : endsK x.k = true) (hf : formedB x = true) : x = endE x.k := by
  have hb : bareK x.k = true := by unfold endsK at he; unfold bareK; rw [decide_eq_true_iff] at he ⊢; omega
  unfold formedB at hf
  rw [if_pos hb, Bool.and_eq_true] at hf
  obtain ⟨k, t, v⟩ := x
  have h1 := emptyT_eq hf.1
  have h2 := emptyT_eq hf.2
  simp only at h1 h2
  rw [h1, h2]
  rfl
theorem key_value {p : Pt} {r : List Pt} (h : KeySt (p :: r)) {k : Int} {te : Bool} (hc : contB p.kind p.last k te = true) : valueK k = true := by
  unfold contB at hc
  rw [h.1, h.2, if_neg (by decide), if_pos rfl, if_pos rfl] at hc
  exact hc

theorem gath_start : Gath none [] [] [] [topP] := ⟨rfl, by simp [KeySt, topP], fun q h => (by cases h), trivial, rfl, fun h => absurd rfl h, fun p hp => by injection hp with hp _; subst hp; exact ⟨fun _ => rfl, fun h => absurd rfl h⟩⟩

theorem gath_step {key : Option Ev} {ops : List Bp} {top : List Nd} {hs : List Ev} {st : List Pt} (h : Gath key ops top hs st) (hg : Good st) (x : Ev) (hx : stepE st x = 0) :
    ∃ key' ops' top', Gath key' ops' top' (hs ++ [x]) (stepS st x) := by
  have hks := key_step hg hx
  obtain ⟨p, r, rfl⟩ := hg.ne
  obtain ⟨hf, hc⟩ := cont_of hx
  have hkey : valueK x.k = false → key = none := by
    intro hv
    cases hk : key with
    | none => rfl
    | some q =>
      have := h.keyed.1 (by rw [hk]; rfl)
      rw [key_value this hc] at hv
      cases hv
  have htop : r = [] → p.last = 0 := by
    rintro rfl
    exact (top_cont hg.1 hc).1
  unfold stepS at hks ⊢
  rw [if_pos hx] at hks ⊢
  simp only [goS] at hks ⊢
  cases he : endsK x.k with
  | true =>
    have hx8 : x.k ≠ 8 := by unfold endsK at he; rw [decide_eq_true_iff] at he; omega
    have hkn := hkey (ends_not_value he)
    subst hkn
    rw [he] at hks
    simp only [if_true] at hks ⊢
    match ops, h.mat with
    | [], hm =>
      cases r with
      | nil => have := (top_cont hg.1 hc).2; rw [ends_not_value he] at this; cases this
      | cons _ _ => exact hm.elim
    | o :: ops, hm =>
      cases r with
      | nil => cases ops <;> exact hm.2.2.2.2.elim
      | cons q r =>
        have hend := end_is hm.2.1 he hc
        have hxe := end_ev he hf
        have hn : shaped (.mk o.x.k o.x.t o.x.v o.kids) = true := by
          simp only [shaped, okShape, ← hm.1, hm.2.1, hm.2.2.2.1]; rfl
        have hw := shaped_wrap hm.2.2.1 _ hn
        have htp := h.top'.1 (by simp)
        have hql := hg.1.2.1
        have hq0 : q.last ≠ 0 := by intro h0; rw [h0] at hql; exact absurd hql (by decide)
        refine ⟨none, (addB (wrapN o.key (.mk o.x.k o.x.t o.x.v o.kids)) ops top).1, (addB (wrapN o.key (.mk o.x.k o.x.t o.x.v o.kids)) ops top).2, ?_, ?_, fun q h => (by cases h), mat_add _ hw hm.2.2.2.2 q.last q.keys q r rfl, shp_add _ hw h.shp, ?_⟩
        · rw [pfl_add, flat_wrap hm.2.2.1, h.all]
          have e1 : endL o.x.k = [x] := by
            unfold endL; rw [← hm.1, if_pos hm.2.1, ← hend, ← hxe]
          simp [pfl, flat, e1]
        · simp [hks, hx8]
        · cases ops with
          | nil =>
            cases r with
            | cons _ _ => exact hm.2.2.2.2.elim
            | nil =>
              refine ⟨fun hne => absurd rfl hne, fun q' hq' => ?_⟩
              injection hq' with hq' _
              subst hq'
              exact ⟨fun hc => absurd hc hq0, fun _ => ⟨wrapN o.key (.mk o.x.k o.x.t o.x.v o.kids), by simp [addB, htp]⟩⟩
          | cons o2 ops =>
            refine ⟨fun _ => htp, fun q' hq' => ?_⟩
            have := mat_len hm.2.2.2.2
            rw [hq'] at this
            simp at this
  | false =>
    rw [he] at hks
    simp only [if_false, Bool.false_eq_true] at hks ⊢
    cases ho : opensK x.k with
    | true =>
      rw [ho] at hks
      simp only [if_true] at hks ⊢
      have hx8 : x.k ≠ 8 := by unfold opensK at ho; rw [decide_eq_true_iff] at ho; omega
      refine ⟨none, ⟨key, x, []⟩ :: ops, top, ?_, ?_, fun q h => (by cases h), ⟨rfl, ho, h.ok, rfl, ?_⟩, h.shp, ?_⟩
      · rw [h.all]; simp [pfl, flatL]
      · simp [hks, hx8]
      · cases ops with
        | nil =>
          cases r with
          | nil => trivial
          | cons _ _ => exact h.mat.elim
        | cons o r' => exact h.mat
      · refine ⟨fun _ => ?_, fun q hq => by injection hq with _ hq; cases hq⟩
        cases ops with
        | nil =>
          have hr : r = [] := by have := mat_len h.mat; simpa using this
          subst hr
          exact (h.top'.2 p rfl).1 (htop rfl)
        | cons o r' => exact h.top'.1 (by simp)
    | false =>
      rw [ho] at hks
      simp only [if_false, Bool.false_eq_true] at hks ⊢
      by_cases h8 : x.k = 8
      · have hv : valueK x.k = false := by rw [h8]; rfl
        have hkn := hkey hv
        subst hkn
        rw [if_pos (.inl h8)] at hks ⊢
        refine ⟨some x, ops, top, by rw [h.all]; simp, ⟨fun _ => hks.2 h8, fun _ => rfl⟩, fun q hq => by injection hq with hq; rw [← hq]; exact h8, ?_, h.shp, ?_⟩
        · cases ops with
          | nil =>
            cases r with
            | nil => trivial
            | cons _ _ => exact h.mat.elim
          | cons o r' => exact h.mat
        · refine ⟨h.top'.1, fun q hq => ?_⟩
          injection hq with _ hq
          subst hq
          have := (top_cont hg.1 hc).2
          rw [hv] at this
          cases this
      · have hlf : leafK x.k = true := by
          have hfk : x.k = 1 ∨ x.k = 2 ∨ x.k = 3 ∨ x.k = 4 ∨ x.k = 5 ∨ x.k = 6 ∨ x.k = 7 ∨ x.k = 8 ∨ x.k = 9 ∨ x.k = 10 ∨ x.k = 11 ∨ x.k = 12 := by
            have h := hf
            unfold formedB bareK at h
            repeat' split at h
            all_goals first
              | omega
              | (exfalso; exact absurd h (by decide))
              | (rename_i hb; rw [decide_eq_true_iff] at hb; omega)
          unfold endsK at he
          unfold opensK at ho
          rw [decide_eq_false_iff_not] at he ho
          unfold leafK
          rw [decide_eq_true_iff]
          omega
        have hx0 : x.k ≠ 0 := by intro h0; rw [h0] at hlf; exact absurd hlf (by decide)
        have hn : shaped (.mk x.k x.t x.v []) = true := by simp [shaped, shapedL, okShape, hlf]
        have hw := shaped_wrap h.ok _ hn
        have hfl : flat (.mk x.k x.t x.v []) = [x] := by
          have : opensK x.k = false := ho
          simp [flat, flatL, endL, this]
        have key' : ∀ ks, Gath none (addB (wrapN key (.mk x.k x.t x.v [])) ops top).1 (addB (wrapN key (.mk x.k x.t x.v [])) ops top).2 (hs ++ [x]) ({ p with last := x.k, keys := ks } :: r) := by
          intro ks
          refine ⟨?_, ?_, fun q h => (by cases h), mat_add _ hw h.mat x.k ks p r rfl, shp_add _ hw h.shp, top_add _ h.mat h.top' hx0 htop⟩
          · rw [pfl_add, flat_wrap h.ok, hfl, h.all]; simp
          · simp only [Option.isSome_none, Bool.false_eq_true, false_iff, KeySt]
            omega
        by_cases h3 : x.k = 8 ∨ x.k = 11
        · rw [if_pos h3]
          exact ⟨_, _, _, key' _⟩
        · rw [if_neg h3]
          exact ⟨_, _, _, key' p.keys⟩

theorem gath_run : ∀ (l : List Ev) (hs : List Ev) (st : List Pt), (∃ key ops top, Gath key ops top hs st) → Good st → allOk st l → ∃ key ops top, Gath key ops top (hs ++ l) (runS st l)
  | [], hs, st, h, _, _ => by rw [List.append_nil]; exact h
  | x :: l, hs, st, ⟨key, ops, top, h⟩, hg, ha => by
    have := gath_run l (hs ++ [x]) (stepS st x) (gath_step h hg x ha.1) (good_step hg x) ha.2
    rw [List.append_assoc] at this
    exact this
/-- Every document is the walk of one node. -/
theorem doc_node {l : List Ev} (h : wholeE l = 0) : ∃ n, shaped n = true ∧ flat n = l := by
  obtain ⟨ha, hd⟩ := whole_ok h
  obtain ⟨key, ops, top, hG⟩ := gath_run l [] [topP] ⟨_, _, _, gath_start⟩ good_start ha
  rw [List.nil_append] at hG
  have hgd := good_run good_start l
  generalize runS [topP] l = st at *
  match st, hd with
  | [p], hd =>
    simp only [doneB, decide_eq_true_iff] at hd
    have hops : ops = [] := by have := mat_len hG.mat; simpa using this
    subst hops
    obtain ⟨n, rfl⟩ := (hG.top'.2 p rfl).2 hd
    have hk : key = none := by
      cases hkk : key with
      | none => rfl
      | some q =>
        have h1 := hG.keyed.1 (by rw [hkk]; rfl)
        have h2 := hgd.1.1
        rw [h1.1] at h2
        exact absurd h2 (by decide)
    subst hk
    have hs := hG.shp
    simp only [shapedL, Bool.and_true] at hs
    exact ⟨n, hs, by rw [hG.all]; simp [pfl, flatL]⟩
end Go.Proofs.YtonelabeflcplaaGreatDoor
namespace Go.Proofs.YtonelabeflcplaaGreatDoor

theorem shape_head {k : Int} {n : Nat} (h : okShape k n = true) : endsK k = false := by
  unfold okShape opensK leafK at h
  unfold endsK
  simp only [Bool.or_eq_true, Bool.and_eq_true, decide_eq_true_iff] at h
  rw [decide_eq_false_iff_not]
  omega
theorem ev_mk {k k' : Int} {t t' v v' : ByteArray} (h : (⟨k, t, v⟩ : Ev) = ⟨k', t', v'⟩) : k = k' ∧ t = t' ∧ v = v' := by
  injection h with h1 h2 h3
  exact ⟨h1, h2, h3⟩
theorem end_head {e : Int} {a b : List Ev} {m : Nd} (he : endsK e = true) (hm : shaped m = true) (h : endE e :: a = flat m ++ b) : False := by
  cases m with
  | mk k t v l =>
    simp only [shaped, Bool.and_eq_true] at hm
    simp only [flat, List.cons_append] at h
    injection h with h _
    have := (ev_mk h).1
    rw [this, shape_head hm.1] at he
    cases he
mutual
theorem flat_inj : ∀ (n m : Nd) (a b : List Ev), shaped n = true → shaped m = true → flat n ++ a = flat m ++ b → n = m ∧ a = b
  | .mk k t v l, .mk k' t' v' l', a, b, hn, hm, h => by
    simp only [shaped, Bool.and_eq_true] at hn hm
    simp only [flat, List.cons_append, List.append_assoc] at h
    injection h with h1 h2
    obtain ⟨rfl, rfl, rfl⟩ := ev_mk h1
    cases ho : opensK k with
    | true =>
      simp only [endL, ho, if_true, List.singleton_append] at h2
      obtain ⟨rfl, rfl⟩ := flatL_inj l l' a b (endK k) (ends_endK k) hn.2 hm.2 h2
      exact ⟨rfl, rfl⟩
    | false =>
      simp only [endL, ho, if_false, Bool.false_eq_true, List.nil_append] at h2
      have h3 := hn.1
      have h4 := hm.1
      unfold okShape at h3 h4
      simp only [ho, Bool.false_or, Bool.or_eq_true, Bool.and_eq_true, decide_eq_true_iff] at h3 h4
      match l, l', hn.2, hm.2, h2, h3, h4 with
      | [], [], _, _, h2, _, _ =>
        simp only [flatL, List.nil_append] at h2
        exact ⟨rfl, h2⟩
      | [n], [m], hn2, hm2, h2, _, _ =>
        simp only [shapedL, Bool.and_true] at hn2 hm2
        simp only [flatL, List.append_nil] at h2
        obtain ⟨rfl, rfl⟩ := flat_inj n m a b hn2 hm2 h2
        exact ⟨rfl, rfl⟩
      | [], m :: r, _, _, _, h3, h4 =>
        exfalso
        unfold leafK at h3 h4
        simp only [List.length_nil, List.length_cons, decide_eq_true_iff] at h3 h4
        omega
      | n :: r, [], _, _, _, h3, h4 =>
        exfalso
        unfold leafK at h3 h4
        simp only [List.length_nil, List.length_cons, decide_eq_true_iff] at h3 h4
        omega
      | n :: n2 :: r, _, _, _, _, h3, _ =>
        exfalso
        simp only [List.length_cons] at h3
        omega
      | [n], m :: m2 :: r, _, _, _, _, h4 =>
        exfalso
        simp only [List.length_cons] at h4
        omega
theorem flatL_inj : ∀ (l l' : List Nd) (a b : List Ev) (e : Int), endsK e = true → shapedL l = true → shapedL l' = true → flatL l ++ endE e :: a = flatL l' ++ endE e :: b → l = l' ∧ a = b
  | [], [], a, b, e, _, _, _, h => by
    simp only [flatL, List.nil_append] at h
    injection h with _ h
    exact ⟨rfl, h⟩
  | [], m :: r, a, b, e, he, _, hm, h => by
    simp only [shapedL, Bool.and_eq_true] at hm
    simp only [flatL, List.nil_append, List.append_assoc] at h
    exact (end_head he hm.1 h).elim
  | n :: r, [], a, b, e, he, hn, _, h => by
    simp only [shapedL, Bool.and_eq_true] at hn
    simp only [flatL, List.nil_append, List.append_assoc] at h
    exact (end_head he hn.1 h.symm).elim
  | n :: r, m :: r', a, b, e, he, hn, hm, h => by
    simp only [shapedL, Bool.and_eq_true] at hn hm
    simp only [flatL, List.append_assoc] at h
    obtain ⟨rfl, h2⟩ := flat_inj n m _ _ hn.1 hm.1 h
    obtain ⟨rfl, rfl⟩ := flatL_inj r r' a b e he hn.2 hm.2 h2
    exact ⟨rfl, rfl⟩
end
theorem flat_same {n m : Nd} (hn : shaped n = true) (hm : shaped m = true) (h : flat n = flat m) : n = m :=
  (flat_inj n m [] [] hn hm (by rw [h])).1
end Go.Proofs.YtonelabeflcplaaGreatDoor
namespace Go.Proofs.YtonelabeflcplaaGreatDoor

def Nd.k : Nd → Int | .mk k _ _ _ => k
def Nd.t : Nd → ByteArray | .mk _ t _ _ => t
def Nd.v : Nd → ByteArray | .mk _ _ v _ => v
theorem Nd.eta (n : Nd) : n = .mk n.k n.t n.v n.kids := by cases n; rfl
theorem Nd.ind {P : Nd → Prop} (h : ∀ k t v kids, (∀ m ∈ kids, P m) → P (.mk k t v kids)) : ∀ n, P n
  | .mk k t v kids => h k t v kids fun m _ => Nd.ind h m

mutual
def sizeN : Nd → Nat
  | .mk _ _ _ kids => 1 + sizeL kids
def sizeL : List Nd → Nat
  | [] => 0
  | n :: r => sizeN n + sizeL r
end
theorem sizeN_pos (n : Nd) : 0 < sizeN n := by cases n; simp [sizeN]; omega
theorem sizeL_append (a b : List Nd) : sizeL (a ++ b) = sizeL a + sizeL b := by
  induction a with
  | nil => simp [sizeL]
  | cons n r ih => simp [sizeL, ih]; omega
theorem sizeL_len (l : List Nd) : l.length ≤ sizeL l := by
  induction l with
  | nil => simp
  | cons n r ih => have := sizeN_pos n; simp [sizeL]; omega

/-! Few. -/
mutual
def fewN : Nd → Int → Int → Int
  | .mk _ _ _ kids, left, deep => if deep < 0 then -1 else fewL kids (left - 1) (deep - 1)
def fewL : List Nd → Int → Int → Int
  | [], left, _ => left
  | n :: r, left, deep => if left < 0 then left else fewL r (fewN n left deep) deep
end
mutual
theorem fewN_le : ∀ (n : Nd) (left deep : Int), 0 ≤ left → -1 ≤ fewN n left deep ∧ (0 ≤ fewN n left deep → fewN n left deep = left - sizeN n) ∧ fewN n left deep ≤ left
  | .mk _ _ _ kids, left, deep, h => by
    simp only [fewN, sizeN]
    split
    · omega
    · have := fewL_le kids (left - 1) (deep - 1) (by omega)
      omega
theorem fewL_le : ∀ (l : List Nd) (left deep : Int), -1 ≤ left → -1 ≤ fewL l left deep ∧ (0 ≤ fewL l left deep → fewL l left deep = left - sizeL l) ∧ fewL l left deep ≤ left
  | [], left, deep, h => by simp only [fewL, sizeL]; omega
  | n :: r, left, deep, h => by
    simp only [fewL, sizeL]
    split
    · omega
    · have h1 := fewN_le n left deep (by omega)
      have h2 := fewL_le r (fewN n left deep) deep h1.1
      omega
end
theorem few_size {n : Nd} {left deep : Int} (h0 : 0 ≤ left) (h : 0 ≤ fewN n left deep) : (sizeN n : Int) ≤ left := by
  have := fewN_le n left deep h0
  omega
theorem fewL_neg : ∀ (l : List Nd) (left deep : Int), left < 0 → fewL l left deep = left
  | [], _, _, _ => rfl
  | _ :: _, left, deep, h => by simp only [fewL]; rw [if_pos h]

/-! Same. -/
mutual
def sameN : Nd → Nd → Bool
  | .mk k t v l, .mk k' t' v' l' => decide (k = k') && (decide (t = t') && (decide (v = v') && sameL l l'))
def sameL : List Nd → List Nd → Bool
  | [], [] => true
  | n :: r, m :: s => sameN n m && sameL r s
  | _, _ => false
end
mutual
theorem sameN_iff : ∀ (n m : Nd), sameN n m = true ↔ n = m
  | .mk k t v l, .mk k' t' v' l' => by
    simp only [sameN, Bool.and_eq_true, decide_eq_true_iff, sameL_iff l l', Nd.mk.injEq]
theorem sameL_iff : ∀ (l m : List Nd), sameL l m = true ↔ l = m
  | [], [] => by simp [sameL]
  | n :: r, m :: s => by simp only [sameL, Bool.and_eq_true, sameN_iff n m, sameL_iff r s, List.cons.injEq]
  | [], _ :: _ => by simp [sameL]
  | _ :: _, [] => by simp [sameL]
end
theorem sameN_refl (n : Nd) : sameN n n = true := (sameN_iff n n).2 rfl
theorem sameN_comm (n m : Nd) : sameN n m = sameN m n := by
  rw [Bool.eq_iff_iff, sameN_iff, sameN_iff]; exact eq_comm
theorem sameL_len : ∀ {l m : List Nd}, sameL l m = true → l.length = m.length := fun h => by rw [(sameL_iff _ _).1 h]
theorem sameL_snoc (a b : List Nd) (n m : Nd) (h : a.length = b.length) : sameL (a ++ [n]) (b ++ [m]) = (sameL a b && sameN n m) := by
  rw [Bool.eq_iff_iff, Bool.and_eq_true, sameL_iff, sameL_iff, sameN_iff]
  constructor
  · intro e
    have := List.append_inj e h
    exact ⟨this.1, by simpa using this.2⟩
  · rintro ⟨rfl, rfl⟩; rfl

/-! The events that are visited. -/
def noneE : Ev := ⟨0, ⟨#[]⟩, ⟨#[]⟩⟩
mutual
def visN : Nd → List Ev
  | .mk k t v kids => if okShape k kids.length then ⟨k, t, v⟩ :: (visL kids ++ endL k) else [noneE]
def visL : List Nd → List Ev
  | [] => []
  | n :: r => visN n ++ visL r
end
theorem visL_append (a b : List Nd) : visL (a ++ b) = visL a ++ visL b := by
  induction a with
  | nil => rfl
  | cons n r ih => simp [visL, ih, List.append_assoc]
mutual
theorem vis_flat : ∀ n : Nd, shaped n = true → visN n = flat n
  | .mk k t v kids, h => by
    simp only [shaped, Bool.and_eq_true] at h
    simp only [visN, flat, h.1, if_true, visL_flat kids h.2]
theorem visL_flat : ∀ l : List Nd, shapedL l = true → visL l = flatL l
  | [], _ => rfl
  | n :: r, h => by
    simp only [shapedL, Bool.and_eq_true] at h
    simp only [visL, flatL, vis_flat n h.1, visL_flat r h.2]
end
theorem none_step (st : List Pt) : stepE st noneE = 19 := by
  cases st with
  | nil => rfl
  | cons p r =>
    simp only [stepE]
    rw [if_pos (.inl (by decide))]

/-- The error of the first event of a list that is refused. -/
def firstE : List Pt → List Ev → Int
  | _, [] => 0
  | st, x :: l => if stepE st x = 0 then firstE (stepS st x) l else stepE st x
theorem firstE_append : ∀ (a b : List Ev) (st : List Pt), firstE st (a ++ b) = if firstE st a = 0 then firstE (runS st a) b else firstE st a
  | [], b, st => by simp [firstE, runS]
  | x :: a, b, st => by
    simp only [List.cons_append, firstE]
    split
    · rw [firstE_append a b]; rfl
    · rfl
theorem firstE_ok : ∀ (l : List Ev) (st : List Pt), firstE st l = 0 ↔ allOk st l
  | [], st => by simp [firstE, allOk]
  | x :: l, st => by
    simp only [firstE, allOk]
    split
    · rename_i h; rw [firstE_ok l]; simp [h]
    · rename_i h; simp [h]
mutual
/-- May's error is the reference's. -/
theorem goes_first : ∀ (n : Nd) (s : List Ev × List Pt), (goesN n s).2 = firstE s.2 (visN n) ∧ ((goesN n s).2 = 0 → (goesN n s).1.2 = runS s.2 (visN n))
  | .mk k t v kids, s => by
    simp only [goesN, visN]
    cases hs : okShape k kids.length with
    | false => simp [firstE, none_step]
    | true =>
      rw [if_neg (by decide), if_pos rfl]
      by_cases h0 : stepE s.2 ⟨k, t, v⟩ = 0
      · have hk := goesL_first kids (s.1 ++ [⟨k, t, v⟩], stepS s.2 ⟨k, t, v⟩)
        simp only at hk
        rw [if_neg (by rw [h0]; decide)]
        simp only [firstE, if_pos h0, firstE_append, ← hk.1]
        by_cases h1 : (goesL kids (s.1 ++ [⟨k, t, v⟩], stepS s.2 ⟨k, t, v⟩)).2 = 0
        · rw [if_neg (by rw [h1]; decide), if_pos h1]
          have h2 := hk.2 h1
          cases ho : opensK k with
          | true =>
            rw [if_pos rfl]
            simp only [endL, ho, if_true, firstE, ← h2]
            by_cases h3 : stepE (goesL kids (s.1 ++ [⟨k, t, v⟩], stepS s.2 ⟨k, t, v⟩)).1.2 (endE (endK k)) = 0
            · rw [if_neg (by rw [h3]; decide), if_pos h3]
              refine ⟨rfl, fun _ => ?_⟩
              have hr : ∀ (st : List Pt) (x : Ev) (l : List Ev), runS st (x :: l) = runS (stepS st x) l := fun _ _ _ => rfl
              rw [hr, runS_append, ← h2]; rfl
            · rw [if_pos h3, if_neg h3]
              exact ⟨rfl, fun h => absurd h h3⟩
          | false =>
            rw [if_neg (by decide)]
            simp only [endL, ho, if_false, Bool.false_eq_true, firstE, List.append_nil]
            exact ⟨trivial, fun _ => h2⟩
        · rw [if_pos h1, if_neg h1]
          exact ⟨rfl, fun h => absurd h h1⟩
      · rw [if_pos h0]
        simp only [firstE, if_neg h0]
        exact ⟨trivial, fun h => absurd h h0⟩
theorem goesL_first : ∀ (l : List Nd) (s : List Ev × List Pt), (goesL l s).2 = firstE s.2 (visL l) ∧ ((goesL l s).2 = 0 → (goesL l s).1.2 = runS s.2 (visL l))
  | [], s => by simp [goesL, visL, firstE, runS]
  | n :: r, s => by
    have hn := goes_first n s
    simp only [goesL, visL, firstE_append, ← hn.1]
    by_cases h : (goesN n s).2 = 0
    · have hr := goesL_first r (goesN n s).1
      rw [if_neg (by rw [h]; decide), if_pos h, runS_append, ← hn.2 h]
      exact hr
    · rw [if_pos h, if_neg h]
      exact ⟨rfl, fun h' => absurd h' h⟩
end
/-- The error of May. -/
def mayN (n : Nd) : Int := firstE [topP] (visN n)
theorem mayN_goes (n : Nd) : (goesN n ([], [topP])).2 = mayN n := (goes_first n ([], [topP])).1
theorem may_shaped {n : Nd} (h : mayN n = 0) : shaped n = true ∧ allOk [topP] (flat n) := by
  have h1 := (goesN_ok n ([], [topP]) (by rw [mayN_goes]; exact h)).1
  refine ⟨h1, ?_⟩
  rw [← vis_flat n h1]
  exact (firstE_ok _ _).1 h
theorem may_of {n : Nd} (hs : shaped n = true) (ha : allOk [topP] (flat n)) : mayN n = 0 := by
  unfold mayN
  rw [vis_flat n hs]
  exact (firstE_ok _ _).2 ha

/-! Behind the walk of a node one stands where one stood. -/
mutual
theorem flat_len : ∀ n : Nd, (flat n).length ≤ 2 * sizeN n
  | .mk k t v kids => by
    have := flatL_len kids
    simp only [flat, sizeN, List.length_cons, List.length_append, endL]
    split <;> simp <;> omega
theorem flatL_len : ∀ l : List Nd, (flatL l).length ≤ 2 * sizeL l
  | [] => by simp [flatL]
  | n :: r => by
    have h1 := flat_len n
    have h2 := flatL_len r
    simp only [flatL, sizeL, List.length_append]
    omega
end
mutual
theorem vis_len : ∀ n : Nd, (visN n).length ≤ 2 * sizeN n
  | .mk k t v kids => by
    have := visL_len kids
    simp only [visN, sizeN]
    split
    · simp only [List.length_cons, List.length_append, endL]
      split <;> simp <;> omega
    · simp; omega
theorem visL_len : ∀ l : List Nd, (visL l).length ≤ 2 * sizeL l
  | [] => by simp [visL]
  | n :: r => by
    have h1 := vis_len n
    have h2 := visL_len r
    simp only [visL, sizeL, List.length_append]
    omega
end
mutual
theorem flat_deep : ∀ (n : Nd) (st : List Pt), shaped n = true → Good st → allOk st (flat n) → (runS st (flat n)).length = st.length
  | .mk k t v kids, st, hs, hg, ha => by
    simp only [shaped, Bool.and_eq_true] at hs
    simp only [flat, allOk] at ha
    have hb := (allOk_append _ _ _).1 ha.2
    have hg1 := good_step hg ⟨k, t, v⟩
    have hk := flatL_deep kids (stepS st ⟨k, t, v⟩) hs.2 hg1 hb.1
    have hr : runS st (flat (.mk k t v kids)) = runS (runS (stepS st ⟨k, t, v⟩) (flatL kids)) (endL k) := by
      simp only [flat]; rw [show runS st (⟨k, t, v⟩ :: (flatL kids ++ endL k)) = runS (stepS st ⟨k, t, v⟩) (flatL kids ++ endL k) from rfl, runS_append]
    rw [hr]
    obtain ⟨p, r, rfl⟩ := hg.ne
    have he := shape_head hs.1
    cases ho : opensK k with
    | true =>
      simp only [endL, ho, if_true] at hb ⊢
      have h1 : (stepS (p :: r) ⟨k, t, v⟩).length = r.length + 2 := by
        unfold stepS; rw [if_pos ha.1]; simp [goS, he, ho]
      have h2 : stepE (runS (stepS (p :: r) ⟨k, t, v⟩) (flatL kids)) (endE (endK k)) = 0 := hb.2.1
      have hl := hk
      generalize runS (stepS (p :: r) ⟨k, t, v⟩) (flatL kids) = st2 at *
      have h3 : runS st2 [endE (endK k)] = stepS st2 (endE (endK k)) := rfl
      rw [h3]
      unfold stepS
      rw [if_pos h2]
      match st2, hl with
      | q :: r2, hl =>
        simp only [goS]
        rw [if_pos (by exact ends_endK k)]
        simp at hl h1 ⊢
        omega
      | [], hl => rw [h1] at hl; cases hl
    | false =>
      simp only [endL, ho, if_false, Bool.false_eq_true] at hb ⊢
      have h1 : (stepS (p :: r) ⟨k, t, v⟩).length = r.length + 1 := by
        unfold stepS; rw [if_pos ha.1]; simp only [goS, he, ho, if_false, Bool.false_eq_true]; split <;> rfl
      show (runS (stepS (p :: r) ⟨k, t, v⟩) (flatL kids)).length = _
      rw [hk, h1]; rfl
theorem flatL_deep : ∀ (l : List Nd) (st : List Pt), shapedL l = true → Good st → allOk st (flatL l) → (runS st (flatL l)).length = st.length
  | [], st, _, _, _ => rfl
  | n :: r, st, hs, hg, ha => by
    simp only [shapedL, Bool.and_eq_true] at hs
    simp only [flatL] at ha ⊢
    have hb := (allOk_append _ _ _).1 ha
    rw [runS_append, flatL_deep r _ hs.2 (good_run hg _) hb.2, flat_deep n st hs.1 hg hb.1]
end
/-- What may be walked is a document. -/
theorem may_whole {n : Nd} (h : mayN n = 0) : wholeGo 0 [topP] (flat n) = ((flat n).length, 0) := by
  obtain ⟨hs, ha⟩ := may_shaped h
  rw [whole_of ha]
  have hl := flat_deep n [topP] hs good_start ha
  have hg := good_run good_start (flat n)
  have ht : doneB (runS [topP] (flat n)) = true := by
    have hr := (Taken.rel ⟨ha, rfl⟩ : Rel (flat n) (runS [topP] (flat n)))
    have := rel_done hr
    rw [this.1, hl] at *
    have h2 := this.2
    simp at h2
    simp [h2, List.length_pos_iff, flat_ne n]
  rw [ht]
  rfl
theorem may_wholeE {n : Nd} (h : mayN n = 0) : wholeE (flat n) = 0 := by unfold wholeE; rw [may_whole h]
/-- A document is the walk of a tree. -/
theorem doc_tree {l : List Ev} (h : wholeE l = 0) : ∃ n, shaped n = true ∧ flat n = l ∧ mayN n = 0 := by
  obtain ⟨n, hs, rfl⟩ := doc_node h
  exact ⟨n, hs, rfl, may_of hs (whole_ok h).1⟩
mutual
/-- All texts are of at most a megabyte. -/
def smallT : Nd → Prop
  | .mk _ t v kids => t.size ≤ 1048576 ∧ v.size ≤ 1048576 ∧ smallL kids
def smallL : List Nd → Prop
  | [] => True
  | n :: r => smallT n ∧ smallL r
end
theorem smallL_mem : ∀ {l : List Nd}, smallL l ↔ ∀ n ∈ l, smallT n
  | [] => by simp [smallL]
  | n :: r => by simp only [smallL, smallL_mem (l := r), List.mem_cons, forall_eq_or_imp]
mutual
theorem flat_small : ∀ n : Nd, smallT n → ∀ x ∈ flat n, x.t.size ≤ 1048576 ∧ x.v.size ≤ 1048576
  | .mk k t v kids, h, x, hx => by
    simp only [flat] at hx
    rcases List.mem_cons.1 hx with rfl | hx
    · exact ⟨h.1, h.2.1⟩
    · rcases List.mem_append.1 hx with hx | hx
      · exact flatL_small kids h.2.2 x hx
      · simp only [endL] at hx
        split at hx
        · simp at hx; subst hx; exact ⟨Nat.zero_le _, Nat.zero_le _⟩
        · cases hx
theorem flatL_small : ∀ l : List Nd, smallL l → ∀ x ∈ flatL l, x.t.size ≤ 1048576 ∧ x.v.size ≤ 1048576
  | [], _, x, hx => by cases hx
  | n :: r, h, x, hx => by
    simp only [flatL] at hx
    rcases List.mem_append.1 hx with hx | hx
    · exact flat_small n h.1 x hx
    · exact flatL_small r h.2 x hx
end
end Go.Proofs.YtonelabeflcplaaGreatDoor

/-
  Where one stands behind some events, looked at from their beginning (the reference's At and own) and held against the machine of what is open. No program is read here.
  Memory words: a block that is known whole, worlds in which one block has turned, small laws.
-/
import Derived.Test.YtkghdieakpipkaaGreatDoorAnU04
import Derived.WalkKit
import Derived.Below
import Derived.Laws.OwnMore
import Derived.Deep.Draws
import Derived.Laws.Rows
import Derived.Deep.OwnRows
import Derived.OwnWalk
namespace Go.Proofs.YtkghdieakpipkaaGreatDoor

/-- The places of what is open, innermost first. -/
def atStep (S : List Nat) (i : Nat) (k : Int) : List Nat := if opensK k then i :: S else if endsK k then S.tail else S
def atGo : Nat → List Nat → List Ev → List Nat
  | _, S, [] => S
  | i, S, x :: l => atGo (i + 1) (atStep S i x.k) l
def atL (l : List Ev) : List Nat := atGo 0 [] l
theorem atGo_snoc (l : List Ev) (x : Ev) : ∀ (i : Nat) (S : List Nat), atGo i S (l ++ [x]) = atStep (atGo i S l) (i + l.length) x.k := by
  induction l with
  | nil => intro i S; rfl
  | cons y l ih => intro i S; simp only [List.cons_append, atGo, ih, List.length_cons]; congr 1; omega
theorem atL_snoc (l : List Ev) (x : Ev) : atL (l ++ [x]) = atStep (atL l) l.length x.k := by
  unfold atL; rw [atGo_snoc]; simp
theorem atL_take (l : List Ev) (k : Nat) (h : k < l.length) : atL (l.take (k + 1)) = atStep (atL (l.take k)) k (l[k]).k := by
  rw [List.take_succ_eq_append_getElem h, atL_snoc, List.length_take, Nat.min_eq_left (by omega)]
theorem atL_lt (l : List Ev) : ∀ p ∈ atL l, p < l.length := by
  have key : ∀ (l : List Ev) (i : Nat) (S : List Nat), (∀ p ∈ S, p < i) → ∀ p ∈ atGo i S l, p < i + l.length := by
    intro l
    induction l with
    | nil => intro i S h p hp; simpa using h p hp
    | cons x l ih =>
      intro i S h p hp
      have := ih (i + 1) (atStep S i x.k) (fun q hq => by
        unfold atStep at hq
        split at hq
        · rcases List.mem_cons.1 hq with rfl | hq
          · omega
          · have := h q hq; omega
        · split at hq
          · have := h q (List.mem_of_mem_tail hq); omega
          · have := h q hq; omega) p hp
      simp only [List.length_cons]; omega
  intro p hp
  have := key l 0 [] (fun _ h => by cases h) p hp
  omega
theorem atL_len (l : List Ev) : (atL l).length ≤ l.length := by
  have key : ∀ (l : List Ev) (i : Nat) (S : List Nat), (atGo i S l).length ≤ S.length + l.length := by
    intro l
    induction l with
    | nil => intro i S; simp [atGo]
    | cons x l ih =>
      intro i S
      have := ih (i + 1) (atStep S i x.k)
      have h2 : (atStep S i x.k).length ≤ S.length + 1 := by unfold atStep; repeat' split
                                                             all_goals simp; try omega
      simp only [atGo, List.length_cons]; omega
  have := key l 0 []
  simp only [List.length_nil] at this
  unfold atL
  omega

/-- What stands in a thing, not in others within it: how deep one is in others; the places, in their order. -/
def ownStep (s : Int × List Nat) (i : Nat) (k : Int) : Int × List Nat :=
  if endsK k then (s.1 - 1, s.2) else (if opensK k then s.1 + 1 else s.1, if s.1 = 0 then s.2 ++ [i] else s.2)
def ownGo : Nat → Int × List Nat → List Ev → Int × List Nat
  | _, s, [] => s
  | i, s, x :: l => ownGo (i + 1) (ownStep s i x.k) l
def ownP (l : List Ev) (at' : Nat) : Int × List Nat := ownGo (at' + 1) (0, []) (l.drop (at' + 1))
def ownL (l : List Ev) (at' : Nat) : List Nat := (ownP l at').2
theorem ownGo_snoc (l : List Ev) (x : Ev) : ∀ (i : Nat) (s : Int × List Nat), ownGo i s (l ++ [x]) = ownStep (ownGo i s l) (i + l.length) x.k := by
  induction l with
  | nil => intro i s; rfl
  | cons y l ih => intro i s; simp only [List.cons_append, ownGo, ih, List.length_cons]; congr 1; omega
theorem ownP_snoc (l : List Ev) (x : Ev) (p : Nat) (h : p < l.length) : ownP (l ++ [x]) p = ownStep (ownP l p) l.length x.k := by
  unfold ownP
  rw [List.drop_append_of_le_length (by omega), ownGo_snoc]
  congr 1
  rw [List.length_drop]; omega
/-- The same, as far as place k. -/
def ownT (l : List Ev) (p k : Nat) : Int × List Nat := ownGo (p + 1) (0, []) ((l.take k).drop (p + 1))
theorem ownT_start (l : List Ev) (p : Nat) : ownT l p (p + 1) = (0, []) := by
  unfold ownT
  rw [List.drop_of_length_le (by simp; omega)]
  rfl
theorem ownT_end (l : List Ev) (p k : Nat) (h : l.length ≤ k) : ownT l p k = ownP l p := by
  unfold ownT ownP
  rw [List.take_of_length_le h]
theorem ownT_step (l : List Ev) (p k : Nat) (h1 : p + 1 ≤ k) (h : k < l.length) : ownT l p (k + 1) = ownStep (ownT l p k) k (l[k]).k := by
  unfold ownT
  rw [List.take_succ_eq_append_getElem h, List.drop_append_of_le_length (by simp; omega), ownGo_snoc]
  congr 1
  rw [List.length_drop, List.length_take]; omega
theorem own_inv : ∀ (l : List Ev) (i : Nat) (s : Int × List Nat) (B : Nat), (∀ p ∈ s.2, p < B) → s.2.length ≤ i → i + l.length ≤ B → (∀ p ∈ (ownGo i s l).2, p < B) ∧ (ownGo i s l).2.length ≤ i + l.length := by
  intro l
  induction l with
  | nil => intro i s B h1 h2 _; exact ⟨h1, by simp only [ownGo, List.length_nil]; omega⟩
  | cons x l ih =>
    intro i s B h1 h2 h3
    simp only [List.length_cons] at h3 ⊢
    have := ih (i + 1) (ownStep s i x.k) B (by
      intro p hp
      unfold ownStep at hp
      split at hp
      · exact h1 p hp
      · simp only at hp
        split at hp
        · rcases List.mem_append.1 hp with hp | hp
          · exact h1 p hp
          · have := List.mem_singleton.1 hp; omega
        · exact h1 p hp) (by
      unfold ownStep
      split
      · simp only; omega
      · simp only
        split
        · simp; omega
        · omega) (by omega)
    exact ⟨this.1, by have := this.2; simp only [ownGo]; omega⟩
theorem ownT_lt (l : List Ev) (p k : Nat) (hp : p + 1 ≤ k) (hk : k ≤ l.length) : (∀ q ∈ (ownT l p k).2, q < l.length) ∧ (ownT l p k).2.length ≤ l.length := by
  have h : p + 1 + ((l.take k).drop (p + 1)).length ≤ l.length := by rw [List.length_drop, List.length_take]; omega
  have := own_inv ((l.take k).drop (p + 1)) (p + 1) (0, []) l.length (fun _ h => by cases h) (by simp) h
  exact ⟨this.1, by have h2 := this.2; unfold ownT; omega⟩
theorem ownT_deep (l : List Ev) (p k : Nat) (hk : k ≤ l.length) : -(l.length : Int) ≤ (ownT l p k).1 ∧ (ownT l p k).1 ≤ l.length := by
  have key : ∀ (l : List Ev) (i : Nat) (s : Int × List Nat), s.1 - l.length ≤ (ownGo i s l).1 ∧ (ownGo i s l).1 ≤ s.1 + l.length := by
    intro l
    induction l with
    | nil => intro i s; simp [ownGo]
    | cons x l ih =>
      intro i s
      have := ih (i + 1) (ownStep s i x.k)
      have h2 : s.1 - 1 ≤ (ownStep s i x.k).1 ∧ (ownStep s i x.k).1 ≤ s.1 + 1 := by
        unfold ownStep; repeat' split
        all_goals simp only; omega
      simp only [ownGo, List.length_cons]; omega
  have := key ((l.take k).drop (p + 1)) (p + 1) (0, [])
  have h2 : ((l.take k).drop (p + 1)).length ≤ l.length := by rw [List.length_drop, List.length_take]; omega
  unfold ownT
  simp only at this
  omega

/-! Held against the machine. -/
def kindAt (l : List Ev) (i : Nat) : Int := match l[i]? with | some x => x.k | none => 0
def textAt (l : List Ev) (i : Nat) : List UInt8 := match l[i]? with | some x => x.t.data.toList | none => []
def lastK (l : List Ev) (out : List Nat) : Int := match out.getLast? with | some i => kindAt l i | none => 0
/-- The texts of the Keys, or of the Attrs, newest first. -/
def keysK (l : List Ev) (k : Int) (out : List Nat) : List (List UInt8) := ((out.filter fun i => decide (kindAt l i = k)).map (textAt l)).reverse
def keyK (kind : Int) : Int := if kind = 7 then 8 else if kind = 10 then 11 else -1
def Inner (l : List Ev) (j : Nat) (pl : Nat) (p : Pt) : Prop :=
  pl < l.length ∧ kindAt l pl = p.kind ∧ opensK p.kind = true ∧ (ownP l pl).1 = (j : Int) ∧ lastK l (ownL l pl) = p.last ∧ keysK l (keyK p.kind) (ownL l pl) = p.keys ∧ ∀ i ∈ ownL l pl, i < l.length
def RelGo (l : List Ev) : Nat → List Nat → List Pt → Prop
  | _, [], [p] => p.kind = 0 ∧ p.keys = [] ∧ (p.last = 0 ↔ l = [])
  | j, pl :: ps, p :: st => Inner l j pl p ∧ RelGo l (j + 1) ps st
  | _, _, _ => False
def Rel (l : List Ev) (st : List Pt) : Prop := RelGo l 0 (atL l) st

theorem rel_start : Rel [] [topP] := ⟨rfl, rfl, fun _ => rfl, fun _ => rfl⟩
theorem RelGo.len {l : List Ev} : ∀ {j : Nat} {ps : List Nat} {st : List Pt}, RelGo l j ps st → st.length = ps.length + 1
  | _, [], [_], _ => rfl
  | _, [], [], h => h.elim
  | _, [], _ :: _ :: _, h => h.elim
  | _, _ :: _, _ :: _, h => by simp [RelGo.len h.2]
  | _, _ :: _, [], h => h.elim
theorem kindAt_app {l : List Ev} {i : Nat} (x : Ev) (h : i < l.length) : kindAt (l ++ [x]) i = kindAt l i := by
  unfold kindAt; rw [List.getElem?_append_left h]
theorem textAt_app {l : List Ev} {i : Nat} (x : Ev) (h : i < l.length) : textAt (l ++ [x]) i = textAt l i := by
  unfold textAt; rw [List.getElem?_append_left h]
theorem kindAt_new (l : List Ev) (x : Ev) : kindAt (l ++ [x]) l.length = x.k := by
  unfold kindAt; simp
theorem textAt_new (l : List Ev) (x : Ev) : textAt (l ++ [x]) l.length = x.t.data.toList := by
  unfold textAt; simp
theorem lastK_app {l : List Ev} {out : List Nat} (x : Ev) (h : ∀ i ∈ out, i < l.length) : lastK (l ++ [x]) out = lastK l out := by
  unfold lastK
  cases hl : out.getLast? with
  | none => rfl
  | some i => exact kindAt_app x (h i (List.mem_of_getLast? hl))
theorem keysK_app {l : List Ev} {out : List Nat} (k : Int) (x : Ev) (h : ∀ i ∈ out, i < l.length) : keysK (l ++ [x]) k out = keysK l k out := by
  unfold keysK
  congr 1
  rw [List.filter_congr (q := fun i => decide (kindAt l i = k)) (fun i hi => by rw [kindAt_app x (h i hi)])]
  exact List.map_congr_left fun i hi => textAt_app x (h i ((List.mem_filter.1 hi).1))
theorem lastK_new (l : List Ev) (out : List Nat) (x : Ev) : lastK (l ++ [x]) (out ++ [l.length]) = x.k := by
  unfold lastK; rw [List.getLast?_append]; simp [kindAt_new]
theorem keysK_new {l : List Ev} {out : List Nat} (k : Int) (x : Ev) (h : ∀ i ∈ out, i < l.length) : keysK (l ++ [x]) k (out ++ [l.length]) = (if x.k = k then [x.t.data.toList] else []) ++ keysK l k out := by
  rw [← keysK_app k x h]
  unfold keysK
  rw [List.filter_append]
  by_cases hk : x.k = k
  · rw [if_pos hk]
    simp [kindAt_new, hk, textAt_new]
  · rw [if_neg hk]
    simp [kindAt_new, hk]

/-- Further out nothing turns but how deep one is. -/
theorem Inner.far {l : List Ev} {j pl : Nat} {p : Pt} (h : Inner l j pl p) (hj : 0 < j) (x : Ev) {j' : Nat} (hj' : (j' : Int) = (ownStep (j, []) 0 x.k).1) : Inner (l ++ [x]) j' pl p := by
  obtain ⟨h1, h2, h3, h4, h5, h6, h7⟩ := h
  have e := ownP_snoc l x pl h1
  have ho : ownL (l ++ [x]) pl = ownL l pl := by
    unfold ownL
    rw [e]
    unfold ownStep
    rw [h4]
    split
    · rfl
    · simp only
      rw [if_neg (by omega)]
  refine ⟨by simp; omega, by rw [kindAt_app x h1]; exact h2, h3, ?_, ?_, ?_, ?_⟩
  · rw [e, hj']
    unfold ownStep
    rw [h4]
    split <;> rfl
  · rw [ho, lastK_app x h7]; exact h5
  · rw [ho, keysK_app _ x h7]; exact h6
  · rw [ho]; intro i hi; have := h7 i hi; simp; omega
theorem RelGo.far {l : List Ev} (x : Ev) (hl : l ≠ []) : ∀ {j : Nat} {ps : List Nat} {st : List Pt}, RelGo l j ps st → 0 < j → ∀ {j' : Nat}, (j' : Int) = (ownStep (j, []) 0 x.k).1 → RelGo (l ++ [x]) j' ps st
  | _, [], [_], h, _, _, _ => ⟨h.1, h.2.1, by simp [h.2.2, hl]⟩
  | _, [], [], h, _, _, _ => h.elim
  | _, [], _ :: _ :: _, h, _, _, _ => h.elim
  | j, _ :: _, _ :: _, h, hj, j', hj' => ⟨h.1.far hj x hj', RelGo.far x hl h.2 (by omega) (by
      unfold ownStep at hj' ⊢
      split at hj'
      · rename_i he; simp only at hj'; rw [if_pos he]; simp only; omega
      · rename_i he; simp only at hj'; rw [if_neg he]; simp only
        split at hj'
        · rename_i ho; rw [if_pos ho]; omega
        · rename_i ho; rw [if_neg ho]; omega)⟩
  | _, _ :: _, [], h, _, _, _ => h.elim

/-- The innermost thing, which is told of the event. -/
theorem Inner.near {l : List Ev} {pl : Nat} {p : Pt} (h : Inner l 0 pl p) (x : Ev) (he : endsK x.k = false) {j' : Nat} (hj' : (j' : Int) = if opensK x.k then 1 else 0) (ks : List (List UInt8)) (hks : (if x.k = keyK p.kind then [x.t.data.toList] else []) ++ p.keys = ks) :
    Inner (l ++ [x]) j' pl { p with last := x.k, keys := ks } := by
  obtain ⟨h1, h2, h3, h4, h5, h6, h7⟩ := h
  have e := ownP_snoc l x pl h1
  have ho : ownL (l ++ [x]) pl = ownL l pl ++ [l.length] := by
    unfold ownL
    rw [e]
    unfold ownStep
    rw [h4, he, if_neg (by decide)]
    simp only
    rw [if_pos (by rfl)]
  refine ⟨by simp; omega, by rw [kindAt_app x h1]; exact h2, h3, ?_, ?_, ?_, ?_⟩
  · rw [e, hj']
    unfold ownStep
    rw [h4, he, if_neg (by decide)]
    simp only
    split <;> rfl
  · rw [ho, lastK_new]
  · rw [ho, keysK_new _ x h7, h6]; exact hks
  · rw [ho]
    intro i hi
    rcases List.mem_append.1 hi with hi | hi
    · have := h7 i hi; simp; omega
    · have := List.mem_singleton.1 hi; simp; omega
theorem Inner.fresh (l : List Ev) (x : Ev) (ho : opensK x.k = true) : Inner (l ++ [x]) 0 l.length ⟨x.k, 0, []⟩ := by
  have e : ownP (l ++ [x]) l.length = (0, []) := by
    unfold ownP; rw [List.drop_of_length_le (by simp)]; rfl
  refine ⟨by simp, kindAt_new l x, ho, by rw [e]; rfl, by unfold ownL; rw [e]; rfl, by unfold ownL; rw [e]; rfl, by unfold ownL; rw [e]; intro i hi; cases hi⟩

theorem rel_ne {l : List Ev} {pl : Nat} {p : Pt} {j : Nat} (h : Inner l j pl p) : l ≠ [] := by
  rintro rfl; exact absurd h.1 (by simp)
theorem opens_not_ends {k : Int} (h : opensK k = true) : endsK k = false := by
  unfold opensK at h; unfold endsK; rw [decide_eq_true_iff] at h; rw [decide_eq_false_iff_not]; omega
theorem keyK_of {kind : Int} (h : opensK kind = true) {k : Int} (hk : contB kind 0 k true = true ∨ contB kind 0 k false = true ∨ ∃ last te, contB kind last k te = true) (hn : ¬ (k = 8 ∨ k = 11)) : k ≠ keyK kind := by
  unfold keyK
  unfold opensK at h
  rw [decide_eq_true_iff] at h
  split
  · omega
  · split
    · omega
    · rcases hk with hk | hk | ⟨last, te, hk⟩ <;>
      · rename_i h7 h10
        have h5 : kind = 5 := by omega
        unfold contB at hk
        rw [if_pos h5] at hk
        simp only [valueK, Bool.or_eq_true, decide_eq_true_iff] at hk
        omega
theorem keyK_is {kind last k : Int} {te : Bool} (h : opensK kind = true) (hc : contB kind last k te = true) (hk : k = 8 ∨ k = 11) : k = keyK kind := by
  unfold keyK
  unfold opensK at h
  rw [decide_eq_true_iff] at h
  unfold contB at hc
  split
  · rename_i h7
    rw [if_neg (by omega), if_pos h7] at hc
    split at hc
    · unfold valueK at hc; rw [decide_eq_true_iff] at hc; omega
    · rw [decide_eq_true_iff] at hc; omega
  · rename_i h7
    split
    · rename_i h10
      rw [if_neg (by omega), if_neg h7, if_pos h10] at hc
      unfold contElem at hc
      split at hc
      · assumption
      · split at hc
        · omega
        · rw [decide_eq_true_iff] at hc; omega
    · rw [if_pos (by omega)] at hc
      simp only [valueK, Bool.or_eq_true, decide_eq_true_iff] at hc
      omega

theorem rel_step {l : List Ev} {st : List Pt} (h : Rel l st) (x : Ev) (hx : stepE st x = 0) : Rel (l ++ [x]) (stepS st x) := by
  unfold stepS
  rw [if_pos hx]
  unfold Rel at h ⊢
  rw [atL_snoc]
  match hps : atL l, st, h with
  | [], [p], h =>
    obtain ⟨hf, hc⟩ := cont_of hx
    have hv : p.last = 0 ∧ valueK x.k = true := by
      unfold contB at hc
      rw [h.1, if_neg (by decide), if_neg (by decide), if_neg (by decide), Bool.and_eq_true, decide_eq_true_iff] at hc
      exact hc
    have he : endsK x.k = false := by
      rw [Bool.eq_false_iff]; intro hc2; rw [ends_not_value hc2] at hv; exact absurd hv.2 (by decide)
    have hx0 : x.k ≠ 0 := by
      intro h0; rw [h0] at hv; exact absurd hv.2 (by decide)
    have h811 : ¬ (x.k = 8 ∨ x.k = 11) := by
      have := hv.2; unfold valueK at this; rw [decide_eq_true_iff] at this; omega
    cases ho : opensK x.k with
    | true =>
      simp only [goS, atStep, he, ho, if_true, if_false, Bool.false_eq_true]
      exact ⟨Inner.fresh l x ho, h.1, h.2.1, by simp [hx0]⟩
    | false =>
      simp only [goS, atStep, he, ho, if_false, Bool.false_eq_true, if_neg h811]
      exact ⟨h.1, h.2.1, by simp [hx0]⟩
  | pl :: ps, p :: st, h =>
    obtain ⟨hI, hR⟩ := h
    obtain ⟨hf, hc⟩ := cont_of hx
    have hl := rel_ne hI
    have hkd := hI.2.2.1
    cases he : endsK x.k with
    | true =>
      have hno : opensK x.k = false := by
        rw [Bool.eq_false_iff]; intro ho; rw [opens_not_ends ho] at he; cases he
      simp only [goS, atStep, he, hno, if_true, if_false, Bool.false_eq_true]
      exact hR.far x hl (by omega) (by simp only [ownStep, he, if_true]; omega)
    | false =>
      cases ho : opensK x.k with
      | true =>
        simp only [goS, atStep, he, ho, if_true, if_false, Bool.false_eq_true]
        have hk : x.k ≠ keyK p.kind := keyK_of hkd (.inr (.inr ⟨_, _, hc⟩)) (by unfold opensK at ho; rw [decide_eq_true_iff] at ho; omega)
        refine ⟨Inner.fresh l x ho, ?_, ?_⟩
        · exact hI.near x he (j' := 1) (by rw [if_pos ho]; rfl) p.keys (by rw [if_neg hk]; rfl)
        · exact hR.far x hl (by omega) (by simp only [ownStep, he, ho, if_true, if_false, Bool.false_eq_true]; omega)
      | false =>
        have hfar : RelGo (l ++ [x]) (0 + 1) ps st := hR.far x hl (by omega) (by simp only [ownStep, he, ho, if_false, Bool.false_eq_true])
        by_cases h3 : x.k = 8 ∨ x.k = 11
        · simp only [goS, atStep, he, ho, if_false, Bool.false_eq_true, if_pos h3]
          exact ⟨hI.near x he (j' := 0) (by rw [ho]; rfl) _ (by rw [if_pos (keyK_is hkd hc h3)]; rfl), hfar⟩
        · simp only [goS, atStep, he, ho, if_false, Bool.false_eq_true, if_neg h3]
          have hk : x.k ≠ keyK p.kind := keyK_of hkd (.inr (.inr ⟨_, _, hc⟩)) h3
          exact ⟨hI.near x he (j' := 0) (by rw [ho]; rfl) p.keys (by rw [if_neg hk]; rfl), hfar⟩
  | [], [], h => exact h.elim
  | [], _ :: _ :: _, h => exact h.elim
  | _ :: _, [], h => exact h.elim

theorem rel_run : ∀ (l m : List Ev) (st : List Pt), Rel m st → allOk st l → Rel (m ++ l) (runS st l)
  | [], m, st, h, _ => by rw [List.append_nil]; exact h
  | x :: l, m, st, h, ha => by
    have := rel_run l (m ++ [x]) (stepS st x) (rel_step h x ha.1) ha.2
    rw [List.append_assoc] at this
    exact this
theorem rel_done {l : List Ev} {st : List Pt} (h : Rel l st) : doneB st = (decide (atL l = []) && decide (0 < l.length)) ∧ st.length = (atL l).length + 1 := by
  refine ⟨?_, h.len⟩
  unfold Rel at h
  match hps : atL l, st, h with
  | [], [p], h =>
    simp only [doneB, decide_true, Bool.true_and]
    by_cases h0 : p.last = 0
    · rw [h.2.2.1 h0]; simp [h0]
    · have : l ≠ [] := fun hl => h0 (h.2.2.2 hl)
      have h2 : 0 < l.length := List.length_pos_iff.2 this
      simp [h0, h2]
  | pl :: ps, p :: q :: st, h => simp [doneB]
  | pl :: ps, [p], h => cases ps <;> exact h.2.elim
  | [], [], h => exact h.elim
  | [], _ :: _ :: _, h => exact h.elim
  | _ :: _, [], h => exact h.elim
end Go.Proofs.YtkghdieakpipkaaGreatDoor
namespace Go.Proofs.YtkghdieakpipkaaGreatDoor
open Go.RowKit

def Blk (w : World) (g : Nat) (t : TypeId) (cs : Array Value) : Prop := w.heap[g]? = some (.cells cs t (0, 0))

section
variable {w w' : World} {g : Nat} {t : TypeId} {cs : Array Value}
theorem Blk.lt (h : Blk w g t cs) : g < w.heap.size := by
  rcases Nat.lt_or_ge g w.heap.size with hlt | hge
  · exact hlt
  · unfold Blk at h; rw [Array.getElem?_eq_none hge] at h; cases h
theorem Blk.cell (h : Blk w g t cs) (i : Nat) : w.cell? ⟨g, i, none⟩ = cs[i]? := cell_of_row w g i cs t (0, 0) h
theorem Blk.frozen (h : Blk w g t cs) (i : Nat) : w.frozen? ⟨g, i, none⟩ = false := by
  unfold Blk at h
  simp [World.frozen?, h]
theorem Blk.new (w : World) (t : TypeId) (cs : Array Value) : Blk (w.alloc (.cells cs t)) w.heap.size t cs := heap_alloc_new w _
theorem Blk.drew (h : Blk w g t cs) : Blk w.drew g t cs := h
theorem Blk.drewN (h : Blk w g t cs) (n : Nat) : Blk (w.drewN n) g t cs := h
theorem Blk.alloc (h : Blk w g t cs) (o : Obj) : Blk (w.alloc o) g t cs := (Below.heap_alloc w o g h.lt).trans h
theorem Blk.set_ (h : Blk w g t cs) (i : Nat) (u : Value) : Blk (w.setCell ⟨g, i, none⟩ u) g t (cs.setIfInBounds i u) := by
  unfold Blk at h ⊢
  simp [World.setCell, Array.getElem?_modify, h]
theorem Blk.far (h : Blk w g t cs) {p : Addr} (hp : g ≠ p.block) (u : Value) : Blk (w.setCell p u) g t cs := (Below.heap_setCell w p u g hp).trans h
theorem Blk.below {B : Nat} (h : Blk w g t cs) (hb : Below B w w') (hg : g < B) : Blk w' g t cs := (hb.block g hg).trans h
theorem Blk.grown {row : Option Nat} (h : Blk w g t cs) (hb : w.grownBy w' row) (hg : some g ≠ row) : Blk w' g t cs := (hb.block g h.lt hg).trans h
end

theorem only_drewN {a w : World} {row : Option Nat} (h : a.grownBy w row) (n : Nat) : a.grownBy (w.drewN n) row := ⟨h.os, h.tape, h.output, h.size, h.block⟩
theorem only_drew {a w : World} {row : Option Nat} (h : a.grownBy w row) : a.grownBy w.drew row := ⟨h.os, h.tape, h.output, h.size, h.block⟩
theorem only_alloc {a w : World} {row : Option Nat} (h : a.grownBy w row) (o : Obj) : a.grownBy (w.alloc o) row :=
  ⟨h.os, h.tape, h.output, Nat.le_trans h.size (by simp), fun i hi hne => (Below.heap_alloc w o i (Nat.lt_of_lt_of_le hi h.size)).trans (h.block i hi hne)⟩
theorem only_setCell {a w : World} {g : Nat} (h : a.grownBy w (some g)) {p : Addr} (hp : p.block = g ∨ a.heap.size ≤ p.block) (u : Value) : a.grownBy (w.setCell p u) (some g) :=
  ⟨h.os, h.tape, h.output, by simpa [World.setCell] using h.size, fun i hi hne => (Below.heap_setCell w p u i (by
    rintro rfl
    rcases hp with hp | hp
    · exact hne (by rw [hp])
    · omega)).trans (h.block i hi hne)⟩
theorem only_of_below {a w : World} (h : Below a.heap.size a w) (row : Option Nat) : a.grownBy w row := ⟨h.os, h.tape, h.output, h.size, fun i hi _ => h.block i hi⟩
theorem below_drewN {B : Nat} {a w : World} (h : Below B a w) (n : Nat) : Below B a (w.drewN n) := ⟨h.os, h.tape, h.output, h.size, h.block⟩
theorem below_drew {B : Nat} {a w : World} (h : Below B a w) : Below B a w.drew := ⟨h.os, h.tape, h.output, h.size, h.block⟩
theorem below_only {a w w' : World} {B g : Nat} (h : Below B a w) (k : w.grownBy w' (some g)) (hB : B ≤ w.heap.size) (hg : B ≤ g) : Below B a w' :=
  ⟨k.os.trans h.os, k.tape.trans h.tape, k.output.trans h.output, Nat.le_trans h.size k.size, fun i hi => (k.block i (by omega) (fun e => by injection e; omega)).trans (h.block i hi)⟩

end Go.Proofs.YtkghdieakpipkaaGreatDoor

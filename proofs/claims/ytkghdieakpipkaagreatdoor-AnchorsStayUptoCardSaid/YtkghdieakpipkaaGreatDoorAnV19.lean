/-
  Where one stands behind some events, looked at from their beginning (the reference's At and own) and held against the machine of what is open. No program is read here.
  The reference's Cut and Join (hexaplaref04): the same answers.
-/
import Derived.Test.YtkghdieakpipkaaGreatDoorAnV03
import Derived.Test.YtkghdieakpipkaaGreatDoorAnV16
import Derived.Deep.QuietTactic
import Derived.BigQuiet
namespace Go.Proofs.YtkghdieakpipkaaGreatDoor

/-- The places of what is open, innermost first. -/
def atStep (S : List Nat) (i : Nat) (k : Int) : List Nat := if opensK k then i :: S else if endsK k then S.tail else S
def atGo : Nat → List Nat → List Ev → List Nat
  | _, S, [] => S
  | i, S, x :: l => atGo (i + 1) (atStep S i x.k) l
def atL (l : List Ev) : List Nat := atGo 0 [] l
theorem atGo_snoc (l : List Ev) (x : Ev) : ∀ (i : Nat) (S : List Nat), atGo i S (l ++ [x]) = atStep (atGo i S l) (i + l.length) x.k := by
  induction l with
  | nil => intro i S; rfl
  | cons y l ih => intro i S; simp only [List.cons_append, atGo, ih, List.length_cons]; congr 1; omega
theorem atL_snoc (l : List Ev) (x : Ev) : atL (l ++ [x]) = atStep (atL l) l.length x.k := by
  unfold atL; rw [atGo_snoc]; simp
theorem atL_take (l : List Ev) (k : Nat) (h : k < l.length) : atL (l.take (k + 1)) = atStep (atL (l.take k)) k (l[k]).k := by
  rw [List.take_succ_eq_append_getElem h, atL_snoc, List.length_take, Nat.min_eq_left (by omega)]
theorem atL_lt (l : List Ev) : ∀ p ∈ atL l, p < l.length := by
  have key : ∀ (l : List Ev) (i : Nat) (S : List Nat), (∀ p ∈ S, p < i) → ∀ p ∈ atGo i S l, p < i + l.length := by
    intro l
    induction l with
    | nil => intro i S h p hp; simpa using h p hp
    | cons x l ih =>
      intro i S h p hp
      have := ih (i + 1) (atStep S i x.k) (fun q hq => by
        unfold atStep at hq
        split at hq
        · rcases List.mem_cons.1 hq with rfl | hq
          · omega
          · have := h q hq; omega
        · split at hq
          · have := h q (List.mem_of_mem_tail hq); omega
          · have := h q hq; omega) p hp
      simp only [List.length_cons]; omega
  intro p hp
  have := key l 0 [] (fun _ h => by cases h) p hp
  omega
theorem atL_len (l : List Ev) : (atL l).length ≤ l.length := by
  have key : ∀ (l : List Ev) (i : Nat) (S : List Nat), (atGo i S l).length ≤ S.length + l.length := by
    intro l
    induction l with
    | nil => intro i S; simp [atGo]
    | cons x l ih =>
      intro i S
      have := ih (i + 1) (atStep S i x.k)
      have h2 : (atStep S i x.k).length ≤ S.length + 1 := by unfold atStep; repeat' split
                                                             all_goals simp; try omega
      simp only [atGo, List.length_cons]; omega
  have := key l 0 []
  simp only [List.length_nil] at this
  unfold atL
  omega

/-- What stands in a thing, not in others within it: how deep one is in others; the places, in their order. -/
def ownStep (s : Int × List Nat) (i : Nat) (k : Int) : Int × List Nat :=
  if endsK k then (s.1 - 1, s.2) else (if opensK k then s.1 + 1 else s.1, if s.1 = 0 then s.2 ++ [i] else s.2)
def ownGo : Nat → Int × List Nat → List Ev → Int × List Nat
  | _, s, [] => s
  | i, s, x :: l => ownGo (i + 1) (ownStep s i x.k) l
def ownP (l : List Ev) (at' : Nat) : Int × List Nat := ownGo (at' + 1) (0, []) (l.drop (at' + 1))
def ownL (l : List Ev) (at' : Nat) : List Nat := (ownP l at').2
theorem ownGo_snoc (l : List Ev) (x : Ev) : ∀ (i : Nat) (s : Int × List Nat), ownGo i s (l ++ [x]) = ownStep (ownGo i s l) (i + l.length) x.k := by
  induction l with
  | nil => intro i s; rfl
  | cons y l ih => intro i s; simp only [List.cons_append, ownGo, ih, List.length_cons]; congr 1; omega
theorem ownP_snoc (l : List Ev) (x : Ev) (p : Nat) (h : p < l.length) : ownP (l ++ [x]) p = ownStep (ownP l p) l.length x.k := by
  unfold ownP
  rw [List.drop_append_of_le_length (by omega), ownGo_snoc]
  congr 1
  rw [List.length_drop]; omega
/-- The same, as far as place k. -/
def ownT (l : List Ev) (p k : Nat) : Int × List Nat := ownGo (p + 1) (0, []) ((l.take k).drop (p + 1))
theorem ownT_start (l : List Ev) (p : Nat) : ownT l p (p + 1) = (0, []) := by
  unfold ownT
  rw [List.drop_of_length_le (by simp; omega)]
  rfl
theorem ownT_end (l : List Ev) (p k : Nat) (h : l.length ≤ k) : ownT l p k = ownP l p := by
  unfold ownT ownP
  rw [List.take_of_length_le h]
theorem ownT_step (l : List Ev) (p k : Nat) (h1 : p + 1 ≤ k) (h : k < l.length) : ownT l p (k + 1) = ownStep (ownT l p k) k (l[k]).k := by
  unfold ownT
  rw [List.take_succ_eq_append_getElem h, List.drop_append_of_le_length (by simp; omega), ownGo_snoc]
  congr 1
  rw [List.length_drop, List.length_take]; omega
theorem own_inv : ∀ (l : List Ev) (i : Nat) (s : Int × List Nat) (B : Nat), (∀ p ∈ s.2, p < B) → s.2.length ≤ i → i + l.length ≤ B → (∀ p ∈ (ownGo i s l).2, p < B) ∧ (ownGo i s l).2.length ≤ i + l.length := by
  intro l
  induction l with
  | nil => intro i s B h1 h2 _; exact ⟨h1, by simp only [ownGo, List.length_nil]; omega⟩
  | cons x l ih =>
    intro i s B h1 h2 h3
    simp only [List.length_cons] at h3 ⊢
    have := ih (i + 1) (ownStep s i x.k) B (by
      intro p hp
      unfold ownStep at hp
      split at hp
      · exact h1 p hp
      · simp only at hp
        split at hp
        · rcases List.mem_append.1 hp with hp | hp
          · exact h1 p hp
          · have := List.mem_singleton.1 hp; omega
        · exact h1 p hp) (by
      unfold ownStep
      split
      · simp only; omega
      · simp only
        split
        · simp; omega
        · omega) (by omega)
    exact ⟨this.1, by have := this.2; simp only [ownGo]; omega⟩
theorem ownT_lt (l : List Ev) (p k : Nat) (hp : p + 1 ≤ k) (hk : k ≤ l.length) : (∀ q ∈ (ownT l p k).2, q < l.length) ∧ (ownT l p k).2.length ≤ l.length := by
  have h : p + 1 + ((l.take k).drop (p + 1)).length ≤ l.length := by rw [List.length_drop, List.length_take]; omega
  have := own_inv ((l.take k).drop (p + 1)) (p + 1) (0, []) l.length (fun _ h => by cases h) (by simp) h
  exact ⟨this.1, by have h2 := this.2; unfold ownT; omega⟩
theorem ownT_deep (l : List Ev) (p k : Nat) (hk : k ≤ l.length) : -(l.length : Int) ≤ (ownT l p k).1 ∧ (ownT l p k).1 ≤ l.length := by
  have key : ∀ (l : List Ev) (i : Nat) (s : Int × List Nat), s.1 - l.length ≤ (ownGo i s l).1 ∧ (ownGo i s l).1 ≤ s.1 + l.length := by
    intro l
    induction l with
    | nil => intro i s; simp [ownGo]
    | cons x l ih =>
      intro i s
      have := ih (i + 1) (ownStep s i x.k)
      have h2 : s.1 - 1 ≤ (ownStep s i x.k).1 ∧ (ownStep s i x.k).1 ≤ s.1 + 1 := by
        unfold ownStep; repeat' split
        all_goals simp only; omega
      simp only [ownGo, List.length_cons]; omega
  have := key ((l.take k).drop (p + 1)) (p + 1) (0, [])
  have h2 : ((l.take k).drop (p + 1)).length ≤ l.length := by rw [List.length_drop, List.length_take]; omega
  unfold ownT
  simp only at this
  omega

/-! Held against the machine. -/
def kindAt (l : List Ev) (i : Nat) : Int := match l[i]? with | some x => x.k | none => 0
def textAt (l : List Ev) (i : Nat) : List UInt8 := match l[i]? with | some x => x.t.data.toList | none => []
def lastK (l : List Ev) (out : List Nat) : Int := match out.getLast? with | some i => kindAt l i | none => 0
/-- The texts of the Keys, or of the Attrs, newest first. -/
def keysK (l : List Ev) (k : Int) (out : List Nat) : List (List UInt8) := ((out.filter fun i => decide (kindAt l i = k)).map (textAt l)).reverse
def keyK (kind : Int) : Int := if kind = 7 then 8 else if kind = 10 then 11 else -1
def Inner (l : List Ev) (j : Nat) (pl : Nat) (p : Pt) : Prop :=
  pl < l.length ∧ kindAt l pl = p.kind ∧ opensK p.kind = true ∧ (ownP l pl).1 = (j : Int) ∧ lastK l (ownL l pl) = p.last ∧ keysK l (keyK p.kind) (ownL l pl) = p.keys ∧ ∀ i ∈ ownL l pl, i < l.length
def RelGo (l : List Ev) : Nat → List Nat → List Pt → Prop
  | _, [], [p] => p.kind = 0 ∧ p.keys = [] ∧ (p.last = 0 ↔ l = [])
  | j, pl :: ps, p :: st => Inner l j pl p ∧ RelGo l (j + 1) ps st
  | _, _, _ => False
def Rel (l : List Ev) (st : List Pt) : Prop := RelGo l 0 (atL l) st

theorem rel_start : Rel [] [topP] := ⟨rfl, rfl, fun _ => rfl, fun _ => rfl⟩
theorem RelGo.len {l : List Ev} : ∀ {j : Nat} {ps : List Nat} {st : List Pt}, RelGo l j ps st → st.length = ps.length + 1
  | _, [], [_], _ => rfl
  | _, [], [], h => h.elim
  | _, [], _ :: _ :: _, h => h.elim
  | _, _ :: _, _ :: _, h => by simp [RelGo.len h.2]
  | _, _ :: _, [], h => h.elim
theorem kindAt_app {l : List Ev} {i : Nat} (x : Ev) (h : i < l.length) : kindAt (l ++ [x]) i = kindAt l i := by
  unfold kindAt; rw [List.getElem?_append_left h]
theorem textAt_app {l : List Ev} {i : Nat} (x : Ev) (h : i < l.length) : textAt (l ++ [x]) i = textAt l i := by
  unfold textAt; rw [List.getElem?_append_left h]
theorem kindAt_new (l : List Ev) (x : Ev) : kindAt (l ++ [x]) l.length = x.k := by
  unfold kindAt; simp
theorem textAt_new (l : List Ev) (x : Ev) : textAt (l ++ [x]) l.length = x.t.data.toList := by
  unfold textAt; simp
theorem lastK_app {l : List Ev} {out : List Nat} (x : Ev) (h : ∀ i ∈ out, i < l.length) : lastK (l ++ [x]) out = lastK l out := by
  unfold lastK
  cases hl : out.getLast? with
  | none => rfl
  | some i => exact kindAt_app x (h i (List.mem_of_getLast? hl))
theorem keysK_app {l : List Ev} {out : List Nat} (k : Int) (x : Ev) (h : ∀ i ∈ out, i < l.length) : keysK (l ++ [x]) k out = keysK l k out := by
  unfold keysK
  congr 1
  rw [List.filter_congr (q := fun i => decide (kindAt l i = k)) (fun i hi => by rw [kindAt_app x (h i hi)])]
  exact List.map_congr_left fun i hi => textAt_app x (h i ((List.mem_filter.1 hi).1))
theorem lastK_new (l : List Ev) (out : List Nat) (x : Ev) : lastK (l ++ [x]) (out ++ [l.length]) = x.k := by
  unfold lastK; rw [List.getLast?_append]; simp [kindAt_new]
theorem keysK_new {l : List Ev} {out : List Nat} (k : Int) (x : Ev) (h : ∀ i ∈ out, i < l.length) : keysK (l ++ [x]) k (out ++ [l.length]) = (if x.k = k then [x.t.data.toList] else []) ++ keysK l k out := by
  rw [← keysK_app k x h]
  unfold keysK
  rw [List.filter_append]
  by_cases hk : x.k = k
  · rw [if_pos hk]
    simp [kindAt_new, hk, textAt_new]
  · rw [if_neg hk]
    simp [kindAt_new, hk]

/-- Further out nothing turns but how deep one is. -/
theorem Inner.far {l : List Ev} {j pl : Nat} {p : Pt} (h : Inner l j pl p) (hj : 0 < j) (x : Ev) {j' : Nat} (hj' : (j' : Int) = (ownStep (j, []) 0 x.k).1) : Inner (l ++ [x]) j' pl p := by
  obtain ⟨h1, h2, h3, h4, h5, h6, h7⟩ := h
  have e := ownP_snoc l x pl h1
  have ho : ownL (l ++ [x]) pl = ownL l pl := by
    unfold ownL
    rw [e]
    unfold ownStep
    rw [h4]
    split
    · rfl
    · simp only
      rw [if_neg (by omega)]
  refine ⟨by simp; omega, by rw [kindAt_app x h1]; exact h2, h3, ?_, ?_, ?_, ?_⟩
  · rw [e, hj']
    unfold ownStep
    rw [h4]
    split <;> rfl
  · rw [ho, lastK_app x h7]; exact h5
  · rw [ho, keysK_app _ x h7]; exact h6
  · rw [ho]; intro i hi; have := h7 i hi; simp; omega
theorem RelGo.far {l : List Ev} (x : Ev) (hl : l ≠ []) : ∀ {j : Nat} {ps : List Nat} {st : List Pt}, RelGo l j ps st → 0 < j → ∀ {j' : Nat}, (j' : Int) = (ownStep (j, []) 0 x.k).1 → RelGo (l ++ [x]) j' ps st
  | _, [], [_], h, _, _, _ => ⟨h.1, h.2.1, by simp [h.2.2, hl]⟩
  | _, [], [], h, _, _, _ => h.elim
  | _, [], _ :: _ :: _, h, _, _, _ => h.elim
  | j, _ :: _, _ :: _, h, hj, j', hj' => ⟨h.1.far hj x hj', RelGo.far x hl h.2 (by omega) (by
      unfold ownStep at hj' ⊢
      split at hj'
      · rename_i he; simp only at hj'; rw [if_pos he]; simp only; omega
      · rename_i he; simp only at hj'; rw [if_neg he]; simp only
        split at hj'
        · rename_i ho; rw [if_pos ho]; omega
        · rename_i ho; rw [if_neg ho]; omega)⟩
  | _, _ :: _, [], h, _, _, _ => h.elim

/-- The innermost thing, which is told of the event. -/
theorem Inner.near {l : List Ev} {pl : Nat} {p : Pt} (h : Inner l 0 pl p) (x : Ev) (he : endsK x.k = false) {j' : Nat} (hj' : (j' : Int) = if opensK x.k then 1 else 0) (ks : List (List UInt8)) (hks : (if x.k = keyK p.kind then [x.t.data.toList] else []) ++ p.keys = ks) :
    Inner (l ++ [x]) j' pl { p with last := x.k, keys := ks } := by
  obtain ⟨h1, h2, h3, h4, h5, h6, h7⟩ := h
  have e := ownP_snoc l x pl h1
  have ho : ownL (l ++ [x]) pl = ownL l pl ++ [l.length] := by
    unfold ownL
    rw [e]
    unfold ownStep
    rw [h4, he, if_neg (by decide)]
    simp only
    rw [if_pos (by rfl)]
  refine ⟨by simp; omega, by rw [kindAt_app x h1]; exact h2, h3, ?_, ?_, ?_, ?_⟩
  · rw [e, hj']
    unfold ownStep
    rw [h4, he, if_neg (by decide)]
    simp only
    split <;> rfl
  · rw [ho, lastK_new]
  · rw [ho, keysK_new _ x h7, h6]; exact hks
  · rw [ho]
    intro i hi
    rcases List.mem_append.1 hi with hi | hi
    · have := h7 i hi; simp; omega
    · have := List.mem_singleton.1 hi; simp; omega
theorem Inner.fresh (l : List Ev) (x : Ev) (ho : opensK x.k = true) : Inner (l ++ [x]) 0 l.length ⟨x.k, 0, []⟩ := by
  have e : ownP (l ++ [x]) l.length = (0, []) := by
    unfold ownP; rw [List.drop_of_length_le (by simp)]; rfl
  refine ⟨by simp, kindAt_new l x, ho, by rw [e]; rfl, by unfold ownL; rw [e]; rfl, by unfold ownL; rw [e]; rfl, by unfold ownL; rw [e]; intro i hi; cases hi⟩

theorem rel_ne {l : List Ev} {pl : Nat} {p : Pt} {j : Nat} (h : Inner l j pl p) : l ≠ [] := by
  rintro rfl; exact absurd h.1 (by simp)
theorem opens_not_ends {k : Int} (h : opensK k = true) : endsK k = false := by
  unfold opensK at h; unfold endsK; rw [decide_eq_true_iff] at h; rw [decide_eq_false_iff_not]; omega
theorem keyK_of {kind : Int} (h : opensK kind = true) {k : Int} (hk : contB kind 0 k true = true ∨ contB kind 0 k false = true ∨ ∃ last te, contB kind last k te = true) (hn : ¬ (k = 8 ∨ k = 11)) : k ≠ keyK kind := by
  unfold keyK
  unfold opensK at h
  rw [decide_eq_true_iff] at h
  split
  · omega
  · split
    · omega
    · rcases hk with hk | hk | ⟨last, te, hk⟩ <;>
      · rename_i h7 h10
        have h5 : kind = 5 := by omega
        unfold contB at hk
        rw [if_pos h5] at hk
        simp only [valueK, Bool.or_eq_true, decide_eq_true_iff] at hk
        omega
theorem keyK_is {kind last k : Int} {te : Bool} (h : opensK kind = true) (hc : contB kind last k te = true) (hk : k = 8 ∨ k = 11) : k = keyK kind := by
  unfold keyK
  unfold opensK at h
  rw [decide_eq_true_iff] at h
  unfold contB at hc
  split
  · rename_i h7
    rw [if_neg (by omega), if_pos h7] at hc
    split at hc
    · unfold valueK at hc; rw [decide_eq_true_iff] at hc; omega
    · rw [decide_eq_true_iff] at hc; omega
  · rename_i h7
    split
    · rename_i h10
      rw [if_neg (by omega), if_neg h7, if_pos h10] at hc
      unfold contElem at hc
      split at hc
      · assumption
      · split at hc
        · omega
        · rw [decide_eq_true_iff] at hc; omega
    · rw [if_pos (by omega)] at hc
      simp only [valueK, Bool.or_eq_true, decide_eq_true_iff] at hc
      omega

theorem rel_step {l : List Ev} {st : List Pt} (h : Rel l st) (x : Ev) (hx : stepE st x = 0) : Rel (l ++ [x]) (stepS st x) := by
  unfold stepS
  rw [if_pos hx]
  unfold Rel at h ⊢
  rw [atL_snoc]
  match hps : atL l, st, h with
  | [], [p], h =>
    obtain ⟨hf, hc⟩ := cont_of hx
    have hv : p.last = 0 ∧ valueK x.k = true := by
      unfold contB at hc
      rw [h.1, if_neg (by decide), if_neg (by decide), if_neg (by decide), Bool.and_eq_true, decide_eq_true_iff] at hc
      exact hc
    have he : endsK x.k = false := by
      rw [Bool.eq_false_iff]; intro hc2; rw [ends_not_value hc2] at hv; exact absurd hv.2 (by decide)
    have hx0 : x.k ≠ 0 := by
      intro h0; rw [h0] at hv; exact absurd hv.2 (by decide)
    have h811 : ¬ (x.k = 8 ∨ x.k = 11) := by
      have := hv.2; unfold valueK at this; rw [decide_eq_true_iff] at this; omega
    cases ho : opensK x.k with
    | true =>
      simp only [goS, atStep, he, ho, if_true, if_false, Bool.false_eq_true]
      exact ⟨Inner.fresh l x ho, h.1, h.2.1, by simp [hx0]⟩
    | false =>
      simp only [goS, atStep, he, ho, if_false, Bool.false_eq_true, if_neg h811]
      exact ⟨h.1, h.2.1, by simp [hx0]⟩
  | pl :: ps, p :: st, h =>
    obtain ⟨hI, hR⟩ := h
    obtain ⟨hf, hc⟩ := cont_of hx
    have hl := rel_ne hI
    have hkd := hI.2.2.1
    cases he : endsK x.k with
    | true =>
      have hno : opensK x.k = false := by
        rw [Bool.eq_false_iff]; intro ho; rw [opens_not_ends ho] at he; cases he
      simp only [goS, atStep, he, hno, if_true, if_false, Bool.false_eq_true]
      exact hR.far x hl (by omega) (by simp only [ownStep, he, if_true]; omega)
    | false =>
      cases ho : opensK x.k with
      | true =>
        simp only [goS, atStep, he, ho, if_true, if_false, Bool.false_eq_true]
        have hk : x.k ≠ keyK p.kind := keyK_of hkd (.inr (.inr ⟨_, _, hc⟩)) (by unfold opensK at ho; rw [decide_eq_true_iff] at ho; omega)
        refine ⟨Inner.fresh l x ho, ?_, ?_⟩
        · exact hI.near x he (j' := 1) (by rw [if_pos ho]; rfl) p.keys (by rw [if_neg hk]; rfl)
        · exact hR.far x hl (by omega) (by simp only [ownStep, he, ho, if_true, if_false, Bool.false_eq_true]; omega)
      | false =>
        have hfar : RelGo (l ++ [x]) (0 + 1) ps st := hR.far x hl (by omega) (by simp only [ownStep, he, ho, if_false, Bool.false_eq_true])
        by_cases h3 : x.k = 8 ∨ x.k = 11
        · simp only [goS, atStep, he, ho, if_false, Bool.false_eq_true, if_pos h3]
          exact ⟨hI.near x he (j' := 0) (by rw [ho]; rfl) _ (by rw [if_pos (keyK_is hkd hc h3)]; rfl), hfar⟩
        · simp only [goS, atStep, he, ho, if_false, Bool.false_eq_true, if_neg h3]
          have hk : x.k ≠ keyK p.kind := keyK_of hkd (.inr (.inr ⟨_, _, hc⟩)) h3
          exact ⟨hI.near x he (j' := 0) (by rw [ho]; rfl) p.keys (by rw [if_neg hk]; rfl), hfar⟩
  | [], [], h => exact h.elim
  | [], _ :: _ :: _, h => exact h.elim
  | _ :: _, [], h => exact h.elim

theorem rel_run : ∀ (l m : List Ev) (st : List Pt), Rel m st → allOk st l → Rel (m ++ l) (runS st l)
  | [], m, st, h, _ => by rw [List.append_nil]; exact h
  | x :: l, m, st, h, ha => by
    have := rel_run l (m ++ [x]) (stepS st x) (rel_step h x ha.1) ha.2
    rw [List.append_assoc] at this
    exact this
theorem rel_done {l : List Ev} {st : List Pt} (h : Rel l st) : doneB st = (decide (atL l = []) && decide (0 < l.length)) ∧ st.length = (atL l).length + 1 := by
  refine ⟨?_, h.len⟩
  unfold Rel at h
  match hps : atL l, st, h with
  | [], [p], h =>
    simp only [doneB, decide_true, Bool.true_and]
    by_cases h0 : p.last = 0
    · rw [h.2.2.1 h0]; simp [h0]
    · have : l ≠ [] := fun hl => h0 (h.2.2.2 hl)
      have h2 : 0 < l.length := List.length_pos_iff.2 this
      simp [h0, h2]
  | pl :: ps, p :: q :: st, h => simp [doneB]
  | pl :: ps, [p], h => cases ps <;> exact h.2.elim
  | [], [], h => exact h.elim
  | [], _ :: _ :: _, h => exact h.elim
  | _ :: _, [], h => exact h.elim
end Go.Proofs.YtkghdieakpipkaaGreatDoor
namespace Go.Proofs.YtkghdieakpipkaaGreatDoor
open Go.RowKit Go.Maps
set_option maxRecDepth 100000

theorem plain_of {s : ByteArray} (h : ¬ 48 < s.size) (hp : s.size = 0 ∨ ∃ h0 : 0 < s.size, (s[0].toNat : Int) ≠ 123) : cutL s.data.toList = if localL s.data.toList = true then some ([], s.data.toList) else none := by
  refine cutL_plain (by simpa using h) ?_
  rcases hp with hp | ⟨h0, hp⟩
  · rw [List.eq_nil_of_length_eq_zero (l := s.data.toList) (by simpa using hp)]
    rfl
  · rw [bytes_cons s h0]
    simp [Lib.hasPrefix, List.isPrefixOf]
    intro hc
    rw [← hc] at hp
    exact hp rfl
theorem brace_of {s : ByteArray} (h0 : 0 < s.size) (hp : (s[0].toNat : Int) = 123) : s.data.toList = 123 :: s.data.toList.drop 1 := by
  have e := bytes_cons s h0
  have : s[0] = 123 := UInt8.toNat_inj.1 (by rw [show (123 : UInt8).toNat = 123 from rfl]; omega)
  rw [this] at e
  exact e
/-- No closing brace up to k. -/
def noAt (l : List UInt8) (k : Nat) : Prop := ∀ d ∈ (l.drop 1).take (k - 1), noEnd d = true
theorem no_step {s : ByteArray} {k : Nat} (h1 : 1 ≤ k) (hlt : k < s.size) (h : noAt s.data.toList k) (hc : (s[k].toNat : Int) ≠ 125) : noAt s.data.toList (k + 1) := by
  unfold noAt at h ⊢
  rw [show k + 1 - 1 = k by omega, bytes_take s k h1 hlt]
  intro d hd
  rcases List.mem_append.1 hd with hd | hd
  · exact h d hd
  · rw [List.mem_singleton.1 hd]
    unfold noEnd
    rw [decide_eq_true_iff]
    exact hc
theorem no_hit {s : ByteArray} {k : Nat} (h1 : 1 ≤ k) (hlt : k < s.size) (h : noAt s.data.toList k) (hc : (s[k].toNat : Int) = 125) : cutAt (s.data.toList.drop 1) = ((s.data.toList.drop 1).take (k - 1), s.data.toList.drop (k + 1), true) := by
  have e1 : s.data.toList.drop k = 125 :: s.data.toList.drop (k + 1) := by
    rw [drop_cons s k hlt]
    have : s[k] = 125 := UInt8.toNat_inj.1 (by rw [show (125 : UInt8).toNat = 125 from rfl]; omega)
    rw [this]
  have e2 : s.data.toList.drop 1 = (s.data.toList.drop 1).take (k - 1) ++ 125 :: s.data.toList.drop (k + 1) := by
    conv => lhs; rw [← List.take_append_drop (k - 1) (s.data.toList.drop 1)]
    rw [List.drop_drop, show 1 + (k - 1) = k by omega, e1]
  obtain ⟨a1, a2⟩ := span_end (l := s.data.toList.drop (k + 1)) h
  rw [← e2] at a1 a2
  unfold cutAt
  rw [a1, a2]
theorem no_end {s : ByteArray} {k : Nat} (hk : s.size ≤ k) (h : noAt s.data.toList k) : (cutAt (s.data.toList.drop 1)).2.1 = [] := by
  unfold noAt at h
  rw [List.take_of_length_le (by simp; omega)] at h
  have : (s.data.toList.drop 1).dropWhile noEnd = [] := by
    generalize s.data.toList.drop 1 = l at *
    induction l with
    | nil => rfl
    | cons c t ih => rw [List.dropWhile_cons, if_pos (h c List.mem_cons_self)]; exact ih (fun d hd => h d (List.mem_cons_of_mem _ hd))
  unfold cutAt
  rw [this]
theorem extract_mid (s : ByteArray) (k : Nat) : (s.extract 1 k).data.toList = (s.data.toList.drop 1).take (k - 1) := by simp

set_option maxHeartbeats 2000000 in
theorem rcut_any (s : ByteArray) (w : World) (hm : s.size ≤ 140737488355328) :
    Calls Tryz.prog 83 #[.string s] w fun e w' => e = CutEnd s.data.toList ∧ Below w.heap.size w w' := by
  have hl : s.data.toList.length = s.size := by simp
  have hbel := Below.refl w.heap.size w
  by_cases h48 : 48 < s.size
  · rw [cutEnd_none (cutL_long (by omega))]
    clear hl
    go_enter Tryz.func83, Tryz.ntmps83
    go_wp2
    go_ret3
    exact ⟨rfl, hbel⟩
  by_cases h0 : s.size = 0
  · have hE : CutEnd s.data.toList = .returned (.tuple #[.string ⟨#[]⟩, .string ⟨#[]⟩, .bool false]) := by
      rw [List.eq_nil_of_length_eq_zero (l := s.data.toList) (by omega)]
      rfl
    rw [hE]
    have hs : s = ⟨#[]⟩ := ByteArray.ext (Array.eq_empty_of_size_eq_zero h0)
    subst hs
    have HF := Lib.hid (show localL (⟨#[]⟩ : ByteArray).data.toList = false from rfl)
    clear hl hE h0
    go_enter Tryz.func83, Tryz.ntmps83
    go_wp2_with (first
      | (go_at_call 33; refine (rlocal_any _ _ (by omega)).mono ?_; rintro e w' ⟨rfl, rfl⟩; rw [HF.out]))
    go_ret3
    exact ⟨rfl, hbel⟩
  have hp0 : 0 < s.size := by omega
  by_cases hc : (s[0].toNat : Int) = 123
  · have hb := cutL_brace (t := s.data.toList.drop 1) (by simp; omega)
    rw [← brace_of hp0 hc] at hb
    have HB := Lib.hid hb
    clear hb hl
    go_enter Tryz.func83, Tryz.ntmps83
    go_wp2
    go_loop [6] (fun i => ∃ k : Nat, 1 ≤ k ∧ k ≤ s.size ∧ i = .int .i64 k ∧ Hid (noAt s.data.toList k)) (fun i => s.size - (intOf i).toNat)
    case atStart => exact ⟨1, Nat.le_refl _, by omega, rfl, Lib.hid (fun d hd => by simp at hd)⟩
    case round =>
      obtain ⟨k, hk1, hk, rfl, HK⟩ := hrel
      by_cases hlt : k < s.size
      · by_cases hq : (s[k].toNat : Int) = 125
        · have hcut := no_hit hk1 hlt HK.out hq
          have HB' := HB.out
          rw [hcut] at HB'
          simp only at HB'
          have e1 := extract_mid s k
          have e2 := extract_all s (k + 1)
          rw [← e1, ← e2] at HB'
          have n1 : (s.extract 1 k).size ≤ 48 := by simp; omega
          have n2 : (s.extract (k + 1) s.size).size ≤ 48 := by simp; omega
          have d1 : (1 : Int) ≤ k := by omega
          have d2 : (k : Int) ≤ s.size := by omega
          have d3 : (k : Int) + 1 ≤ s.size := by omega
          have d4 : (0 : Int) ≤ (k : Int) + 1 := by omega
          clear e1 e2 hcut HB HK
          rcases Bool.eq_false_or_eq_true (spaceL (s.extract 1 k).data.toList) with hs | hs
          case' inl => have HS := Lib.hid hs
          case' inr => have HS := Lib.hid hs
          all_goals rcases Bool.eq_false_or_eq_true (localL (s.extract (k + 1) s.size).data.toList) with hf | hf
          all_goals have HF := Lib.hid hf
          case' inl.inl => rw [if_pos ⟨hs, hf⟩] at HB'
          case' inl.inl => have HC := Lib.hid (cutEnd_some HB')
          case' inl.inl => rw [str_of, str_of] at HC
          case' inl.inr => rw [if_neg (by rw [hf]; simp)] at HB'
          case' inl.inr => have HC := Lib.hid (cutEnd_none HB')
          case' inr.inl => rw [if_neg (by rw [hs]; simp)] at HB'
          case' inr.inl => have HC := Lib.hid (cutEnd_none HB')
          case' inr.inr => rw [if_neg (by rw [hs]; simp)] at HB'
          case' inr.inr => have HC := Lib.hid (cutEnd_none HB')
          all_goals clear hs hf HB'
          all_goals
            go_wp2_with (first
              | (go_at_call 95; refine (rspace_any _ _ (by omega)).mono ?_; rintro e w' ⟨rfl, hb1⟩; rw [HS.out]; replace hbel := hbel.trans (hb1.mono hbel.size); clear hb1)
              | (go_at_call 33; refine (rlocal_any _ _ (by omega)).mono ?_; rintro e w' ⟨rfl, rfl⟩; rw [HF.out]))
          all_goals first
            | (go_ret3
               exact ⟨HC.out.symm, hbel⟩)
            | (go_quiet (fail)
               go_wp2
               go_ret3
               exact ⟨HC.out.symm, below_drewN hbel _⟩)
        · have HS := Lib.hid (no_step hk1 hlt HK.out hq)
          go_wp2
          go_round
          case rel => exact ⟨k + 1, by omega, by omega, by go_num, HS⟩
          case measure => simp [intOf]; omega
      · have hne := no_end (by omega) HK.out
        have HB' := HB.out
        rw [hne, if_neg (by simp [localL])] at HB'
        have HC := Lib.hid (cutEnd_none HB')
        clear hne HB' HB
        go_wp2
        go_ret3
        exact ⟨HC.out.symm, hbel⟩
  · have hb := plain_of h48 (.inr ⟨hp0, hc⟩)
    have hcb : ((s[0].toNat : Int) != 123) = true := by simpa using hc
    rcases Bool.eq_false_or_eq_true (localL s.data.toList) with hf | hf
    case' inl => rw [hf, if_pos rfl] at hb
    case' inl => rw [cutEnd_some hb]
    case' inr => rw [hf, if_neg (by simp)] at hb
    case' inr => rw [cutEnd_none hb]
    all_goals have HF := Lib.hid hf
    all_goals clear hf hb hl
    all_goals
      go_enter Tryz.func83, Tryz.ntmps83
      go_wp2_with (first
        | (go_at_call 33; refine (rlocal_any s _ hm).mono ?_; rintro e w' ⟨rfl, rfl⟩; rw [HF.out]))
      go_ret3
      exact ⟨rfl, hbel⟩

end Go.Proofs.YtkghdieakpipkaaGreatDoor

/-
  Whatever could be taken can be gone on with to a document: the machine's part. No program is read here.
-/
import Derived.Test.YtmnijjbhkbdojaaGreatDoorEvR
namespace Go.Proofs.YtmnijjbhkbdojaaGreatDoor

/-- A value must follow. -/
def KeySt : List Pt → Prop
  | p :: _ => p.kind = 7 ∧ p.last = 8
  | [] => False
def nullE : Ev := ⟨1, ⟨#[]⟩, ⟨#[]⟩⟩
def endE (k : Int) : Ev := ⟨k, ⟨#[]⟩, ⟨#[]⟩⟩
def endK (kind : Int) : Int := if kind = 7 then 9 else if kind = 10 then 12 else 6
theorem formed_null : formedB nullE = true := by decide
theorem formed_end {k : Int} (h : endsK k = true) : formedB (endE k) = true := by
  unfold formedB endE
  have hb : bareK k = true := by unfold endsK at h; unfold bareK; rw [decide_eq_true_iff] at h ⊢; omega
  simp only [hb, if_true]
  rfl
theorem ends_endK (kind : Int) : endsK (endK kind) = true := by
  unfold endK
  split
  · rfl
  · split <;> rfl
theorem cont_key {kind last : Int} {te : Bool} (h : contB kind last 8 te = true) : kind = 7 := by
  unfold contB at h
  split at h
  · simp [valueK] at h
  · split at h
    · assumption
    · split at h
      · simp [contElem] at h
      · simp [valueK] at h
theorem key_step {st : List Pt} (hg : Good st) {x : Ev} (h : stepE st x = 0) : KeySt (stepS st x) ↔ x.k = 8 := by
  obtain ⟨p, r, rfl⟩ := hg.ne
  obtain ⟨hf, hc⟩ := cont_of h
  unfold stepS
  rw [if_pos h]
  simp only [goS]
  cases he : endsK x.k with
  | true =>
    simp only [if_true]
    have hx : x.k ≠ 8 := by
      unfold endsK at he; rw [decide_eq_true_iff] at he; omega
    cases r with
    | nil => simp [KeySt, hx]
    | cons q r =>
      have := hg.1.2.1
      unfold opensK at this
      rw [decide_eq_true_iff] at this
      simp only [KeySt]
      omega
  | false =>
    simp only [if_false, Bool.false_eq_true]
    cases ho : opensK x.k with
    | true =>
      simp only [if_true, KeySt]
      unfold opensK at ho
      rw [decide_eq_true_iff] at ho
      omega
    | false =>
      simp only [if_false, Bool.false_eq_true]
      by_cases h3 : x.k = 8 ∨ x.k = 11
      · rw [if_pos h3]
        simp only [KeySt]
        constructor
        · intro h; exact h.2
        · intro h8; rw [h8] at hc; exact ⟨cont_key hc, h8⟩
      · rw [if_neg h3]
        simp only [KeySt]
        omega
/-- A row of events that could all be taken, and where one stands behind it. -/
def Taken (hs : List Ev) (st : List Pt) : Prop := allOk [topP] hs ∧ runS [topP] hs = st
theorem taken_nil : Taken [] [topP] := ⟨trivial, rfl⟩
theorem Taken.rel {hs : List Ev} {st : List Pt} (h : Taken hs st) : Rel hs st := by
  have := rel_run hs [] [topP] rel_start h.1
  rw [h.2, List.nil_append] at this
  exact this
theorem Taken.good {hs : List Ev} {st : List Pt} (h : Taken hs st) : Good st := by rw [← h.2]; exact good_run good_start hs
theorem Taken.snoc {hs : List Ev} {st : List Pt} (h : Taken hs st) {x : Ev} (hx : stepE st x = 0) : Taken (hs ++ [x]) (stepS st x) :=
  ⟨(allOk_snoc _ _ _).2 ⟨h.1, by rw [h.2]; exact hx⟩, by rw [runS_snoc, h.2]⟩
theorem Taken.key {hs : List Ev} {st : List Pt} {y : Ev} (h : Taken (hs ++ [y]) st) : KeySt st ↔ y.k = 8 := by
  have ha := (allOk_snoc _ _ _).1 h.1
  rw [← h.2, runS_snoc]
  exact key_step (good_run good_start hs) ha.2
theorem null_key {st : List Pt} (h : KeySt st) : stepE st nullE = 0 := by
  cases st with
  | nil => exact h.elim
  | cons p r =>
    simp only [stepE, formed_null]
    have hc : contB p.kind p.last nullE.k (emptyT nullE.t) = true := by unfold contB; rw [h.1, h.2]; decide
    rw [hc, if_neg (by decide), if_neg (by decide), if_neg (by decide), if_neg (by decide)]
theorem null_top : stepE [topP] nullE = 0 := by decide +kernel
theorem end_step {p : Pt} {r : List Pt} (hk : opensK p.kind = true) (hn : ¬ KeySt (p :: r)) : stepE (p :: r) (endE (endK p.kind)) = 0 ∧ stepS (p :: r) (endE (endK p.kind)) = r := by
  have he := ends_endK p.kind
  have hc : contB p.kind p.last (endK p.kind) (emptyT (endE (endK p.kind)).t) = true := by
    unfold opensK at hk
    rw [decide_eq_true_iff] at hk
    rcases hk with h | h | h
    · rw [h]; simp [contB, endK, valueK]
    · have h8 : p.last ≠ 8 := fun h8 => hn ⟨h, h8⟩
      rw [h]; simp [contB, endK, h8]
    · rw [h]; simp [contB, endK, contElem]
  have h0 : stepE (p :: r) (endE (endK p.kind)) = 0 := by
    simp only [stepE]
    rw [formed_end he]
    show (if true = false ∨ contB p.kind p.last (endK p.kind) (emptyT (endE (endK p.kind)).t) = false then (19 : Int) else if endsK (endK p.kind) = true then 0 else _) = 0
    rw [hc, if_neg (by decide), if_pos he]
  refine ⟨h0, ?_⟩
  unfold stepS
  rw [if_pos h0]
  simp only [goS]
  show (if endsK (endK p.kind) = true then r else _) = r
  rw [if_pos he]
theorem taken_whole {hs : List Ev} {st : List Pt} (h : Taken hs st) (ha : atL hs = []) (hne : hs ≠ []) : wholeGo 0 [topP] hs = (hs.length, 0) := by
  rw [whole_of h.1, h.2]
  have := (rel_done h.rel).1
  rw [ha, decide_eq_true rfl, Bool.true_and, decide_eq_true (List.length_pos_iff.2 hne)] at this
  rw [this]
  rfl
/-- What is innermost, by its place. -/
theorem taken_inner {hs : List Ev} {st : List Pt} {pl : Nat} {ps : List Nat} (h : Taken hs st) (ha : atL hs = pl :: ps) : ∃ p r, st = p :: r ∧ pl < hs.length ∧ kindAt hs pl = p.kind ∧ opensK p.kind = true := by
  have hR := h.rel
  unfold Rel at hR
  rw [ha] at hR
  cases st with
  | nil => exact hR.elim
  | cons p r => exact ⟨p, r, rfl, hR.1.1, hR.1.2.1, hR.1.2.2.1⟩
end Go.Proofs.YtmnijjbhkbdojaaGreatDoor

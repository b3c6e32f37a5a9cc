/-
  stream: what was told is a run of the events' machine; when the end is OK it is a document: for any machine of which it holds step by step. No program is read here.
  delim: its machine as plain functions that a Stream drives; what Decode tells. No program is read here.
-/
import Derived.Test.YtpefblbgbneojaaGreatDlY126
import Derived.Test.YtpefblbgbneojaaGreatDlY124
import Derived.Test.YtpefblbgbneojaaGreatDlY133
namespace Go.Proofs.YtpefblbgbneojaaGreat
set_option maxRecDepth 100000
set_option linter.unusedSimpArgs false
set_option linter.unusedVariables false
set_option linter.unusedSectionVars false
variable [Tab] [Fo]

/-- What was told is a run. -/
structure TkM (M : MachP) (x : M.σ) : Prop where
  ok : allOk [topP] (M.l x)
  run : M.st x = runS [topP] (M.l x)
  sz : ∀ e ∈ M.l x, okE e
structure MachW (M : MachP) where
  PI : M.σ → Prop
  tk : ∀ {x}, PI x → TkM M x
  pi0 : PI M.x0
  step : ∀ {x n} b, PI x → M.Inv x n → TkM M (M.stp x b) ∧ (M.ste x b = 0 → PI (M.stp x b))
  fin : ∀ {x n}, PI x → M.Inv x n → TkM M (M.fin x) ∧ (M.fne x = 0 → doneB (M.st (M.fin x)) = true)
  len : ∀ {x n}, M.Inv x n → (M.l (M.fin x)).length ≤ 2 * n + 8
variable {M : MachP} (F : MachW M)
structure FI (x : Ss M) (k : Nat) : Prop where
  tk : TkM M x.b
  pi : x.e = 0 → F.PI x.b
  rd : x.e = 0 → x.rd = k
theorem fi_feed1 {x : Ss M} {k : Nat} (h : FI F x k) (hi : SInv x k) (c : UInt8) : FI F (feed1 x c) (k + 1) := by
  unfold feed1
  split
  · rename_i he; exact ⟨h.tk, fun h0 => absurd h0 he, fun h0 => absurd h0 he⟩
  · rename_i he
    have he' : x.e = 0 := by simpa using he
    split
    · have hp := F.step c (h.pi he') (hi.b he')
      exact ⟨hp.1, hp.2, fun h0 => by have h0' : M.ste x.b c = 0 := h0; simp only [if_pos h0']; rw [h.rd he']⟩
    · exact ⟨h.tk, fun h0 => absurd (show (3 : Int) = 0 from h0) (by decide), fun h0 => absurd (show (3 : Int) = 0 from h0) (by decide)⟩
theorem fi_feedG : ∀ (l : List UInt8) (x : Ss M) (k : Nat), FI F x k → SInv x k → FI F (feedG x l) (k + l.length)
  | [], _, _, h, _ => h
  | c :: l, x, k, h, hi => by
    have := fi_feedG l (feed1 x c) (k + 1) (fi_feed1 F h hi c) (sinv_feed1 hi c)
    rw [feedG_cons, List.length_cons]
    rwa [show k + (l.length + 1) = k + 1 + l.length from by omega]
theorem fi0 : FI F (ss0 M) 0 := ⟨F.tk F.pi0, fun _ => F.pi0, fun _ => rfl⟩
/-- All of a text. -/
theorem text_facts (F : MachW M) (bs : List UInt8) : (M.l (closeBs (feedG (ss0 M) bs))).length ≤ 4 * bs.length + 8 ∧ (feedG (ss0 M) bs).rd ≤ bs.length ∧ (closeE (feedG (ss0 M) bs) = 0 → (feedG (ss0 M) bs).rd = bs.length)
    ∧ (∀ x ∈ (M.l (closeBs (feedG (ss0 M) bs))), okE x)
    ∧ wholeGo 0 [topP] (M.l (closeBs (feedG (ss0 M) bs))) = ((M.l (closeBs (feedG (ss0 M) bs))).length, if doneB (M.st (closeBs (feedG (ss0 M) bs))) then 0 else 19)
    ∧ (closeE (feedG (ss0 M) bs) = 0 → doneB (M.st (closeBs (feedG (ss0 M) bs))) = true) := by
  have hf := fi_feedG F bs (ss0 M) 0 (fi0 F) sinv0
  have hs := sinv_feedG bs (ss0 M) 0 sinv0
  rw [Nat.zero_add] at hf hs
  generalize feedG (ss0 M) bs = y at *
  have hE : TkM M (closeBs y) ∧ (closeE y = 0 → y.e = 0 ∧ doneB (M.st (closeBs y)) = true) := by
    unfold closeE closeBs endE endBs
    by_cases he : y.e = 0
    · by_cases hz : y.sl = 0
      · simp only [he, hz, ne_eq, not_true_eq_false, if_false, if_true, true_and]
        have := F.fin (hf.pi he) (hs.b he)
        exact ⟨this.1, fun h => this.2 h⟩
      · simp only [he, hz, ne_eq, not_true_eq_false, if_false, true_and]
        exact ⟨hf.tk, fun h => absurd h (by decide)⟩
    · simp only [he, ne_eq, not_false_eq_true, if_true, false_and]
      exact ⟨hf.tk, fun h => h⟩
  have hlen : (M.l (closeBs y)).length ≤ 4 * bs.length + 8 := by
    have h2 := hs.ln
    unfold closeBs endBs
    split
    · omega
    · rename_i he
      have h1 := F.len (hs.b (by simpa using he))
      split <;> omega
  refine ⟨hlen, hs.rd, fun h => hf.rd (hE.2 h).1, hE.1.sz, ?_, fun h => (hE.2 h).2⟩
  rw [whole_of hE.1.ok, ← hE.1.run]
end Go.Proofs.YtpefblbgbneojaaGreat
namespace Go.Proofs.YtpefblbgbneojaaGreat
set_option maxRecDepth 100000
set_option linter.unusedSimpArgs false
set_option linter.unusedVariables false
set_option linter.unusedSectionVars false
variable [Tab] [Fo]

@[reducible] def dlP : MachP where
  σ := Ds
  x0 := ds0
  stp := fun s b => (stepD s b).b
  ste := fun s b => (stepD s b).e
  fin := fun s => (finD s).b
  fne := fun s => (finD s).e
  st := fun s => s.st
  l := fun s => s.l
  Inv := DIn
  inv0 := din0
  inv_step := fun b h he => (do_step h b).2.2 he
  len_step := fun b h => (do_step h b).2.1
  inv_mono := fun h hk => din_mono h hk
  inv_len := fun h => h.ln
def dlW : MachW dlP where
  PI := fun s => TkD s
  tk := fun h => ⟨h.ok, h.run, h.sz⟩
  pi0 := din0.tk
  step := fun b _ hi => by
    have := (do_step hi b).1
    exact ⟨⟨this.ok, this.run, this.sz⟩, fun _ => this⟩
  fin := fun _ hi => by
    have := do_fin hi
    exact ⟨⟨this.1.ok, this.1.run, this.1.sz⟩, this.2.2⟩
  len := fun hi => (do_fin hi).2.1

/-- What delim.Decode tells: the events, the error, how many bytes were read. -/
def dEv (bs : List UInt8) : List Ev := (closeBs (feedG (ss0 dlP) bs)).l
def dEr (bs : List UInt8) : Int := closeE (feedG (ss0 dlP) bs)
def dRd (bs : List UInt8) : Nat := (feedG (ss0 dlP) bs).rd

end Go.Proofs.YtpefblbgbneojaaGreat

/-
  delim: the machine's run over a cell, against the reference's cell. No program is read here.
-/
import Derived.Test.YtfciacigamjfkabGreatDmS34
namespace Go.Proofs.YtfciacigamjfkabGreat
set_option maxRecDepth 100000
set_option linter.unusedSimpArgs false
set_option linter.unusedVariables false
set_option linter.unusedSectionVars false
variable [Tab] [Fo]

/-- A run of the machine alone: its state, the error, the place. -/
structure DR where
  b : Ds
  e : Int
  a : Nat
def runD : Ds → List UInt8 → Nat → DR
  | s, [], a => ⟨s, 0, a⟩
  | s, b :: t, a => if (stepD s b).e = 0 then runD (stepD s b).b t (a + 1) else ⟨(stepD s b).b, (stepD s b).e, a⟩
theorem runD_ok {s s' : Ds} {b : UInt8} (h : stepD s b = ⟨s', 0⟩) (t : List UInt8) (a : Nat) : runD s (b :: t) a = runD s' t (a + 1) := by
  simp only [runD, h]; rfl
theorem runD_bad {s s' : Ds} {b : UInt8} {e : Int} (h : stepD s b = ⟨s', e⟩) (he : e ≠ 0) (t : List UInt8) (a : Nat) : runD s (b :: t) a = ⟨s', e, a⟩ := by
  simp only [runD, h]; rw [if_neg he]
/-- What a run comes to: the events, the error, its place; of a text that is not closed the end is where no character is whole. -/
structure Fn where
  l : List Ev
  e : Int
  a : Nat
def totD (cl : Bool) (r : DR) : Fn := if r.e ≠ 0 then ⟨r.b.l, r.e, r.a⟩ else if cl = true then ⟨(finD r.b).b.l, (finD r.b).e, r.a⟩ else ⟨r.b.l, 3, r.a⟩
def errF (cl : Bool) (len : Nat) (l : List Ev) (e : Int) (pl : Nat) : Fn := if cl = false ∧ len ≤ pl then ⟨l, 3, len⟩ else ⟨l, e, pl⟩
theorem tot_bad {s' : Ds} {e : Int} {a len : Nat} {l : List Ev} (he : e ≠ 0) (hl : s'.l = l) (h : a < len) (cl : Bool) : totD cl ⟨s', e, a⟩ = errF cl len l e a := by
  unfold totD errF
  rw [if_pos he, if_neg (by omega), hl]
def endS (s : Ds) (α : Int) (o : List UInt8) : Ds := ⟨{ s.m with a := α, c := o }, s.st, s.l⟩
theorem endS_self (s : Ds) : endS s s.m.a s.m.c = s := rfl
def bindS (v : Option (Int × Int × Int)) (l : List UInt8) : Option (Int × Int × Int) := match v with | some (p, q, r) => scG p q r l | none => none
theorem bindS_snoc (out : List UInt8) (c : UInt8) (t : List UInt8) : bindS (sc0 (out ++ [c])) t = bindS (sc0 out) (c :: t) := by
  cases h : sc0 out with
  | none => rw [sc0_append_none _ h]; rfl
  | some v =>
    obtain ⟨p, q, r⟩ := v
    rw [sc0_append h]
    simp only [bindS, scG]
    split
    · rename_i h2
      split at h2
      · rename_i h3
        rw [if_pos h3]
        injection h2 with h2
        simp only [Prod.mk.injEq] at h2
        obtain ⟨rfl, rfl, rfl⟩ := h2
        rfl
      · cases h2
    · rename_i h2
      split at h2
      · cases h2
      · rename_i h3; rw [if_neg h3]
/-- An ASCII byte goes on where all is whole alone. -/
theorem bindS_ascii {out : List UInt8} {c : UInt8} {t : List UInt8} (hc : c.toNat < 128) {v : Int × Int × Int} (h : bindS (sc0 out) (c :: t) = some v) : (∃ q r, sc0 out = some (0, q, r)) ∧ sc0 t = some v := by
  cases hs : sc0 out with
  | none => rw [hs] at h; cases h
  | some u =>
    obtain ⟨p, q, r⟩ := u
    rw [hs] at h
    simp only [bindS, scG] at h
    split at h
    · rename_i hk
      have hi := sc0_inv hs
      rw [ok_ascii (by omega) (by omega) hi.1 (fun h => (hi.2 h).1), decide_eq_true_iff] at hk
      subst hk
      refine ⟨⟨q, r, rfl⟩, ?_⟩
      obtain ⟨e1, e2, e3⟩ := st_ascii (b := (c.toNat : Int)) (by omega)
      rw [e1, e2, e3] at h
      exact h
    · cases h
theorem valid_of {out : List UInt8} (hl : out.length ≤ 48) {q r : Int} (h : sc0 out = some (0, q, r)) : validL out = true := by
  unfold validL
  rw [decide_eq_true (by omega), sc_valid]
  unfold sc0 at h
  rw [h]
  rfl
def sep (c : UInt8) : Prop := c.toNat = 44 ∨ c.toNat = 10
/-- What the machine makes of a cell, held against what the reference reads. -/
structure CellO (l : List UInt8) (a : Nat) (s : Ds) (sc : Option (Int × Int × Int)) (r : CellR) : Prop where
  ok : r.e = 0 → ∃ u v α, l = u ++ v ∧ r.at' = a + u.length ∧ (v = [] ∨ ∃ c t, v = c :: t ∧ sep c) ∧ (α = 1 ∨ α = 2 ∨ α = 3 ∨ α = 5) ∧ (α = 1 → v ≠ []) ∧ runD s l a = runD (endS s α r.out) v r.at' ∧
    ∀ p q r', sc = some (p, q, r') → (v = [] → p = 0) → validL r.out = true ∧ ∀ c t, v = c :: t → sc0 t = some (p, q, r')
  bad : r.e ≠ 0 → ∀ cl, totD cl (runD s l a) = errF cl (a + l.length) s.l r.e r.at'
theorem CellO.cons {c : UInt8} {t : List UInt8} {a b : Nat} {s s' : Ds} {sc sc' : Option (Int × Int × Int)} {r : CellR} {w : List UInt8} (h : CellO t b s' sc' r) (hb : b = a + w.length) (hr : runD s (w ++ t) a = runD s' t b) (he : ∀ α o, endS s' α o = endS s α o) (hl : s'.l = s.l) (hsc : ∀ v, sc = some v → sc' = some v) : CellO (w ++ t) a s sc r := by
  subst hb
  refine ⟨fun h0 => ?_, fun h0 cl => ?_⟩
  · obtain ⟨u, v, α, e1, e2, e3, e4, e5, e6, e7⟩ := h.ok h0
    refine ⟨w ++ u, v, α, by rw [e1, List.append_assoc], by rw [e2, List.length_append]; omega, e3, e4, e5, by rw [hr, e6, he], fun p q r' hs => e7 p q r' (hsc _ hs)⟩
  · rw [hr, h.bad h0 cl, hl, List.length_append, Nat.add_assoc]
theorem step3_sep {s : Ds} {c : UInt8} (h : s.m.a = 3) : stepD s c = outD s c := by
  unfold stepD
  rw [if_neg (by omega), if_neg (by omega), if_neg (by omega), if_neg (by omega)]
theorem step4 {s : Ds} {c : UInt8} (h : s.m.a = 4) : stepD s c = if c.toNat = 34 then ⟨setA s 5, 0⟩ else addD s c := by
  unfold stepD
  rw [if_neg (by omega), if_neg (by omega), if_pos h]
theorem addD_bad {s : Ds} (b : UInt8) (h : 48 ≤ s.m.c.length) : addD s b = ⟨s, 4⟩ := by unfold addD; rw [if_pos h]
theorem bare_cell : ∀ (l out : List UInt8) (a : Nat) (s : Ds), s.m.a = 3 → s.m.c = out → out.length ≤ 48 → CellO l a s (bindS (sc0 out) l) (bareG l out a)
  | [], out, a, s, ha, hc, hl => by
    refine ⟨fun _ => ⟨[], [], 3, rfl, rfl, .inl rfl, .inr (.inr (.inl rfl)), (fun h => absurd h (by decide)), ?_, fun p q r' hs hp => ⟨?_, fun _ _ h => by cases h⟩⟩, fun h => absurd rfl h⟩
    · show runD s [] a = runD (endS s 3 out) [] a
      rw [← hc, ← ha, endS_self]
    · show validL out = true
      cases h0 : sc0 out with
      | none => rw [h0] at hs; cases hs
      | some v =>
        obtain ⟨p0, q0, r0⟩ := v
        rw [h0] at hs
        simp only [bindS, scG, Option.some.injEq, Prod.mk.injEq] at hs
        have hp0 := hp rfl
        rw [hs.1, hp0] at h0
        exact valid_of hl h0
  | c :: t, out, a, s, ha, hc, hl => by
    unfold bareG
    by_cases h1 : c.toNat = 44 ∨ c.toNat = 10
    · rw [if_pos h1]
      refine ⟨fun _ => ⟨[], c :: t, 3, rfl, rfl, .inr ⟨c, t, rfl, h1⟩, .inr (.inr (.inl rfl)), (fun h => absurd h (by decide)), ?_, fun p q r' hs hp => ?_⟩, fun h => absurd rfl h⟩
      · show runD s (c :: t) a = runD (endS s 3 out) (c :: t) a
        rw [← hc, ← ha, endS_self]
      · obtain ⟨⟨q0, r0, h0⟩, h2⟩ := bindS_ascii (by omega) hs
        exact ⟨valid_of hl h0, fun c' t' h => by injection h with h3 h4; rw [← h4]; exact h2⟩
    · rw [if_neg h1]
      have ho : stepD s c = if c.toNat < 32 ∨ c.toNat = 34 then ⟨s, 2⟩ else addD s c := by
        rw [step3_sep ha]
        unfold outD
        rw [if_neg (fun h => h1 (.inl h)), if_neg (fun h => h1 (.inr h))]
        by_cases h2 : c.toNat < 32 ∨ c.toNat = 34
        · rw [if_pos h2, if_pos (by rcases h2 with h | h; exact .inl h; exact .inr (.inl h))]
        · rw [if_neg h2, if_neg (by rintro (h | h | h); exact h2 (.inl h); exact h2 (.inr h); omega)]
      by_cases h2 : c.toNat < 32 ∨ c.toNat = 34
      · rw [if_pos h2]
        rw [if_pos h2] at ho
        refine ⟨fun h => absurd h (by simp), fun _ cl => ?_⟩
        rw [runD_bad ho (by decide)]
        exact tot_bad (by decide) rfl (by rw [List.length_cons]; omega) cl
      · rw [if_neg h2]
        rw [if_neg h2] at ho
        by_cases h3 : 48 ≤ out.length
        · rw [if_pos h3]
          rw [addD_bad c (by rw [hc]; exact h3)] at ho
          refine ⟨fun h => absurd h (by simp), fun _ cl => ?_⟩
          rw [runD_bad ho (by decide)]
          exact tot_bad (by decide) rfl (by rw [List.length_cons]; omega) cl
        · rw [if_neg h3]
          rw [addD_ok c (by rw [hc]; omega)] at ho
          have ih := bare_cell t (out ++ [c]) (a + 1) (addC s [c]) ha (by show s.m.c ++ [c] = _; rw [hc]) (by rw [List.length_append, List.length_singleton]; omega)
          exact CellO.cons (c := c) (w := [c]) ih rfl (runD_ok ho t a) (fun _ _ => rfl) rfl (fun v hv => by rw [bindS_snoc]; exact hv)
theorem quot_cell (n : Nat) : ∀ (l out : List UInt8) (a : Nat) (s : Ds), l.length ≤ n → s.m.a = 4 → s.m.c = out → out.length ≤ 48 → CellO l a s (bindS (sc0 out) l) (quotG l out a) := by
  have hend : ∀ (s : Ds) (a : Nat) (cl : Bool), s.m.a = 4 → totD cl ⟨s, 0, a⟩ = errF cl a s.l 2 a := by
    intro s a cl ha
    have hf : finD s = ⟨s, 2⟩ := by
      have : endD s = ⟨s, 2⟩ := by unfold endD; rw [if_neg (by omega), if_pos ha]
      unfold finD
      rw [this]
      rfl
    unfold totD errF
    rw [if_neg (fun h => h rfl)]
    cases cl with
    | true => rw [if_pos rfl, hf, if_neg (fun h => by cases h.1)]
    | false => rw [if_neg (by decide), if_pos ⟨rfl, Nat.le_refl _⟩]
  induction n using Nat.strongRecOn with
  | _ n ih =>
    intro l out a s hn ha hc hl
    have hv : ∀ (c : UInt8) (t : List UInt8), c.toNat = 34 → ∀ p q r', bindS (sc0 out) (c :: t) = some (p, q, r') → validL out = true ∧ sc0 t = some (p, q, r') := by
      intro c t hc34 p q r' hs
      obtain ⟨⟨q0, r0, h0⟩, h2⟩ := bindS_ascii (by omega) hs
      exact ⟨valid_of hl h0, h2⟩
    match l with
    | [] =>
      refine ⟨fun h => absurd h (by simp [quotG]), fun _ cl => ?_⟩
      show totD cl ⟨s, 0, a⟩ = errF cl (a + 0) s.l 2 a
      exact hend s a cl ha
    | [c] =>
      simp only [quotG]
      by_cases h1 : c.toNat = 34
      · rw [if_pos h1]
        have ho : stepD s c = ⟨setA s 5, 0⟩ := by rw [step4 ha, if_pos h1]
        refine ⟨fun _ => ⟨[c], [], 5, rfl, rfl, .inl rfl, .inr (.inr (.inr rfl)), (fun h => absurd h (by decide)), ?_, fun p q r' hs hp => ⟨(hv c [] h1 p q r' hs).1, fun _ _ h => by cases h⟩⟩, fun h => absurd rfl h⟩
        rw [runD_ok ho]
        show runD (setA s 5) [] (a + 1) = runD (endS s 5 out) [] (a + 1)
        rw [← hc]
        rfl
      · rw [if_neg h1]
        have ho : stepD s c = addD s c := by rw [step4 ha, if_neg h1]
        by_cases h3 : 48 ≤ out.length
        · rw [if_pos h3]
          rw [addD_bad c (by rw [hc]; exact h3)] at ho
          refine ⟨fun h => absurd h (by simp), fun _ cl => ?_⟩
          rw [runD_bad ho (by decide)]
          exact tot_bad (by decide) rfl (by simp) cl
        · rw [if_neg h3]
          rw [addD_ok c (by rw [hc]; omega)] at ho
          refine ⟨fun h => absurd h (by simp), fun _ cl => ?_⟩
          rw [runD_ok ho]
          exact hend (addC s [c]) (a + 1) cl ha
    | c :: d :: t =>
      rw [quotG]
      simp only [List.length_cons] at hn
      by_cases h1 : c.toNat = 34
      · rw [if_pos h1]
        have ho : stepD s c = ⟨setA s 5, 0⟩ := by rw [step4 ha, if_pos h1]
        by_cases h2 : d.toNat = 34
        · rw [if_pos h2]
          have hq : stepD (setA s 5) d = addD (setA (setA s 5) 4) d := by
            unfold stepD
            have e5 : (setA s 5).m.a = 5 := rfl
            rw [if_neg (by omega), if_neg (by omega), if_neg (by omega), if_pos ⟨e5, h2⟩]
          have e4 : setA (setA s 5) 4 = s := by rw [← ha]; rfl
          rw [e4] at hq
          by_cases h3 : 48 ≤ out.length
          · rw [if_pos h3]
            rw [addD_bad d (by rw [hc]; exact h3)] at hq
            refine ⟨fun h => absurd h (by simp), fun _ cl => ?_⟩
            rw [runD_ok ho, runD_bad hq (by decide)]
            exact tot_bad (by decide) rfl (by simp) cl
          · rw [if_neg h3]
            rw [addD_ok d (by rw [hc]; omega)] at hq
            have := ih t.length (by omega) t (out ++ [d]) (a + 2) (addC s [d]) (Nat.le_refl _) ha (by show s.m.c ++ [d] = _; rw [hc]) (by rw [List.length_append, List.length_singleton]; omega)
            refine CellO.cons (c := c) (w := [c, d]) this rfl ?_ (fun _ _ => rfl) rfl (fun v hv' => ?_)
            · show runD s (c :: d :: t) a = _
              rw [runD_ok ho, runD_ok hq]
            · obtain ⟨p, q, r'⟩ := v
              obtain ⟨⟨q0, r0, h0⟩, h4⟩ := bindS_ascii (by omega) hv'
              have h5 : bindS (sc0 []) (d :: t) = some (p, q, r') := h4
              obtain ⟨_, h6⟩ := bindS_ascii (by omega) h5
              rw [bindS_snoc, h0]
              obtain ⟨q3, r3, h7, _⟩ := sc_zero (d :: t) q0 r0 p q r' h4
              show scG 0 q0 r0 (d :: t) = _
              have h8 : scG 0 q0 r0 (d :: t) = scG 0 128 191 (d :: t) := rfl
              rw [h8]; exact h4
        · rw [if_neg h2]
          by_cases h3 : d.toNat = 44 ∨ d.toNat = 10
          · rw [if_pos h3]
            refine ⟨fun _ => ⟨[c], d :: t, 5, rfl, rfl, .inr ⟨d, t, rfl, h3⟩, .inr (.inr (.inr rfl)), (fun h => absurd h (by decide)), ?_, fun p q r' hs hp => ?_⟩, fun h => absurd rfl h⟩
            · rw [runD_ok ho]
              show runD (setA s 5) (d :: t) (a + 1) = runD (endS s 5 out) (d :: t) (a + 1)
              rw [← hc]
              rfl
            · obtain ⟨g1, g2⟩ := hv c (d :: t) h1 p q r' hs
              have h5 : bindS (sc0 []) (d :: t) = some (p, q, r') := g2
              obtain ⟨_, h6⟩ := bindS_ascii (by omega) h5
              exact ⟨g1, fun c' t' h => by injection h with h3 h4; rw [← h4]; exact h6⟩
          · rw [if_neg h3]
            have hq : stepD (setA s 5) d = ⟨setA s 5, 2⟩ := by
              unfold stepD
              have e5 : (setA s 5).m.a = 5 := rfl
              rw [if_neg (by omega), if_neg (by omega), if_neg (by omega), if_neg (fun h => h2 h.2)]
              unfold outD
              rw [if_neg (fun h => h3 (.inl h)), if_neg (fun h => h3 (.inr h)), if_pos (.inr (.inr e5))]
            refine ⟨fun h => absurd h (by simp), fun _ cl => ?_⟩
            rw [runD_ok ho, runD_bad hq (by decide)]
            exact tot_bad (by decide) rfl (by simp) cl
      · rw [if_neg h1]
        have ho : stepD s c = addD s c := by rw [step4 ha, if_neg h1]
        by_cases h3 : 48 ≤ out.length
        · rw [if_pos h3]
          rw [addD_bad c (by rw [hc]; exact h3)] at ho
          refine ⟨fun h => absurd h (by simp), fun _ cl => ?_⟩
          rw [runD_bad ho (by decide)]
          exact tot_bad (by decide) rfl (by simp) cl
        · rw [if_neg h3]
          rw [addD_ok c (by rw [hc]; omega)] at ho
          have := ih (d :: t).length (by simp only [List.length_cons]; omega) (d :: t) (out ++ [c]) (a + 1) (addC s [c]) (Nat.le_refl _) ha (by show s.m.c ++ [c] = _; rw [hc]) (by rw [List.length_append, List.length_singleton]; omega)
          exact CellO.cons (c := c) (w := [c]) this rfl (runD_ok ho _ a) (fun _ _ => rfl) rfl (fun v hv => by rw [bindS_snoc]; exact hv)
theorem step12 {s : Ds} {c : UInt8} (h : s.m.a = 1 ∨ s.m.a = 2) : stepD s c = cellD s c := by
  unfold stepD
  rw [if_neg (by omega), if_pos h]
/-- A cell, from where a row or a comma has left the machine. -/
theorem cell_sim (l : List UInt8) (a : Nat) (s : Ds) (hc : s.m.c = []) (ha : (s.m.a = 1 ∧ l ≠ []) ∨ s.m.a = 2) : CellO l a s (sc0 l) (cellG l a) := by
  cases l with
  | nil =>
    have h2 : s.m.a = 2 := by rcases ha with ⟨_, h⟩ | h; exact absurd rfl h; exact h
    refine ⟨fun _ => ⟨[], [], 2, rfl, rfl, .inl rfl, .inr (.inl rfl), (fun h => absurd h (by decide)), ?_, fun p q r' hs hp => ⟨rfl, fun _ _ h => by cases h⟩⟩, fun h => absurd rfl h⟩
    show runD s [] a = runD (endS s 2 []) [] a
    rw [← hc, ← h2, endS_self]
  | cons c t =>
    have ha' : s.m.a = 1 ∨ s.m.a = 2 := by rcases ha with ⟨h, _⟩ | h; exact .inl h; exact .inr h
    have hs := step12 (c := c) ha'
    unfold cellG
    by_cases h1 : c.toNat = 34
    · simp only [h1, if_true]
      have ho : stepD s c = ⟨setA s 4, 0⟩ := by rw [hs]; unfold cellD; rw [if_pos h1]
      have := quot_cell t.length t [] (a + 1) (setA s 4) (Nat.le_refl _) rfl hc (by simp)
      refine CellO.cons (c := c) (w := [c]) this rfl (runD_ok ho t a) (fun _ _ => rfl) rfl (fun v hv => ?_)
      have h5 : bindS (sc0 []) (c :: t) = some v := hv
      exact (bindS_ascii (by omega) h5).2
    · simp only [h1, if_false]
      have ho : stepD s c = stepD (setA s 3) c := by rw [hs, step3_sep (s := setA s 3) rfl]; unfold cellD; rw [if_neg h1]
      have hr : runD s (c :: t) a = runD (setA s 3) (c :: t) a := by simp only [runD, ho]
      have := bare_cell (c :: t) [] a (setA s 3) rfl hc (by simp)
      exact CellO.cons (c := c) (w := []) this rfl hr (fun _ _ => rfl) rfl (fun v hv => hv)
end Go.Proofs.YtfciacigamjfkabGreat

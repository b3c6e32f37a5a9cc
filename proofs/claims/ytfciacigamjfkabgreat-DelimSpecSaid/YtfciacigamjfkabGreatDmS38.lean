/-
  delim: what Decode tells is what the reference says. No program is read here.
-/
import Derived.Test.YtfciacigamjfkabGreatDmS37
namespace Go.Proofs.YtfciacigamjfkabGreat
set_option maxRecDepth 100000
set_option linter.unusedSimpArgs false
set_option linter.unusedVariables false
set_option linter.unusedSectionVars false
variable [Tab] [Fo]

/-- Rows, to the end. -/
theorem rows_sim {ns : List (List UInt8)} (hN : NsOk ns) (h1 : ns ≠ []) {T : List UInt8} {cl : Bool} {p q r : Int} (hcl : cl = true → p = 0) : ∀ (n : Nat) (x : Tx) (j : Int), x.s = T → x.cl = cl → x.e = 0 → x.at' ≤ T.length → T.length + 1 - x.at' < n → (j = 0 ∨ j = 7) → sc0 (T.drop x.at') = some (p, q, r) →
    finF (tellIf ((rowsF ns n x).2 && cl) (rowsF ns n x).1 6) = totD cl (runD (rowS ns 0 1 j x.l) (T.drop x.at') x.at') := by
  obtain ⟨f, hf⟩ : ∃ f, ns.length = f + 1 := ⟨ns.length - 1, by have := List.length_pos_iff.mpr h1; omega⟩
  intro n
  induction n with
  | zero => intro x j _ _ _ _ h; omega
  | succ n ih =>
    intro x j hs hcx he ha hn hj hsc
    simp only [rowsF]
    rw [hs]
    by_cases hlt : x.at' < T.length
    · rw [if_pos hlt]
      have hR := row_sim hN hcl f 0 x 1 j (by omega) hs hcx he ha (.inl ⟨rfl, hlt⟩) hj hsc
      rw [← hf] at hR
      obtain ⟨R, hRR⟩ : ∃ R, rowF ns ns.length 0 x = R := ⟨_, rfl⟩
      rw [hRR] at hR ⊢
      obtain ⟨y, b⟩ := R
      cases b with
      | false =>
        rw [if_neg (show ¬ (false = true) by decide)]
        show finF (tellIf (false && cl) y 6) = _
        have : tellIf (false && cl) y 6 = y := by unfold tellIf; rw [if_neg (by simp)]
        rw [this]
        exact hR.1 rfl
      | true =>
        rw [if_pos rfl]
        obtain ⟨i1, i2, i3, i4, i5⟩ := hR.2 rfl
        have i1' : y.e = 0 := i1
        have i2' : y.s = T := i2
        have i3' : y.cl = cl := i3
        have i4' : x.at' < y.at' := i4
        rcases i5 with ⟨j1, j2, j3⟩ | ⟨j1, j2, j3⟩
        · rw [j2]
          have j1' : y.at' ≤ T.length := j1
          exact ih (tellX y 9 ⟨#[]⟩) 7 i2' i3' i1' j1' (by show T.length + 1 - y.at' < n; omega) (.inr rfl) j3
        · rw [j3]
          have j1' : y.at' = T.length + 1 := j1
          cases n with
          | zero => omega
          | succ n =>
            have hrf : rowsF ns (n + 1) (tellX y 9 ⟨#[]⟩) = (tellX y 9 ⟨#[]⟩, true) := by
              simp only [rowsF]
              rw [if_neg]
              show ¬ y.at' < y.s.length
              rw [i2']; omega
            rw [hrf]
            show finF (tellIf (true && cl) (tellX y 9 ⟨#[]⟩) 6) = _
            have : tellIf (true && cl) (tellX y 9 ⟨#[]⟩) 6 = tellX (tellX y 9 ⟨#[]⟩) 6 ⟨#[]⟩ := by unfold tellIf; rw [if_pos (by simp [j2])]
            rw [this, finF_ok (show (tellX (tellX y 9 ⟨#[]⟩) 6 ⟨#[]⟩).e = 0 from i1')]
            have hc3 : (tellX (tellX y 9 ⟨#[]⟩) 6 ⟨#[]⟩).cl = true := by show y.cl = true; rw [i3', j2]
            have hs3 : (tellX (tellX y 9 ⟨#[]⟩) 6 ⟨#[]⟩).s = T := i2'
            rw [if_pos hc3, hs3]
            rfl
    · rw [if_neg hlt]
      have hat : x.at' = T.length := by omega
      have hd : T.drop x.at' = [] := List.drop_eq_nil_of_le (by omega)
      rw [hd]
      show finF (tellIf (true && cl) x 6) = totD cl ⟨rowS ns 0 1 j x.l, 0, x.at'⟩
      cases cl with
      | true =>
        have : tellIf (true && true) x 6 = tellX x 6 ⟨#[]⟩ := by unfold tellIf; rw [if_pos (by simp)]
        rw [this, finF_ok (show (tellX x 6 ⟨#[]⟩).e = 0 from he), if_pos (show (tellX x 6 ⟨#[]⟩).cl = true from hcx)]
        have hE : endD (rowS ns 0 1 j x.l) = ⟨rowS ns 0 1 j x.l, 0⟩ := rfl
        obtain ⟨f1, f2⟩ := e_lend hj
        have hfin : finD (rowS ns 0 1 j x.l) = ⟨⟨⟨1, ns, true, 0, []⟩, [⟨0, 5, []⟩], x.l ++ [bare 6]⟩, 0⟩ := by
          unfold finD
          rw [hE, if_neg (fun h => h rfl)]
          exact tellD_ok f1 f2
        unfold totD
        rw [if_neg (fun h => h rfl), if_pos rfl, hfin]
        show (⟨x.l ++ [bare 6], 0, x.s.length⟩ : Fn) = _
        rw [hs, hat]
      | false =>
        have : tellIf (true && false) x 6 = x := by unfold tellIf; rw [if_neg (by simp)]
        rw [this, finF_ok he, if_neg (by rw [hcx]; decide)]
        unfold totD
        rw [if_neg (fun h => h rfl), if_neg (by decide), hs, hat]
        rfl
/-- The machine ahead of a name of a column. -/
def hdS (ns : List (List UInt8)) (α : Int) (l : List Ev) : Ds := ⟨⟨α, ns, false, 0, []⟩, stI 0, l⟩
theorem end_head {ns : List (List UInt8)} {α β : Int} (l : List Ev) {o : List UInt8} (last : Bool) :
    endCellD (endS (hdS ns α l) β o) last = if o ∈ ns then ⟨⟨⟨β, ns, last, 0, []⟩, stI 0, l⟩, 6⟩ else ⟨⟨⟨β, ns ++ [o], last, 0, []⟩, stI 0, l⟩, if last = false ∧ ns.length + 1 = 8 then 16 else 0⟩ := rfl
theorem nsok_snoc {ns : List (List UInt8)} (hN : NsOk ns) {o : List UInt8} (hv : validL o = true) (hn : o ∉ ns) (hl : ns.length ≤ 7) : NsOk (ns ++ [o]) := by
  refine ⟨?_, ?_, by rw [List.length_append, List.length_singleton]; omega⟩
  · rw [List.nodup_append]
    refine ⟨hN.nd, by simp, ?_⟩
    intro a ha b hb
    rw [List.mem_singleton] at hb
    subst hb
    rintro rfl
    exact hn ha
  · intro n hn2
    rw [List.mem_append, List.mem_singleton] at hn2
    rcases hn2 with h | rfl
    · exact hN.ok n h
    · exact hv
/-- The header, from a cell on. -/
theorem head_sim {T : List UInt8} {cl : Bool} {p q r : Int} (hcl : cl = true → p = 0) (x : Tx) (hs : x.s = T) (hcx : x.cl = cl) : ∀ (k : Nat) (ns : List (List UInt8)) (a : Nat), ns.length + (k + 1) = 8 → NsOk ns → a ≤ T.length → sc0 (T.drop a) = some (p, q, r) →
    ((headF x (k + 1) ns a).e ≠ 0 → errF cl T.length x.l (headF x (k + 1) ns a).e (headF x (k + 1) ns a).at' = totD cl (runD (hdS ns 2 x.l) (T.drop a) a)) ∧
    ((headF x (k + 1) ns a).e = 0 → NsOk (headF x (k + 1) ns a).ns ∧ (headF x (k + 1) ns a).ns ≠ [] ∧
      (((headF x (k + 1) ns a).at' ≤ T.length ∧ runD (hdS ns 2 x.l) (T.drop a) a = runD (rowS (headF x (k + 1) ns a).ns 0 1 0 x.l) (T.drop (headF x (k + 1) ns a).at') (headF x (k + 1) ns a).at' ∧ sc0 (T.drop (headF x (k + 1) ns a).at') = some (p, q, r)) ∨
       ((headF x (k + 1) ns a).at' = T.length + 1 ∧ cl = true ∧ totD cl (runD (hdS ns 2 x.l) (T.drop a) a) = ⟨x.l ++ [bare 6], 0, T.length⟩))) := by
  intro k
  induction k with
  | zero => ?_
  | succ k ih => ?_
  all_goals
    intro ns a hk hN ha hsc
    have hC := cell_sim (T.drop a) a (hdS ns 2 x.l) rfl (.inr rfl)
    have hdl : a + (T.drop a).length = T.length := by rw [List.length_drop]; omega
    have hcr : cellR { x with at' := a } = endR { x with at' := a } (cellG (T.drop a) a) := by unfold cellR; rw [show ({ x with at' := a } : Tx).s = T from hs]
    obtain ⟨g, hg⟩ : ∃ g, cellG (T.drop a) a = g := ⟨_, rfl⟩
    rw [hg] at hC hcr
    rw [headF]
    by_cases h0 : g.e = 0
    case neg =>
      have hr : cellR { x with at' := a } = g := by rw [hcr]; unfold endR; rw [if_neg (fun h => h0 h.1)]
      rw [hr, if_pos h0]
      refine ⟨fun _ => ?_, fun h => absurd h h0⟩
      rw [hC.bad h0 cl, hdl]
      rfl
    case pos =>
      obtain ⟨u, v, α', e1, e2, e3, e4, e5, e6, e7⟩ := hC.ok h0
      obtain ⟨d1, d2⟩ := drop_uv ha e1
      by_cases hend : v = [] ∧ cl = false
      · obtain ⟨hv0, hc0⟩ := hend
        have hat : g.at' = T.length := by rw [e2]; rw [hv0, List.length_nil] at d2; omega
        have hr : cellR { x with at' := a } = ⟨g.out, g.at', 2⟩ := by rw [hcr]; unfold endR; rw [if_pos ⟨h0, by show g.at' = x.s.length; rw [hs]; exact hat, by show x.cl = false; rw [hcx]; exact hc0⟩]
        rw [hr, if_pos (by show (2 : Int) ≠ 0; decide)]
        refine ⟨fun _ => ?_, fun h => absurd h (by show ¬ (2 : Int) = 0; decide)⟩
        rw [e6, hv0]
        show errF cl T.length x.l 2 g.at' = totD cl ⟨endS (hdS ns 2 x.l) α' g.out, 0, g.at'⟩
        unfold errF totD
        rw [hc0, if_pos ⟨rfl, by omega⟩, if_neg (fun h => h rfl), if_neg (by decide), hat]
        rfl
      · have hr : cellR { x with at' := a } = g := by
          rw [hcr]; unfold endR
          rw [if_neg]
          rintro ⟨_, h2, h3⟩
          have h2' : g.at' = T.length := by rw [← hs]; exact h2
          refine hend ⟨?_, by rw [← hcx]; exact h3⟩
          refine List.eq_nil_of_length_eq_zero ?_
          omega
        have hval := e7 p q r hsc (fun h => hcl (by cases hq : cl with | true => rfl | false => exact absurd ⟨h, hq⟩ hend))
        rw [hr, if_neg (fun h => h h0)]
        rcases e3 with hv0 | ⟨c, t, hvc, hsep⟩
        · -- the end of the text
          have hc1 : cl = true := by cases hq : cl with | true => rfl | false => exact absurd ⟨hv0, hq⟩ hend
          have hat : g.at' = T.length := by rw [e2]; rw [hv0, List.length_nil] at d2; omega
          have hα' : α' = 2 ∨ α' = 3 ∨ α' = 5 := by rcases e4 with h | h; exact absurd hv0 (e5 h); exact h
          have hi : isX { x with at' := g.at' } 44 = false := isX_out (by show ¬ g.at' < x.s.length; rw [hs, hat]; omega) 44
          have hEH := end_head (ns := ns) (α := 2) (β := α') x.l (o := g.out) true
          rw [e6, hv0]
          have hrun : runD (endS (hdS ns 2 x.l) α' g.out) [] g.at' = ⟨endS (hdS ns 2 x.l) α' g.out, 0, g.at'⟩ := rfl
          rw [hrun]
          have htot : totD cl ⟨endS (hdS ns 2 x.l) α' g.out, 0, g.at'⟩ = ⟨(finD (endS (hdS ns 2 x.l) α' g.out)).b.l, (finD (endS (hdS ns 2 x.l) α' g.out)).e, g.at'⟩ := by
            unfold totD
            rw [if_neg (fun h => h rfl), if_pos hc1]
          rw [htot]
          by_cases hm : g.out ∈ ns
          · rw [if_pos hm] at hEH
            have hfin : finD (endS (hdS ns 2 x.l) α' g.out) = ⟨⟨⟨α', ns, true, 0, []⟩, stI 0, x.l⟩, 6⟩ := by
              unfold finD
              rw [end_sep hα', hEH, if_pos (by show (6 : Int) ≠ 0; decide)]
            rw [if_pos hm, hfin]
            refine ⟨fun _ => ?_, fun h => absurd h (by show ¬ (6 : Int) = 0; decide)⟩
            show errF cl T.length x.l 6 g.at' = _
            unfold errF
            rw [if_neg (fun h => by rw [hc1] at h; cases h.1)]
          · rw [if_neg hm, if_neg (show ¬ (true = false ∧ ns.length + 1 = 8) from fun h => by cases h.1)] at hEH
            obtain ⟨f1, f2⟩ := e_lend (j := 0) (.inl rfl)
            have hfin : finD (endS (hdS ns 2 x.l) α' g.out) = ⟨⟨⟨α', ns ++ [g.out], true, 0, []⟩, [⟨0, 5, []⟩], x.l ++ [bare 6]⟩, 0⟩ := by
              unfold finD
              rw [end_sep hα', hEH, if_neg (fun h => h rfl)]
              exact tellD_ok f1 f2
            rw [if_neg hm, if_pos hi, hfin]
            refine ⟨fun h => absurd rfl h, fun _ => ⟨nsok_snoc hN hval.1 hm (by omega), by simp, .inr ⟨by show g.at' + 1 = _; omega, hc1, ?_⟩⟩⟩
            rw [hat]
        · -- a comma or a newline
          rw [hvc] at e6 d1
          have hT1 : T.drop (g.at' + 1) = t := by
            rw [e2, ← List.drop_drop, ← d1]
            rfl
          have hlt : g.at' < T.length := by rw [e2]; rw [hvc, List.length_cons] at d2; omega
          have hi : isX { x with at' := g.at' } 44 = decide (c.toNat = 44) := by
            rw [is_at (c := c) (t := t) (by show x.s.drop g.at' = _; rw [hs, e2]; exact d1.symm) 44]
            by_cases h4 : c.toNat = 44
            · rw [decide_eq_true h4, decide_eq_true (by omega)]
            · rw [decide_eq_false h4, decide_eq_false (by omega)]
          have hEH := end_head (ns := ns) (α := 2) (β := if c.toNat = 44 then 2 else 1) x.l (o := g.out) (decide (c.toNat ≠ 44))
          have hst := step_sep (s := hdS ns 2 x.l) (o := g.out) e4 hsep
          rw [hEH] at hst
          rw [e6]
          by_cases hm : g.out ∈ ns
          · rw [if_pos hm] at hst
            rw [if_pos hm, runD_bad hst (by decide)]
            refine ⟨fun _ => ?_, fun h => absurd h (by show ¬ (6 : Int) = 0; decide)⟩
            symm
            refine tot_bad (e := 6) (by decide) ?_ hlt cl
            rfl
          · rw [if_neg hm] at hst
            rw [if_neg hm, hi]
            by_cases h4 : c.toNat = 44
            · have z : decide (c.toNat ≠ 44) = false := decide_eq_false (by omega)
              rw [z, if_pos h4] at hst
              rw [if_neg (by rw [decide_eq_true h4]; decide)]
              by_cases h8 : 8 ≤ ns.length + 1
              · rw [if_pos ⟨rfl, by omega⟩] at hst
                rw [if_pos h8, runD_bad hst (by decide)]
                refine ⟨fun _ => ?_, fun h => absurd h (by show ¬ (16 : Int) = 0; decide)⟩
                symm
                refine tot_bad (e := 16) (by decide) ?_ hlt cl
                rfl
              · rw [if_neg (fun h => h8 (by omega))] at hst
                rw [if_neg h8, runD_ok hst]
                first
                  | (exfalso; omega)
                  | (have ih2 := ih (ns ++ [g.out]) (g.at' + 1) (by rw [List.length_append, List.length_singleton]; omega) (nsok_snoc hN hval.1 hm (by omega)) (by omega) (by rw [hT1]; exact hval.2 c t hvc)
                     rw [hT1] at ih2
                     exact ih2)
            · have z : decide (c.toNat ≠ 44) = true := decide_eq_true h4
              rw [z, if_neg h4, if_neg (show ¬ (true = false ∧ ns.length + 1 = 8) from fun h => by cases h.1)] at hst
              rw [if_pos (decide_eq_false h4), runD_ok hst]
              refine ⟨fun h => absurd rfl h, fun _ => ⟨nsok_snoc hN hval.1 hm (by omega), by simp, .inl ⟨by show g.at' + 1 ≤ _; omega, ?_, ?_⟩⟩⟩
              · show runD ⟨⟨1, ns ++ [g.out], true, 0, []⟩, stI 0, x.l⟩ t (g.at' + 1) = runD (rowS (ns ++ [g.out]) 0 1 0 x.l) (T.drop (g.at' + 1)) (g.at' + 1)
                rw [hT1]
                rfl
              · show sc0 (T.drop (g.at' + 1)) = _
                rw [hT1]
                exact hval.2 c t hvc

/-- What stays of a text that is read. -/
structure Kp (x y : Tx) : Prop where
  s : y.s = x.s
  cl : y.cl = x.cl
  pl : 0 ≤ x.pl → 0 ≤ y.pl
theorem Kp.refl (x : Tx) : Kp x x := ⟨rfl, rfl, id⟩
theorem Kp.trans {x y z : Tx} (h : Kp x y) (h2 : Kp y z) : Kp x z := ⟨h2.s.trans h.s, h2.cl.trans h.cl, fun h0 => h2.pl (h.pl h0)⟩
theorem Kp.tell (x : Tx) (k : Int) (t : ByteArray) : Kp x (tellX x k t) := ⟨rfl, rfl, id⟩
theorem Kp.at (x : Tx) (a : Nat) : Kp x { x with at' := a } := ⟨rfl, rfl, id⟩
theorem Kp.bad (x : Tx) (e : Int) (a : Nat) : Kp x (badX x e a) := by
  unfold badX
  split
  · exact ⟨rfl, rfl, fun _ => Int.natCast_nonneg a⟩
  · exact Kp.refl x
theorem Kp.cell (ns : List (List UInt8)) (k : Nat) (x : Tx) (r : CellR) : Kp x (cellT ns k x r) := by
  unfold cellT
  split
  · exact ⟨rfl, rfl, id⟩
  · exact ⟨rfl, rfl, id⟩
theorem kp_row (ns : List (List UInt8)) : ∀ (f k : Nat) (x : Tx), Kp x (rowF ns f k x).1
  | 0, _, x => Kp.refl x
  | f + 1, k, x => by
    rw [rowF]
    split
    · exact (Kp.at x _).trans (Kp.bad _ _ _)
    · split
      · exact ((Kp.cell ns k x _).trans (Kp.bad _ _ _)).trans (Kp.at _ _)
      · exact ((Kp.cell ns k x _).trans (Kp.at _ _)).trans (kp_row ns f (k + 1) _)
theorem kp_rows (ns : List (List UInt8)) : ∀ (f : Nat) (x : Tx), Kp x (rowsF ns f x).1
  | 0, x => Kp.refl x
  | f + 1, x => by
    rw [rowsF]
    split
    · split
      · exact ((kp_row ns _ 0 x).trans (Kp.tell _ _ _)).trans (kp_rows ns f _)
      · exact kp_row ns _ 0 x
    · exact Kp.refl x
theorem Kp.tellIf (b : Bool) (x : Tx) (k : Int) : Kp x (tellIf b x k) := by
  unfold Go.Proofs.YtfciacigamjfkabGreat.tellIf
  split
  · exact Kp.tell x _ _
  · exact Kp.refl x
theorem kp_spec (S : List UInt8) : Kp (begX S) (specX S) := by
  have h0 : Kp (begX S) (spec0 S) := Kp.tellIf _ _ _
  unfold specX
  split
  · exact h0.trans (Kp.tellIf _ _ _)
  · split
    · exact (h0.trans (Kp.at _ _)).trans (Kp.bad _ _ _)
    · exact ((h0.trans (Kp.at _ _)).trans (kp_rows _ _ _)).trans (Kp.tellIf _ _ _)
/-- The text that the reference reads, whether it is closed, and its Scan. -/
theorem beg_scan (S : List UInt8) : (begX S).e = 0 ∧ (begX S).l = [] ∧ (begX S).at' = 0 ∧ (begX S).pl = 0 ∧ (begX S).cl = decide (badN S < 0) ∧ (begX S).s.length ≤ S.length ∧ ∃ p q r, sc0 (begX S).s = some (p, q, r) ∧ (decide (badN S < 0) = true → p = 0) := by
  unfold begX
  rcases badN_scan S with ⟨e, q, r, h⟩ | ⟨i, e, hi, p, q, r, h, h2⟩
  · rw [e, if_pos (by decide)]
    exact ⟨rfl, rfl, rfl, rfl, rfl, Nat.le_refl _, 0, q, r, h, fun _ => rfl⟩
  · have hn : ¬ (badN S < 0) := by rw [e]; omega
    rw [if_neg hn]
    refine ⟨rfl, rfl, rfl, rfl, (decide_eq_false hn).symm, ?_, p, q, r, ?_, fun h => absurd (of_decide_eq_true h) hn⟩
    · show (S.take _).length ≤ _; rw [List.length_take]; omega
    · show sc0 (S.take _) = _
      rw [e, Int.toNat_natCast]
      exact h
theorem spec_tot (S : List UInt8) : finF (specX S) = totD (decide (badN S < 0)) (runD ds0 (begX S).s 0) := by
  obtain ⟨b1, b2, b3, b4, b5, b6, p, q, r, b7, b8⟩ := beg_scan S
  obtain ⟨cl, hcl⟩ : ∃ cl, decide (badN S < 0) = cl := ⟨_, rfl⟩
  obtain ⟨x0, hx0⟩ : ∃ x0, begX S = x0 := ⟨_, rfl⟩
  unfold specX spec0
  rw [hx0] at b1 b2 b3 b4 b6 b7
  rw [hx0, hcl] at b5
  rw [hcl] at b8
  rw [hcl, hx0]
  by_cases he : x0.s = []
  · have hT : runD ds0 x0.s 0 = ⟨ds0, 0, 0⟩ := by rw [he]; rfl
    rw [if_pos he, hT]
    cases cl with
    | true =>
      have e1 : tellIf (decide (x0.s ≠ []) || true) x0 5 = tellX x0 5 ⟨#[]⟩ := by unfold tellIf; rw [if_pos (by simp)]
      have e2 : tellIf true (tellX x0 5 ⟨#[]⟩) 6 = tellX (tellX x0 5 ⟨#[]⟩) 6 ⟨#[]⟩ := by unfold tellIf; rw [if_pos rfl]
      rw [e1, e2, finF_ok (show (tellX (tellX x0 5 ⟨#[]⟩) 6 ⟨#[]⟩).e = 0 from b1), if_pos (show (tellX (tellX x0 5 ⟨#[]⟩) 6 ⟨#[]⟩).cl = true from b5)]
      show (⟨(x0.l ++ [bare 5]) ++ [bare 6], 0, x0.s.length⟩ : Fn) = _
      rw [b2, he]
      rfl
    | false =>
      have e1 : tellIf (decide (x0.s ≠ []) || false) x0 5 = x0 := by unfold tellIf; rw [if_neg (by simp [he])]
      have e2 : tellIf false x0 6 = x0 := by unfold tellIf; rw [if_neg (by decide)]
      rw [e1, e2, finF_ok b1, if_neg (by rw [b5]; decide), b2, he]
      rfl
  · rw [if_neg he]
    have e1 : tellIf (decide (x0.s ≠ []) || cl) x0 5 = tellX x0 5 ⟨#[]⟩ := by unfold tellIf; rw [if_pos (by simp [he])]
    rw [e1]
    have hl : (tellX x0 5 ⟨#[]⟩).l = [bare 5] := by show x0.l ++ [bare 5] = _; rw [b2]; rfl
    have hstart : runD ds0 x0.s 0 = runD (hdS [] 2 (tellX x0 5 ⟨#[]⟩).l) (x0.s.drop 0) 0 := by
      rw [hl, List.drop_zero]
      cases hq : x0.s with
      | nil => exact absurd hq he
      | cons c t =>
        have hst : stepD ds0 c = stepD (hdS [] 2 [bare 5]) c := by
          have h1 : listD ds0 = ⟨⟨dm0, stI 0, [bare 5]⟩, 0⟩ := by kernel_rfl
          have h2 : stepD (hdS [] 2 [bare 5]) c = cellD (hdS [] 2 [bare 5]) c := rfl
          rw [h2]
          unfold stepD
          rw [if_pos (show ds0.m.a = 0 from rfl), h1, if_neg (fun h => h rfl)]
          unfold cellD
          by_cases h34 : c.toNat = 34
          · rw [if_pos h34, if_pos h34]; rfl
          · rw [if_neg h34, if_neg h34]; rfl
        simp only [runD, hst]
    rw [hstart]
    have hH := head_sim (p := p) (q := q) (r := r) b8 (tellX x0 5 ⟨#[]⟩) (show (tellX x0 5 ⟨#[]⟩).s = x0.s from rfl) (show (tellX x0 5 ⟨#[]⟩).cl = cl from b5) 7 [] 0 rfl ⟨List.nodup_nil, fun n h => absurd h List.not_mem_nil, Nat.zero_le _⟩ (Nat.zero_le _) b7
    obtain ⟨h, hh⟩ : ∃ h, headF (tellX x0 5 ⟨#[]⟩) 8 [] 0 = h := ⟨_, rfl⟩
    rw [hh] at hH ⊢
    have hx5 : (tellX x0 5 ⟨#[]⟩).e = 0 := b1
    by_cases h0 : h.e = 0
    · rw [if_neg (fun h => h h0)]
      obtain ⟨n1, n2, n3⟩ := hH.2 h0
      rcases n3 with ⟨j1, j2, j3⟩ | ⟨j1, j2, j3⟩
      · rw [j2]
        exact rows_sim n1 n2 b8 (S.length + 2) { tellX x0 5 ⟨#[]⟩ with at' := h.at' } 0 rfl b5 hx5 j1 (by show x0.s.length + 1 - h.at' < _; omega) (.inl rfl) j3
      · rw [j3]
        have hrf : rowsF h.ns (S.length + 2) { tellX x0 5 ⟨#[]⟩ with at' := h.at' } = ({ tellX x0 5 ⟨#[]⟩ with at' := h.at' }, true) := by
          simp only [rowsF]
          rw [if_neg]
          show ¬ h.at' < x0.s.length
          omega
        rw [hrf]
        obtain ⟨y, hy, g1, g2, g3, g4⟩ : ∃ y : Tx, ({ tellX x0 5 ⟨#[]⟩ with at' := h.at' } : Tx) = y ∧ y.e = 0 ∧ y.cl = true ∧ y.s = x0.s ∧ y.l = (tellX x0 5 ⟨#[]⟩).l := ⟨_, rfl, hx5, by show x0.cl = true; rw [b5, j2], rfl, rfl⟩
        rw [hy]
        have e3 : tellIf (true && cl) y 6 = tellX y 6 ⟨#[]⟩ := by unfold tellIf; rw [if_pos (by simp [j2])]
        show finF (tellIf (true && cl) y 6) = _
        rw [e3, finF_ok (show (tellX y 6 ⟨#[]⟩).e = 0 from g1), if_pos (show (tellX y 6 ⟨#[]⟩).cl = true from g2)]
        show (⟨y.l ++ [bare 6], 0, y.s.length⟩ : Fn) = _
        rw [g3, g4]
    · rw [if_pos h0]
      rw [finF_bad (x := { tellX x0 5 ⟨#[]⟩ with at' := h.at' }) hx5 h0, ← hH.1 h0]
      show errF x0.cl _ _ _ _ = _
      rw [b5]
      rfl
/-- A Stream over what a Scan goes through: the machine alone. -/
theorem feed_run : ∀ (t : List UInt8) (x : Ss dlP), x.e = 0 → ∀ p q r, scG x.sl x.slo x.shi t = some (p, q, r) →
    (feedG x t).b = (runD x.b t x.rd).b ∧ (feedG x t).e = (runD x.b t x.rd).e ∧ (feedG x t).rd = (runD x.b t x.rd).a ∧ ((runD x.b t x.rd).e = 0 → (feedG x t).sl = p ∧ (feedG x t).slo = q ∧ (feedG x t).shi = r)
  | [], x, he, p, q, r, h => by
    simp only [scG, Option.some.injEq, Prod.mk.injEq] at h
    exact ⟨rfl, he, rfl, fun _ => h⟩
  | c :: t, x, he, p, q, r, h => by
    simp only [scG] at h
    split at h
    · rename_i hk
      obtain ⟨R, hR⟩ : ∃ R, stepD x.b c = R := ⟨_, rfl⟩
      have hf : feed1 x c = ⟨R.b, stL x.sl (c.toNat : Int), stLo x.sl (c.toNat : Int), stHi x.sl (c.toNat : Int), R.e, if R.e = 0 then x.rd + 1 else x.rd⟩ := by
        unfold feed1
        rw [if_neg (by rw [he]; decide), if_pos hk]
        have h1 : dlP.stp x.b c = R.b := by show (stepD x.b c).b = R.b; rw [hR]
        have h2 : dlP.ste x.b c = R.e := by show (stepD x.b c).e = R.e; rw [hR]
        rw [h1, h2]
      rw [feedG_cons, hf]
      simp only [runD, hR]
      by_cases h0 : R.e = 0
      · rw [if_pos h0, if_pos h0]
        exact feed_run t ⟨R.b, _, _, _, R.e, x.rd + 1⟩ h0 p q r h
      · rw [if_neg h0, if_neg h0, feedG_stop (by exact h0)]
        exact ⟨rfl, rfl, rfl, fun h => absurd h h0⟩
    · cases h
theorem d_tot (S : List UInt8) : (⟨dEv S, dEr S, dRd S⟩ : Fn) = totD (decide (badN S < 0)) (runD ds0 (begX S).s 0) := by
  have hclose : ∀ y : Ss dlP, y.e = 0 → y.sl = 0 → closeE y = (finD y.b).e ∧ (closeBs y).l = (finD y.b).b.l := by
    intro y h1 h2
    have hne : ¬ (y.e ≠ 0) := fun h => h h1
    unfold closeE closeBs endE endBs
    rw [if_neg hne, if_neg hne, if_pos h2, if_pos h2]
    exact ⟨rfl, rfl⟩
  have herr : ∀ y : Ss dlP, y.e ≠ 0 → closeE y = y.e ∧ (closeBs y) = y.b := by
    intro y h1
    unfold closeE closeBs
    rw [if_pos h1, if_pos h1]
    exact ⟨rfl, rfl⟩
  unfold dEv dEr dRd totD
  rcases badN_scan S with ⟨e, q, r, h⟩ | ⟨i, e, hi, p, q, r, h, h2⟩
  · rw [e]
    have hd : decide ((-1 : Int) < 0) = true := by decide
    have hb : (begX S).s = S := by unfold begX; rw [if_pos (by rw [e]; decide)]
    rw [hd, hb]
    obtain ⟨f1, f2, f3, f4⟩ := feed_run S (ss0 dlP) rfl 0 q r h
    have g0 : runD (ss0 dlP).b S (ss0 dlP).rd = runD ds0 S 0 := rfl
    rw [g0] at f1 f2 f3 f4
    show _ = (if (runD ds0 S 0).e ≠ 0 then _ else _)
    by_cases h0 : (runD ds0 S 0).e = 0
    · obtain ⟨c1, c2⟩ := hclose (feedG (ss0 dlP) S) (by rw [f2]; exact h0) (f4 h0).1
      rw [if_neg (fun h => h h0), if_pos rfl, c1, c2, f1, f3]
    · obtain ⟨c1, c2⟩ := herr (feedG (ss0 dlP) S) (by rw [f2]; exact h0)
      rw [if_pos h0, c1, c2, f1, f2, f3]
  · have hn : ¬ (badN S < 0) := by rw [e]; omega
    have hb : (begX S).s = S.take i := by unfold begX; rw [if_neg hn, e, Int.toNat_natCast]
    rw [decide_eq_false hn, hb]
    obtain ⟨f1, f2, f3, f4⟩ := feed_run (S.take i) (ss0 dlP) rfl p q r h
    have g0 : runD (ss0 dlP).b (S.take i) (ss0 dlP).rd = runD ds0 (S.take i) 0 := rfl
    rw [g0] at f1 f2 f3 f4
    show _ = (if (runD ds0 (S.take i) 0).e ≠ 0 then _ else _)
    have hS : feedG (ss0 dlP) S = feedG (feedG (ss0 dlP) (S.take i)) (S.drop i) := by rw [← feedG_append', List.take_append_drop]
    rw [hS]
    generalize feedG (ss0 dlP) (S.take i) = y at *
    by_cases h0 : (runD ds0 (S.take i) 0).e = 0
    · rw [if_neg (fun h => h h0), if_neg (by decide)]
      obtain ⟨s1, s2, s3⟩ := f4 h0
      have hy0 : y.e = 0 := by rw [f2]; exact h0
      rcases h2 with ⟨h2, h3⟩ | ⟨h2, h3⟩
      · have : S.drop i = [] := List.drop_eq_nil_of_le (by omega)
        rw [this]
        show (⟨(closeBs y).l, closeE y, y.rd⟩ : Fn) = _
        have hne : ¬ (y.e ≠ 0) := fun h => h hy0
        have hns : ¬ (y.sl = 0) := by rw [s1]; exact h3
        unfold closeE closeBs endE endBs
        rw [if_neg hne, if_neg hne, if_neg hns, if_neg hns, f1, f3]
      · rw [List.drop_eq_getElem_cons h2, feedG_cons]
        have hf : feed1 y S[i] = { y with e := 3 } := by
          unfold feed1
          rw [if_neg (by rw [hy0]; decide), if_neg (by rw [s1, s2, s3, h3]; decide)]
        rw [hf, feedG_stop (x := { y with e := 3 }) (by show (3 : Int) ≠ 0; decide)]
        obtain ⟨c1, c2⟩ := herr { y with e := 3 } (by show (3 : Int) ≠ 0; decide)
        rw [c1, c2]
        show (⟨y.b.l, 3, y.rd⟩ : Fn) = _
        rw [f1, f3]
    · have hy0 : y.e ≠ 0 := by rw [f2]; exact h0
      rw [if_pos h0, feedG_stop hy0]
      obtain ⟨c1, c2⟩ := herr y hy0
      rw [c1, c2, f1, f2, f3]
/-- What Decode tells is what the reference says. -/
theorem spec_dec (S : List UInt8) : finX (specX S) (badN S) = (dEr S, (dRd S : Int)) ∧ (specX S).l = dEv S := by
  have h := (spec_tot S).trans (d_tot S).symm
  have hK := kp_spec S
  obtain ⟨b1, b2, b3, b4, b5, b6, _⟩ := beg_scan S
  have hs : badN S < 0 → (specX S).s.length = S.length := fun hb => by rw [hK.s]; unfold begX; rw [if_pos hb]
  have hs2 : ¬ badN S < 0 → ((specX S).s.length : Int) = badN S := fun hb => by
    have := badN_range S
    rw [hK.s]; unfold begX; rw [if_neg hb]
    show (((S.take _).length : Nat) : Int) = _
    rw [List.length_take]; omega
  have hcl : (specX S).cl = decide (badN S < 0) := by rw [hK.cl, b5]
  have hpl : 0 ≤ (specX S).pl := hK.pl (by rw [b4]; exact Int.le_refl _)
  generalize specX S = x at *
  unfold finF at h
  unfold finX
  by_cases hb : badN S < 0
  · rw [decide_eq_true hb] at hcl
    rw [if_neg (fun h => by rw [hcl] at h; cases h.1)] at h
    rw [if_neg (fun h => by omega)]
    by_cases he : x.e = 0
    · rw [if_neg (fun h => h he)] at h ⊢
      injection h with h1 h2 h3
      exact ⟨by rw [← h2, ← h3], h1⟩
    · rw [if_pos he] at h ⊢
      injection h with h1 h2 h3
      exact ⟨by rw [← h2, ← h3]; congr 1; omega, h1⟩
  · rw [decide_eq_false hb] at hcl
    have hl := hs2 hb
    by_cases hc : x.e = 0 ∨ badN S ≤ x.pl
    · rw [if_pos ⟨hcl, by rw [hl]; exact hc⟩] at h
      rw [if_pos ⟨by omega, hc⟩]
      injection h with h1 h2 h3
      exact ⟨by rw [← h2, ← h3, hl], h1⟩
    · rw [if_neg (fun h => hc (by rw [← hl]; exact h.2))] at h
      rw [if_neg (fun h => hc h.2)]
      have he : x.e ≠ 0 := fun h => hc (.inl h)
      rw [if_pos he] at h ⊢
      injection h with h1 h2 h3
      exact ⟨by rw [← h2, ← h3]; congr 1; omega, h1⟩
end Go.Proofs.YtfciacigamjfkabGreat

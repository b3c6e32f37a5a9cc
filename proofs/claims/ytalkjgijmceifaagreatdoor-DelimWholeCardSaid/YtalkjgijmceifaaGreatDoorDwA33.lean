/-
  delim: what holds ahead of each byte, as long as no error was told; what was told is a run. No program is read here.
-/
import Derived.Test.YtalkjgijmceifaaGreatDoorDwA23
import Derived.Test.YtalkjgijmceifaaGreatDoorDwA22
namespace Go.Proofs.YtalkjgijmceifaaGreatDoor
set_option maxRecDepth 100000
set_option linter.unusedSimpArgs false
set_option linter.unusedVariables false
set_option linter.unusedSectionVars false
variable [Tab] [Fo]

theorem okE_d {x : Ev} (hk : 0 ≤ x.k ∧ x.k ≤ 12) (ht : x.t.size ≤ 48) (hv : x.v.size ≤ 48) : okE x := ⟨by omega, by omega, by omega, by omega⟩
theorem okE_bare {k : Int} (hk : 0 ≤ k ∧ k ≤ 12) : okE (bare k) := okE_d hk (by simp [bare, ByteArray.size]) (by simp [bare, ByteArray.size])
theorem okE_txt {k : Int} (hk : 0 ≤ k ∧ k ≤ 12) {t : List UInt8} (ht : t.length ≤ 48) : okE ⟨k, ⟨t.toArray⟩, ⟨#[]⟩⟩ := okE_d hk (by show t.toArray.size ≤ 48; rw [List.size_toArray]; exact ht) (by simp [ByteArray.size])
/-- What was told is a run. -/
structure TkD (s : Ds) : Prop where
  ok : allOk [topP] s.l
  run : s.st = runS [topP] s.l
  sz : ∀ x ∈ s.l, okE x
  good : Good s.st
theorem tkd_tell {s : Ds} (h : TkD s) (M : Dm) {x : Ev} (hx : okE x) : TkD (tellD M s.st s.l x).b := by
  obtain ⟨m, st, l⟩ := s
  obtain ⟨h1, h2, h3, h4⟩ := h
  simp only at h1 h2 h3 h4
  have hg := good_step h4 x
  subst h2
  unfold tellD tellL
  by_cases hz : stepE (runS [topP] l) x = 0
  · simp only [if_pos hz]
    refine ⟨(allOk_snoc _ _ _).2 ⟨h1, hz⟩, (runS_snoc _ _ _).symm, fun y hy => ?_, hg⟩
    rcases List.mem_append.1 hy with hy | hy
    · exact h3 y hy
    · rw [List.mem_singleton.1 hy]; exact hx
  · simp only [if_neg hz]
    refine ⟨h1, ?_, h3, hg⟩
    simp only [stepS, if_neg hz]
theorem TkD.m {s : Ds} (h : TkD s) (M : Dm) : TkD { s with m := M } := ⟨h.ok, h.run, h.sz, h.good⟩
theorem dS_scalar {st : List Pt} {x : Ev} (hz : stepE st x = 0) (hk : x.k = 4 ∨ x.k = 8) : (stepS st x).length = st.length := by
  unfold stepS
  rw [if_pos hz]
  cases st with
  | nil => simp [stepE] at hz
  | cons p r =>
    have he : endsK x.k = false := by unfold endsK; rw [decide_eq_false_iff_not]; omega
    have ho : opensK x.k = false := by unfold opensK; rw [decide_eq_false_iff_not]; omega
    simp only [goS, he, ho, if_false, Bool.false_eq_true]
    split <;> simp
theorem dS_open {st : List Pt} {x : Ev} (hz : stepE st x = 0) (hk : x.k = 5 ∨ x.k = 7) : (stepS st x).length = st.length + 1 := by
  unfold stepS
  rw [if_pos hz]
  cases st with
  | nil => simp [stepE] at hz
  | cons p r =>
    have he : endsK x.k = false := by unfold endsK; rw [decide_eq_false_iff_not]; omega
    have ho : opensK x.k = true := by unfold opensK; rw [decide_eq_true_iff]; omega
    simp [goS, he, ho]
theorem dS_end {st : List Pt} {x : Ev} (hg : Good st) (hz : stepE st x = 0) (hk : x.k = 6 ∨ x.k = 9) : (stepS st x).length + 1 = st.length ∧ ∀ p r, stepS st x = p :: r → p.last ≠ 0 := by
  obtain ⟨p, r, rfl⟩ := hg.ne
  obtain ⟨hf, hc⟩ := cont_of hz
  have he : endsK x.k = true := by unfold endsK; rw [decide_eq_true_iff]; omega
  unfold stepS
  rw [if_pos hz]
  simp only [goS, he, if_true]
  refine ⟨by simp, fun q r' h => ?_⟩
  subst h
  have := hg.1.2.1
  unfold opensK at this
  rw [decide_eq_true_iff] at this
  omega
theorem done_1 {st : List Pt} (hl : st.length = 1) (h : ∀ p r, st = p :: r → p.last ≠ 0) : doneB st = true := by
  match hst : st, hl with
  | [p], _ => simpa [doneB] using h p [] rfl
/-- How many parts are open. -/
def deep (m : Dm) : Nat := if m.n = 0 then 2 else 3
/-- What holds of the machine. -/
structure DMc (m : Dm) : Prop where
  av : 0 ≤ m.a ∧ m.a ≤ 5
  hn : m.hd = false → m.n = 0 ∧ m.cols.length ≤ 7
  hy : m.hd = true → m.n < m.cols.length ∧ m.cols.length ≤ 8
  cz : ∀ c ∈ m.cols, c.length ≤ 48
  cl : m.c.length ≤ 48
  a1 : m.a = 1 → m.n = 0
/-- What holds ahead of each byte. -/
structure DIn (s : Ds) (n : Nat) : Prop where
  tk : TkD s
  ln : s.l.length ≤ 2 * n
  mc : DMc s.m
  dp : s.st.length = if s.m.a = 0 then 1 else deep s.m
  z : s.m.a = 0 → s.l = [] ∧ s.m.hd = false
def DO (r : Dr) (n : Nat) : Prop := TkD r.b ∧ r.b.l.length ≤ 2 * n ∧ (r.e = 0 → DIn r.b n)
theorem DMc.n8 {m : Dm} (h : DMc m) : m.n ≤ 8 ∧ m.cols.length ≤ 8 := by
  cases hh : m.hd with
  | false => have := h.hn hh; omega
  | true => have := h.hy hh; omega
theorem din_mono {s : Ds} {n k : Nat} (h : DIn s n) (hk : n ≤ k) : DIn s k := ⟨h.tk, by have := h.ln; omega, h.mc, h.dp, h.z⟩
theorem DO.mono {r : Dr} {n k : Nat} (h : DO r n) (hk : n ≤ k) : DO r k := ⟨h.1, by have := h.2.1; omega, fun e => din_mono (h.2.2 e) hk⟩
section
variable {s : Ds} {n : Nat}
theorem do_err (h : TkD s) (hl : s.l.length ≤ 2 * n) {e : Int} (he : e ≠ 0) : DO ⟨s, e⟩ n := ⟨h, hl, fun h0 => absurd h0 he⟩
theorem do_add (h : DIn s n) (b : UInt8) : DO (addD s b) n := by
  unfold addD
  split
  · exact do_err h.tk h.ln (by decide)
  · rename_i hc
    have hl : (s.m.c ++ [b]).length = s.m.c.length + 1 := by simp
    exact ⟨h.tk.m _, h.ln, fun _ => ⟨h.tk.m _, h.ln, ⟨h.mc.av, h.mc.hn, h.mc.hy, h.mc.cz, by show (s.m.c ++ [b]).length ≤ 48; omega, h.mc.a1⟩, h.dp, h.z⟩⟩
theorem din_a (h : DIn s n) (h0 : s.m.a ≠ 0) (v : Int) (hv : 2 ≤ v ∧ v ≤ 5) : DIn (setA s v) n :=
  ⟨h.tk.m _, h.ln, ⟨by simp [setA]; omega, h.mc.hn, h.mc.hy, h.mc.cz, h.mc.cl, fun e => by simp only [setA] at e; omega⟩, by
    have := h.dp
    rw [if_neg h0] at this
    rw [if_neg (by simp only [setA]; omega)]
    exact this, fun e => by simp only [setA] at e; omega⟩
/-- A cell's end: the state behind it is that of a comma (2) or of a newline (1), or none. -/
theorem do_col (h : DIn s n) (hh : s.m.hd = false) (h0 : s.m.a ≠ 0) (last : Bool) (v : Int) (hv : v = 1 ∨ v = 2) (hvl : v = 1 → last = true) : DO (addColD { setA s v with m := { (setA s v).m with c := [], hd := last } } s.m.c last) n := by
  have hn := h.mc.hn hh
  have hdp := h.dp
  rw [if_neg h0] at hdp
  unfold addColD
  split
  · exact ⟨h.tk.m _, h.ln, fun e => absurd (show (6 : Int) = 0 from e) (by decide)⟩
  · have hl : (s.m.cols ++ [s.m.c]).length = s.m.cols.length + 1 := by simp
    refine ⟨h.tk.m _, h.ln, fun he => ⟨h.tk.m _, h.ln, ⟨?_, fun e => ⟨hn.1, ?_⟩, fun e => ⟨?_, ?_⟩, ?_, Nat.zero_le _, fun _ => hn.1⟩, ?_, fun e => ?_⟩⟩
    · show 0 ≤ v ∧ v ≤ 5; omega
    · replace e : last = false := e
      subst e
      show (s.m.cols ++ [s.m.c]).length ≤ 7
      rw [hl]
      by_cases h8 : s.m.cols.length + 1 = 8
      · have he' : (16 : Int) = 0 := by
          have he2 : (if false = false ∧ s.m.cols.length + 1 = 8 then (16 : Int) else 0) = 0 := he
          rw [if_pos ⟨rfl, h8⟩] at he2
          exact he2
        exact absurd he' (by decide)
      · omega
    · show s.m.n < (s.m.cols ++ [s.m.c]).length; omega
    · show (s.m.cols ++ [s.m.c]).length ≤ 8; omega
    · intro c hc
      replace hc : c ∈ s.m.cols ++ [s.m.c] := hc
      rcases List.mem_append.1 hc with hc | hc
      · exact h.mc.cz c hc
      · rw [List.mem_singleton.1 hc]; exact h.mc.cl
    · show s.st.length = if v = 0 then 1 else deep s.m
      rw [if_neg (by omega), hdp]
    · replace e : v = 0 := e
      omega
/-- What is told of a cell. -/
theorem do_cell {k : Nat} (h : TkD s) (hl : s.l.length ≤ k) (hd : s.st.length = deep s.m) (hnc : s.m.n < s.m.cols.length) (hcz : ∀ c ∈ s.m.cols, c.length ≤ 48) {t : List UInt8} (ht : t.length ≤ 48) :
    TkD (tellCellD s t).b ∧ (tellCellD s t).b.l.length ≤ k + 3 ∧ ((tellCellD s t).e = 0 → (tellCellD s t).b.m = { s.m with n := s.m.n + 1 } ∧ (tellCellD s t).b.st.length = 3) := by
  have hk : (colD s).length ≤ 48 := by
    unfold colD
    rw [List.getD_eq_getElem?_getD, List.getElem?_eq_getElem hnc]
    exact hcz _ (List.getElem_mem hnc)
  have hr : TkD (rowD s).b ∧ (rowD s).b.l.length ≤ k + 1 ∧ (rowD s).b.m = s.m ∧ ((rowD s).e = 0 → (rowD s).b.st.length = 3) := by
    unfold rowD
    split
    · rename_i h0
      refine ⟨tkd_tell h _ (okE_bare (by decide)), Nat.le_trans (tellL_len _ _ _) (by omega), rfl, fun he => ?_⟩
      show (stepS _ _).length = 3
      rw [dS_open he (.inr rfl), hd]
      unfold deep
      rw [if_pos h0]
    · rename_i h0
      refine ⟨h, by show s.l.length ≤ _; omega, rfl, fun _ => ?_⟩
      show s.st.length = 3
      rw [hd]
      unfold deep
      rw [if_neg h0]
  obtain ⟨r1, r2, r3, r4⟩ := hr
  have hkr : (colD (rowD s).b).length ≤ 48 := by unfold colD; rw [r3]; exact hk
  unfold tellCellD
  split
  · rename_i he
    exact ⟨r1, by omega, fun e => absurd e he⟩
  · rename_i he
    have he : (rowD s).e = 0 := by simpa using he
    have k1 : TkD (keyD (rowD s).b).b := tkd_tell r1 _ (okE_txt (by decide) hkr)
    have k2 : (keyD (rowD s).b).b.l.length ≤ k + 2 := Nat.le_trans (tellL_len _ _ _) (by omega)
    split
    · rename_i h2
      exact ⟨k1, by omega, fun e => absurd e h2⟩
    · rename_i h2
      have h2 : (keyD (rowD s).b).e = 0 := by simpa using h2
      refine ⟨tkd_tell k1 _ (okE_txt (by decide) ht), Nat.le_trans (tellL_len _ _ _) (by omega), fun e3 => ⟨?_, ?_⟩⟩
      · show { (rowD s).b.m with n := (rowD s).b.m.n + 1 } = _
        rw [r3]
      · show (stepS _ _).length = 3
        rw [dS_scalar e3 (.inl rfl)]
        show (stepS _ _).length = 3
        rw [dS_scalar h2 (.inr rfl)]
        exact r4 he
theorem do_endcell (h : DIn s n) (h0 : s.m.a ≠ 0) (last : Bool) (v : Int) (hv : v = 1 ∨ v = 2) (hvl : v = 1 → last = true) (k : Nat) (hk : n ≤ k) (hk2 : s.m.hd = true → n + 2 ≤ k) : DO (endCellD (setA s v) last) k := by
  have hln := h.ln
  have hcl := h.mc.cl
  have hdp := h.dp
  rw [if_neg h0] at hdp
  unfold endCellD
  cases hh : s.m.hd with
  | false =>
    rw [if_pos (show (setA s v).m.hd = false from hh)]
    exact (do_col h hh h0 last v hv hvl).mono hk
  | true =>
    rw [if_neg (by show ¬ s.m.hd = false; rw [hh]; decide)]
    have hy := h.mc.hy hh
    have hk2 := hk2 hh
    obtain ⟨c1, c2, c3⟩ := do_cell (s := emptyD (setA s v)) (k := 2 * n) ((h.tk.m _).m _) hln hdp hy.1 h.mc.cz (t := s.m.c) hcl
    have e : (setA s v).m.c = s.m.c := rfl
    rw [e]
    generalize hR : tellCellD (emptyD (setA s v)) s.m.c = R at *
    split
    · rename_i he; exact ⟨c1, by omega, fun e => absurd e he⟩
    · rename_i he
      obtain ⟨m1, d3⟩ := c3 (by simpa using he)
      have hm : R.b.m = { s.m with a := v, c := [], n := s.m.n + 1 } := m1
      unfold countD
      rw [hm]
      simp only
      split
      · exact do_err c1 (by omega) (by decide)
      · rename_i hq
        have hq : last = decide (s.m.n + 1 = s.m.cols.length) := by simpa using hq
        split
        · rename_i hlf
          subst hlf
          have hne : s.m.n + 1 ≠ s.m.cols.length := by simpa using hq.symm
          refine ⟨c1, by show R.b.l.length ≤ _; omega, fun _ => ⟨c1, by show R.b.l.length ≤ _; omega, ?_, ?_, ?_⟩⟩
          · show DMc R.b.m
            rw [hm]
            refine ⟨by show 0 ≤ v ∧ v ≤ 5; omega, fun e => ?_, fun _ => ⟨by show s.m.n + 1 < s.m.cols.length; omega, hy.2⟩, h.mc.cz, Nat.zero_le _, fun e => ?_⟩
            · replace e : s.m.hd = false := e
              rw [hh] at e; cases e
            · replace e : v = 1 := e
              have := hvl e
              cases this
          · show R.b.st.length = if R.b.m.a = 0 then 1 else deep R.b.m
            rw [hm, d3]
            unfold deep
            rw [if_neg (show ¬ v = 0 by omega), if_neg (show ¬ s.m.n + 1 = 0 by omega)]
          · show R.b.m.a = 0 → _
            rw [hm]
            intro e
            replace e : v = 0 := e
            omega
        · have ht := tkd_tell c1 { s.m with a := v, c := [], n := 0 } (okE_bare (k := 9) (by decide))
          have hl := tellL_len R.b.st R.b.l (bare 9)
          refine ⟨ht, by show (tellL _ _ _).length ≤ _; omega, fun e3 => ⟨ht, by show (tellL _ _ _).length ≤ _; omega, ?_, ?_, ?_⟩⟩
          · refine ⟨by show 0 ≤ v ∧ v ≤ 5; omega, fun e => ?_, fun _ => ⟨by show 0 < s.m.cols.length; omega, hy.2⟩, h.mc.cz, Nat.zero_le _, fun _ => rfl⟩
            replace e : s.m.hd = false := e
            rw [hh] at e; cases e
          · have := (dS_end c1.good e3 (.inr rfl)).1
            show (stepS R.b.st (bare 9)).length = if v = 0 then 1 else 2
            rw [if_neg (by omega)]
            omega
          · intro e
            replace e : v = 0 := e
            omega
theorem do_out (h : DIn s n) (h0 : s.m.a ≠ 0) (b : UInt8) (k : Nat) (hk : n ≤ k) (hk2 : s.m.hd = true → n + 2 ≤ k) : DO (outD s b) k := by
  have hln := h.ln
  unfold outD
  split
  · exact do_endcell h h0 false 2 (.inr rfl) (fun e => absurd e (by decide)) k hk hk2
  · split
    · exact do_endcell h h0 true 1 (.inl rfl) (fun _ => rfl) k hk hk2
    · split
      · exact do_err h.tk (by omega) (by decide)
      · exact (do_add h b).mono hk
theorem do_cellB (h : DIn s n) (h0 : s.m.a ≠ 0) (b : UInt8) (k : Nat) (hk : n ≤ k) (hk2 : s.m.hd = true → n + 2 ≤ k) : DO (cellD s b) k := by
  have hln := h.ln
  unfold cellD
  split
  · have := din_a h h0 4 (by decide)
    exact ⟨this.tk, by show (setA s 4).l.length ≤ _; have := this.ln; omega, fun _ => din_mono this (by omega)⟩
  · exact do_out (din_a h h0 3 (by decide)) (by show (3 : Int) ≠ 0; decide) b k hk hk2
theorem tellCell_setA (t : Ds) (v : Int) (x : List UInt8) : tellCellD (setA t v) x = ⟨setA (tellCellD t x).b v, (tellCellD t x).e⟩ := by
  unfold tellCellD rowD keyD textD tellD colD setA
  by_cases h0 : t.m.n = 0
  · simp only [h0, if_true]
    repeat' split
    all_goals first | rfl | (simp_all; done)
  · simp only [h0, if_false]
    repeat' split
    all_goals first | rfl | (simp_all; done)
theorem end_setA (t : Ds) : (endCellD (setA t 1) true).e = (endCellD t true).e ∧ (endCellD (setA t 1) true).b.l = (endCellD t true).b.l ∧ (endCellD (setA t 1) true).b.st = (endCellD t true).b.st := by
  unfold endCellD
  by_cases hh : t.m.hd = false
  · rw [if_pos (show (setA t 1).m.hd = false from hh), if_pos hh]
    unfold addColD
    by_cases hm : t.m.c ∈ t.m.cols
    · rw [if_pos (show (setA t 1).m.c ∈ ({ setA t 1 with m := { (setA t 1).m with c := [], hd := true } } : Ds).m.cols from hm), if_pos (show t.m.c ∈ ({ t with m := { t.m with c := [], hd := true } } : Ds).m.cols from hm)]
      exact ⟨rfl, rfl, rfl⟩
    · rw [if_neg (show ¬ (setA t 1).m.c ∈ ({ setA t 1 with m := { (setA t 1).m with c := [], hd := true } } : Ds).m.cols from hm), if_neg (show ¬ t.m.c ∈ ({ t with m := { t.m with c := [], hd := true } } : Ds).m.cols from hm)]
      exact ⟨rfl, rfl, rfl⟩
  · rw [if_neg (show ¬ (setA t 1).m.hd = false from hh), if_neg hh]
    rw [show emptyD (setA t 1) = setA (emptyD t) 1 from rfl, show (setA t 1).m.c = t.m.c from rfl, tellCell_setA]
    simp only
    split
    · exact ⟨rfl, rfl, rfl⟩
    · generalize (tellCellD (emptyD t) t.m.c).b = R
      unfold countD
      by_cases hq : true ≠ decide (R.m.n = R.m.cols.length)
      · rw [if_pos (show true ≠ decide ((setA R 1).m.n = (setA R 1).m.cols.length) from hq), if_pos hq]; exact ⟨rfl, rfl, rfl⟩
      · rw [if_neg (show ¬ true ≠ decide ((setA R 1).m.n = (setA R 1).m.cols.length) from hq), if_neg hq]; exact ⟨rfl, rfl, rfl⟩
theorem tellCell_a (t : Ds) (x : List UInt8) : (tellCellD t x).b.m.a = t.m.a := by
  have h1 : (rowD t).b.m = t.m := by unfold rowD; split <;> rfl
  unfold tellCellD
  split
  · rw [h1]
  · split
    · show (rowD t).b.m.a = _; rw [h1]
    · show (rowD t).b.m.a = _; rw [h1]
theorem end_at (t : Ds) (last : Bool) : (endCellD (setA t 1) last).b.m.a = 1 := by
  unfold endCellD
  split
  · unfold addColD
    split <;> rfl
  · split
    · rw [tellCell_a]; rfl
    · unfold countD
      split
      · rw [tellCell_a]; rfl
      · split
        · rw [tellCell_a]; rfl
        · show (tellCellD _ _).b.m.a = 1; rw [tellCell_a]; rfl
theorem do_step (h : DIn s n) (b : UInt8) : DO (stepD s b) (n + 2) := by
  have hln := h.ln
  unfold stepD
  split
  · rename_i h0
    have hz := h.z h0
    have hd := h.dp
    rw [if_pos h0] at hd
    have ht : TkD (listD s).b := tkd_tell h.tk _ (okE_bare (by decide))
    have hl : (listD s).b.l.length ≤ 1 := Nat.le_trans (tellL_len _ _ _) (by rw [hz.1]; exact Nat.le_refl _)
    split
    · rename_i he
      exact ⟨ht, by omega, fun e => absurd e he⟩
    · rename_i he
      have he : stepE s.st (bare 5) = 0 := Decidable.of_not_not he
      have hD : DIn (setA (listD s).b 3) (n + 1) := by
        refine ⟨ht.m _, by show (listD s).b.l.length ≤ _; omega, ⟨by simp [setA], h.mc.hn, h.mc.hy, h.mc.cz, h.mc.cl, fun e => by simp [setA] at e⟩, ?_, fun e => by simp [setA] at e⟩
        rw [if_neg (by simp [setA])]
        show (stepS s.st (bare 5)).length = deep _
        rw [dS_open he (.inl rfl), hd]
        unfold deep
        rw [if_pos (show (setA (listD s).b 3).m.n = 0 from (h.mc.hn hz.2).1)]
      exact do_cellB hD (by show (3 : Int) ≠ 0; decide) b (n + 2) (by omega) (fun e => by have : s.m.hd = true := e; rw [hz.2] at this; cases this)
  · rename_i h0
    split
    · exact do_cellB h h0 b _ (by omega) (fun _ => Nat.le_refl _)
    · split
      · split
        · exact ⟨h.tk.m _, by show s.l.length ≤ _; omega, fun _ => din_mono (din_a h h0 5 (by decide)) (by omega)⟩
        · exact (do_add h b).mono (by omega)
      · split
        · exact (do_add (din_a h h0 4 (by decide)) b).mono (by omega)
        · exact do_out h h0 b _ (by omega) (fun _ => Nat.le_refl _)
theorem do_fin (h : DIn s n) : TkD (finD s).b ∧ (finD s).b.l.length ≤ 2 * n + 8 ∧ ((finD s).e = 0 → doneB (finD s).b.st = true) := by
  have hln := h.ln
  have hr : TkD (endD s).b ∧ (endD s).b.l.length ≤ 2 * n + 4 ∧ ((endD s).e = 0 → (endD s).b.st.length = 2) := by
    unfold endD
    have hd := h.dp
    split
    · rename_i h0
      rw [if_pos h0] at hd
      refine ⟨tkd_tell h.tk _ (okE_bare (by decide)), Nat.le_trans (tellL_len _ _ _) (by omega), fun he => ?_⟩
      show (stepS s.st (bare 5)).length = 2
      rw [dS_open he (.inl rfl), hd]
    · rename_i h0
      rw [if_neg h0] at hd
      split
      · exact ⟨h.tk, by show s.l.length ≤ _; omega, fun e => absurd (show (2 : Int) = 0 from e) (by decide)⟩
      · split
        · rename_i h1
          refine ⟨h.tk, by show s.l.length ≤ _; omega, fun _ => ?_⟩
          show s.st.length = 2
          rw [hd]
          unfold deep
          rw [if_pos (h.mc.a1 h1)]
        · have hE := do_endcell h h0 true 1 (.inl rfl) (fun _ => rfl) (n + 2) (by omega) (fun _ => Nat.le_refl _)
          -- the state plays no part in the end of a cell
          have hs : ∀ t : Ds, (endCellD (setA t 1) true).e = (endCellD t true).e ∧ (endCellD (setA t 1) true).b.l = (endCellD t true).b.l ∧ (endCellD (setA t 1) true).b.st = (endCellD t true).b.st := end_setA
          obtain ⟨s1, s2, s3⟩ := hs s
          refine ⟨⟨?_, ?_, ?_, ?_⟩, ?_, fun he => ?_⟩
          · rw [← s2]; exact hE.1.ok
          · rw [← s2, ← s3]; exact hE.1.run
          · rw [← s2]; exact hE.1.sz
          · rw [← s3]; exact hE.1.good
          · rw [← s2]; have := hE.2.1; omega
          · have hI := hE.2.2 (by rw [s1]; exact he)
            have := hI.dp
            rw [← s3, this]
            have ha : (endCellD (setA s 1) true).b.m.a = 1 := end_at _ _
            rw [if_neg (by rw [ha]; decide)]
            unfold deep
            rw [if_pos (hI.mc.a1 ha)]
  obtain ⟨r1, r2, r3⟩ := hr
  unfold finD
  split
  · rename_i he
    exact ⟨r1, by omega, fun e => absurd e he⟩
  · rename_i he
    have h2 := r3 (by simpa using he)
    refine ⟨tkd_tell r1 _ (okE_bare (by decide)), Nat.le_trans (tellL_len _ _ _) (by omega), fun e => ?_⟩
    have := dS_end r1.good e (.inl rfl)
    exact done_1 (by show (stepS _ _).length = 1; omega) this.2
theorem din0 : DIn ds0 0 := by
  refine ⟨⟨trivial, rfl, fun x h => ?_, good_start⟩, Nat.zero_le _, ⟨by decide, fun _ => ⟨rfl, Nat.zero_le _⟩, fun e => ?_, fun c h => ?_, Nat.zero_le _, fun _ => rfl⟩, rfl, fun _ => ⟨rfl, rfl⟩⟩
  · cases h
  · cases e
  · cases h
end
end Go.Proofs.YtalkjgijmceifaaGreatDoor

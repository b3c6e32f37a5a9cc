/-
  delim: what holds ahead of each byte, as long as no error was told; what was told is a run. No program is read here.
  sections as plain functions: what is known between the lines; a header, an assignment, the end; how many events are told, and how deep one is. No contract of a call is stated here.
-/
import Derived.Test.YtalkjgijmceifaaGreatDoorOwA28
import Derived.Test.YtalkjgijmceifaaGreatDoorOwA10
import Derived.Test.YtalkjgijmceifaaGreatDoorOwA26
namespace Go.Proofs.YtalkjgijmceifaaGreatDoor
set_option maxRecDepth 100000
set_option linter.unusedSimpArgs false
set_option linter.unusedVariables false
set_option linter.unusedSectionVars false
variable [Tab] [Fo]

theorem okE_d {x : Ev} (hk : 0 ≤ x.k ∧ x.k ≤ 12) (ht : x.t.size ≤ 48) (hv : x.v.size ≤ 48) : okE x := ⟨by omega, by omega, by omega, by omega⟩
theorem okE_bare {k : Int} (hk : 0 ≤ k ∧ k ≤ 12) : okE (bare k) := okE_d hk (by simp [bare, ByteArray.size]) (by simp [bare, ByteArray.size])
theorem okE_txt {k : Int} (hk : 0 ≤ k ∧ k ≤ 12) {t : List UInt8} (ht : t.length ≤ 48) : okE ⟨k, ⟨t.toArray⟩, ⟨#[]⟩⟩ := okE_d hk (by show t.toArray.size ≤ 48; rw [List.size_toArray]; exact ht) (by simp [ByteArray.size])
/-- What was told is a run. -/
structure TkD (s : Ds) : Prop where
  ok : allOk [topP] s.l
  run : s.st = runS [topP] s.l
  sz : ∀ x ∈ s.l, okE x
  good : Good s.st
theorem tkd_tell {s : Ds} (h : TkD s) (M : Dm) {x : Ev} (hx : okE x) : TkD (tellD M s.st s.l x).b := by
  obtain ⟨m, st, l⟩ := s
  obtain ⟨h1, h2, h3, h4⟩ := h
  simp only at h1 h2 h3 h4
  have hg := good_step h4 x
  subst h2
  unfold tellD tellL
  by_cases hz : stepE (runS [topP] l) x = 0
  · simp only [if_pos hz]
    refine ⟨(allOk_snoc _ _ _).2 ⟨h1, hz⟩, (runS_snoc _ _ _).symm, fun y hy => ?_, hg⟩
    rcases List.mem_append.1 hy with hy | hy
    · exact h3 y hy
    · rw [List.mem_singleton.1 hy]; exact hx
  · simp only [if_neg hz]
    refine ⟨h1, ?_, h3, hg⟩
    simp only [stepS, if_neg hz]
theorem TkD.m {s : Ds} (h : TkD s) (M : Dm) : TkD { s with m := M } := ⟨h.ok, h.run, h.sz, h.good⟩
theorem dS_scalar {st : List Pt} {x : Ev} (hz : stepE st x = 0) (hk : x.k = 4 ∨ x.k = 8) : (stepS st x).length = st.length := by
  unfold stepS
  rw [if_pos hz]
  cases st with
  | nil => simp [stepE] at hz
  | cons p r =>
    have he : endsK x.k = false := by unfold endsK; rw [decide_eq_false_iff_not]; omega
    have ho : opensK x.k = false := by unfold opensK; rw [decide_eq_false_iff_not]; omega
    simp only [goS, he, ho, if_false, Bool.false_eq_true]
    split <;> simp
theorem dS_open {st : List Pt} {x : Ev} (hz : stepE st x = 0) (hk : x.k = 5 ∨ x.k = 7) : (stepS st x).length = st.length + 1 := by
  unfold stepS
  rw [if_pos hz]
  cases st with
  | nil => simp [stepE] at hz
  | cons p r =>
    have he : endsK x.k = false := by unfold endsK; rw [decide_eq_false_iff_not]; omega
    have ho : opensK x.k = true := by unfold opensK; rw [decide_eq_true_iff]; omega
    simp [goS, he, ho]
theorem dS_end {st : List Pt} {x : Ev} (hg : Good st) (hz : stepE st x = 0) (hk : x.k = 6 ∨ x.k = 9) : (stepS st x).length + 1 = st.length ∧ ∀ p r, stepS st x = p :: r → p.last ≠ 0 := by
  obtain ⟨p, r, rfl⟩ := hg.ne
  obtain ⟨hf, hc⟩ := cont_of hz
  have he : endsK x.k = true := by unfold endsK; rw [decide_eq_true_iff]; omega
  unfold stepS
  rw [if_pos hz]
  simp only [goS, he, if_true]
  refine ⟨by simp, fun q r' h => ?_⟩
  subst h
  have := hg.1.2.1
  unfold opensK at this
  rw [decide_eq_true_iff] at this
  omega
theorem done_1 {st : List Pt} (hl : st.length = 1) (h : ∀ p r, st = p :: r → p.last ≠ 0) : doneB st = true := by
  match hst : st, hl with
  | [p], _ => simpa [doneB] using h p [] rfl
/-- How many parts are open. -/
def deep (m : Dm) : Nat := if m.n = 0 then 2 else 3
/-- What holds of the machine. -/
structure DMc (m : Dm) : Prop where
  av : 0 ≤ m.a ∧ m.a ≤ 5
  hn : m.hd = false → m.n = 0 ∧ m.cols.length ≤ 7
  hy : m.hd = true → m.n < m.cols.length ∧ m.cols.length ≤ 8
  cz : ∀ c ∈ m.cols, c.length ≤ 48
  cl : m.c.length ≤ 48
  a1 : m.a = 1 → m.n = 0
/-- What holds ahead of each byte. -/
structure DIn (s : Ds) (n : Nat) : Prop where
  tk : TkD s
  ln : s.l.length ≤ 2 * n
  mc : DMc s.m
  dp : s.st.length = if s.m.a = 0 then 1 else deep s.m
  z : s.m.a = 0 → s.l = [] ∧ s.m.hd = false
def DO (r : Dr) (n : Nat) : Prop := TkD r.b ∧ r.b.l.length ≤ 2 * n ∧ (r.e = 0 → DIn r.b n)
theorem DMc.n8 {m : Dm} (h : DMc m) : m.n ≤ 8 ∧ m.cols.length ≤ 8 := by
  cases hh : m.hd with
  | false => have := h.hn hh; omega
  | true => have := h.hy hh; omega
theorem din_mono {s : Ds} {n k : Nat} (h : DIn s n) (hk : n ≤ k) : DIn s k := ⟨h.tk, by have := h.ln; omega, h.mc, h.dp, h.z⟩
theorem DO.mono {r : Dr} {n k : Nat} (h : DO r n) (hk : n ≤ k) : DO r k := ⟨h.1, by have := h.2.1; omega, fun e => din_mono (h.2.2 e) hk⟩
section
variable {s : Ds} {n : Nat}
theorem do_err (h : TkD s) (hl : s.l.length ≤ 2 * n) {e : Int} (he : e ≠ 0) : DO ⟨s, e⟩ n := ⟨h, hl, fun h0 => absurd h0 he⟩
theorem do_add (h : DIn s n) (b : UInt8) : DO (addD s b) n := by
  unfold addD
  split
  · exact do_err h.tk h.ln (by decide)
  · rename_i hc
    have hl : (s.m.c ++ [b]).length = s.m.c.length + 1 := by simp
    exact ⟨h.tk.m _, h.ln, fun _ => ⟨h.tk.m _, h.ln, ⟨h.mc.av, h.mc.hn, h.mc.hy, h.mc.cz, by show (s.m.c ++ [b]).length ≤ 48; omega, h.mc.a1⟩, h.dp, h.z⟩⟩
theorem din_a (h : DIn s n) (h0 : s.m.a ≠ 0) (v : Int) (hv : 2 ≤ v ∧ v ≤ 5) : DIn (setA s v) n :=
  ⟨h.tk.m _, h.ln, ⟨by simp [setA]; omega, h.mc.hn, h.mc.hy, h.mc.cz, h.mc.cl, fun e => by simp only [setA] at e; omega⟩, by
    have := h.dp
    rw [if_neg h0] at this
    rw [if_neg (by simp only [setA]; omega)]
    exact this, fun e => by simp only [setA] at e; omega⟩
/-- A cell's end: the state behind it is that of a comma (2) or of a newline (1), or none. -/
theorem do_col (h : DIn s n) (hh : s.m.hd = false) (h0 : s.m.a ≠ 0) (last : Bool) (v : Int) (hv : v = 1 ∨ v = 2) (hvl : v = 1 → last = true) : DO (addColD { setA s v with m := { (setA s v).m with c := [], hd := last } } s.m.c last) n := by
  have hn := h.mc.hn hh
  have hdp := h.dp
  rw [if_neg h0] at hdp
  unfold addColD
  split
  · exact ⟨h.tk.m _, h.ln, fun e => absurd (show (6 : Int) = 0 from e) (by decide)⟩
  · have hl : (s.m.cols ++ [s.m.c]).length = s.m.cols.length + 1 := by simp
    refine ⟨h.tk.m _, h.ln, fun he => ⟨h.tk.m _, h.ln, ⟨?_, fun e => ⟨hn.1, ?_⟩, fun e => ⟨?_, ?_⟩, ?_, Nat.zero_le _, fun _ => hn.1⟩, ?_, fun e => ?_⟩⟩
    · show 0 ≤ v ∧ v ≤ 5; omega
    · replace e : last = false := e
      subst e
      show (s.m.cols ++ [s.m.c]).length ≤ 7
      rw [hl]
      by_cases h8 : s.m.cols.length + 1 = 8
      · have he' : (16 : Int) = 0 := by
          have he2 : (if false = false ∧ s.m.cols.length + 1 = 8 then (16 : Int) else 0) = 0 := he
          rw [if_pos ⟨rfl, h8⟩] at he2
          exact he2
        exact absurd he' (by decide)
      · omega
    · show s.m.n < (s.m.cols ++ [s.m.c]).length; omega
    · show (s.m.cols ++ [s.m.c]).length ≤ 8; omega
    · intro c hc
      replace hc : c ∈ s.m.cols ++ [s.m.c] := hc
      rcases List.mem_append.1 hc with hc | hc
      · exact h.mc.cz c hc
      · rw [List.mem_singleton.1 hc]; exact h.mc.cl
    · show s.st.length = if v = 0 then 1 else deep s.m
      rw [if_neg (by omega), hdp]
    · replace e : v = 0 := e
      omega
/-- What is told of a cell. -/
theorem do_cell {k : Nat} (h : TkD s) (hl : s.l.length ≤ k) (hd : s.st.length = deep s.m) (hnc : s.m.n < s.m.cols.length) (hcz : ∀ c ∈ s.m.cols, c.length ≤ 48) {t : List UInt8} (ht : t.length ≤ 48) :
    TkD (tellCellD s t).b ∧ (tellCellD s t).b.l.length ≤ k + 3 ∧ ((tellCellD s t).e = 0 → (tellCellD s t).b.m = { s.m with n := s.m.n + 1 } ∧ (tellCellD s t).b.st.length = 3) := by
  have hk : (colD s).length ≤ 48 := by
    unfold colD
    rw [List.getD_eq_getElem?_getD, List.getElem?_eq_getElem hnc]
    exact hcz _ (List.getElem_mem hnc)
  have hr : TkD (rowD s).b ∧ (rowD s).b.l.length ≤ k + 1 ∧ (rowD s).b.m = s.m ∧ ((rowD s).e = 0 → (rowD s).b.st.length = 3) := by
    unfold rowD
    split
    · rename_i h0
      refine ⟨tkd_tell h _ (okE_bare (by decide)), Nat.le_trans (tellL_len _ _ _) (by omega), rfl, fun he => ?_⟩
      show (stepS _ _).length = 3
      rw [dS_open he (.inr rfl), hd]
      unfold deep
      rw [if_pos h0]
    · rename_i h0
      refine ⟨h, by show s.l.length ≤ _; omega, rfl, fun _ => ?_⟩
      show s.st.length = 3
      rw [hd]
      unfold deep
      rw [if_neg h0]
  obtain ⟨r1, r2, r3, r4⟩ := hr
  have hkr : (colD (rowD s).b).length ≤ 48 := by unfold colD; rw [r3]; exact hk
  unfold tellCellD
  split
  · rename_i he
    exact ⟨r1, by omega, fun e => absurd e he⟩
  · rename_i he
    have he : (rowD s).e = 0 := by simpa using he
    have k1 : TkD (keyD (rowD s).b).b := tkd_tell r1 _ (okE_txt (by decide) hkr)
    have k2 : (keyD (rowD s).b).b.l.length ≤ k + 2 := Nat.le_trans (tellL_len _ _ _) (by omega)
    split
    · rename_i h2
      exact ⟨k1, by omega, fun e => absurd e h2⟩
    · rename_i h2
      have h2 : (keyD (rowD s).b).e = 0 := by simpa using h2
      refine ⟨tkd_tell k1 _ (okE_txt (by decide) ht), Nat.le_trans (tellL_len _ _ _) (by omega), fun e3 => ⟨?_, ?_⟩⟩
      · show { (rowD s).b.m with n := (rowD s).b.m.n + 1 } = _
        rw [r3]
      · show (stepS _ _).length = 3
        rw [dS_scalar e3 (.inl rfl)]
        show (stepS _ _).length = 3
        rw [dS_scalar h2 (.inr rfl)]
        exact r4 he
theorem do_endcell (h : DIn s n) (h0 : s.m.a ≠ 0) (last : Bool) (v : Int) (hv : v = 1 ∨ v = 2) (hvl : v = 1 → last = true) (k : Nat) (hk : n ≤ k) (hk2 : s.m.hd = true → n + 2 ≤ k) : DO (endCellD (setA s v) last) k := by
  have hln := h.ln
  have hcl := h.mc.cl
  have hdp := h.dp
  rw [if_neg h0] at hdp
  unfold endCellD
  cases hh : s.m.hd with
  | false =>
    rw [if_pos (show (setA s v).m.hd = false from hh)]
    exact (do_col h hh h0 last v hv hvl).mono hk
  | true =>
    rw [if_neg (by show ¬ s.m.hd = false; rw [hh]; decide)]
    have hy := h.mc.hy hh
    have hk2 := hk2 hh
    obtain ⟨c1, c2, c3⟩ := do_cell (s := emptyD (setA s v)) (k := 2 * n) ((h.tk.m _).m _) hln hdp hy.1 h.mc.cz (t := s.m.c) hcl
    have e : (setA s v).m.c = s.m.c := rfl
    rw [e]
    generalize hR : tellCellD (emptyD (setA s v)) s.m.c = R at *
    split
    · rename_i he; exact ⟨c1, by omega, fun e => absurd e he⟩
    · rename_i he
      obtain ⟨m1, d3⟩ := c3 (by simpa using he)
      have hm : R.b.m = { s.m with a := v, c := [], n := s.m.n + 1 } := m1
      unfold countD
      rw [hm]
      simp only
      split
      · exact do_err c1 (by omega) (by decide)
      · rename_i hq
        have hq : last = decide (s.m.n + 1 = s.m.cols.length) := by simpa using hq
        split
        · rename_i hlf
          subst hlf
          have hne : s.m.n + 1 ≠ s.m.cols.length := by simpa using hq.symm
          refine ⟨c1, by show R.b.l.length ≤ _; omega, fun _ => ⟨c1, by show R.b.l.length ≤ _; omega, ?_, ?_, ?_⟩⟩
          · show DMc R.b.m
            rw [hm]
            refine ⟨by show 0 ≤ v ∧ v ≤ 5; omega, fun e => ?_, fun _ => ⟨by show s.m.n + 1 < s.m.cols.length; omega, hy.2⟩, h.mc.cz, Nat.zero_le _, fun e => ?_⟩
            · replace e : s.m.hd = false := e
              rw [hh] at e; cases e
            · replace e : v = 1 := e
              have := hvl e
              cases this
          · show R.b.st.length = if R.b.m.a = 0 then 1 else deep R.b.m
            rw [hm, d3]
            unfold deep
            rw [if_neg (show ¬ v = 0 by omega), if_neg (show ¬ s.m.n + 1 = 0 by omega)]
          · show R.b.m.a = 0 → _
            rw [hm]
            intro e
            replace e : v = 0 := e
            omega
        · have ht := tkd_tell c1 { s.m with a := v, c := [], n := 0 } (okE_bare (k := 9) (by decide))
          have hl := tellL_len R.b.st R.b.l (bare 9)
          refine ⟨ht, by show (tellL _ _ _).length ≤ _; omega, fun e3 => ⟨ht, by show (tellL _ _ _).length ≤ _; omega, ?_, ?_, ?_⟩⟩
          · refine ⟨by show 0 ≤ v ∧ v ≤ 5; omega, fun e => ?_, fun _ => ⟨by show 0 < s.m.cols.length; omega, hy.2⟩, h.mc.cz, Nat.zero_le _, fun _ => rfl⟩
            replace e : s.m.hd = false := e
            rw [hh] at e; cases e
          · have := (dS_end c1.good e3 (.inr rfl)).1
            show (stepS R.b.st (bare 9)).length = if v = 0 then 1 else 2
            rw [if_neg (by omega)]
            omega
          · intro e
            replace e : v = 0 := e
            omega
theorem do_out (h : DIn s n) (h0 : s.m.a ≠ 0) (b : UInt8) (k : Nat) (hk : n ≤ k) (hk2 : s.m.hd = true → n + 2 ≤ k) : DO (outD s b) k := by
  have hln := h.ln
  unfold outD
  split
  · exact do_endcell h h0 false 2 (.inr rfl) (fun e => absurd e (by decide)) k hk hk2
  · split
    · exact do_endcell h h0 true 1 (.inl rfl) (fun _ => rfl) k hk hk2
    · split
      · exact do_err h.tk (by omega) (by decide)
      · exact (do_add h b).mono hk
theorem do_cellB (h : DIn s n) (h0 : s.m.a ≠ 0) (b : UInt8) (k : Nat) (hk : n ≤ k) (hk2 : s.m.hd = true → n + 2 ≤ k) : DO (cellD s b) k := by
  have hln := h.ln
  unfold cellD
  split
  · have := din_a h h0 4 (by decide)
    exact ⟨this.tk, by show (setA s 4).l.length ≤ _; have := this.ln; omega, fun _ => din_mono this (by omega)⟩
  · exact do_out (din_a h h0 3 (by decide)) (by show (3 : Int) ≠ 0; decide) b k hk hk2
theorem tellCell_setA (t : Ds) (v : Int) (x : List UInt8) : tellCellD (setA t v) x = ⟨setA (tellCellD t x).b v, (tellCellD t x).e⟩ := by
  unfold tellCellD rowD keyD textD tellD colD setA
  by_cases h0 : t.m.n = 0
  · simp only [h0, if_true]
    repeat' split
    all_goals first | rfl | (simp_all; done)
  · simp only [h0, if_false]
    repeat' split
    all_goals first | rfl | (simp_all; done)
theorem end_setA (t : Ds) : (endCellD (setA t 1) true).e = (endCellD t true).e ∧ (endCellD (setA t 1) true).b.l = (endCellD t true).b.l ∧ (endCellD (setA t 1) true).b.st = (endCellD t true).b.st := by
  unfold endCellD
  by_cases hh : t.m.hd = false
  · rw [if_pos (show (setA t 1).m.hd = false from hh), if_pos hh]
    unfold addColD
    by_cases hm : t.m.c ∈ t.m.cols
    · rw [if_pos (show (setA t 1).m.c ∈ ({ setA t 1 with m := { (setA t 1).m with c := [], hd := true } } : Ds).m.cols from hm), if_pos (show t.m.c ∈ ({ t with m := { t.m with c := [], hd := true } } : Ds).m.cols from hm)]
      exact ⟨rfl, rfl, rfl⟩
    · rw [if_neg (show ¬ (setA t 1).m.c ∈ ({ setA t 1 with m := { (setA t 1).m with c := [], hd := true } } : Ds).m.cols from hm), if_neg (show ¬ t.m.c ∈ ({ t with m := { t.m with c := [], hd := true } } : Ds).m.cols from hm)]
      exact ⟨rfl, rfl, rfl⟩
  · rw [if_neg (show ¬ (setA t 1).m.hd = false from hh), if_neg hh]
    rw [show emptyD (setA t 1) = setA (emptyD t) 1 from rfl, show (setA t 1).m.c = t.m.c from rfl, tellCell_setA]
    simp only
    split
    · exact ⟨rfl, rfl, rfl⟩
    · generalize (tellCellD (emptyD t) t.m.c).b = R
      unfold countD
      by_cases hq : true ≠ decide (R.m.n = R.m.cols.length)
      · rw [if_pos (show true ≠ decide ((setA R 1).m.n = (setA R 1).m.cols.length) from hq), if_pos hq]; exact ⟨rfl, rfl, rfl⟩
      · rw [if_neg (show ¬ true ≠ decide ((setA R 1).m.n = (setA R 1).m.cols.length) from hq), if_neg hq]; exact ⟨rfl, rfl, rfl⟩
theorem tellCell_a (t : Ds) (x : List UInt8) : (tellCellD t x).b.m.a = t.m.a := by
  have h1 : (rowD t).b.m = t.m := by unfold rowD; split <;> rfl
  unfold tellCellD
  split
  · rw [h1]
  · split
    · show (rowD t).b.m.a = _; rw [h1]
    · show (rowD t).b.m.a = _; rw [h1]
theorem end_at (t : Ds) (last : Bool) : (endCellD (setA t 1) last).b.m.a = 1 := by
  unfold endCellD
  split
  · unfold addColD
    split <;> rfl
  · split
    · rw [tellCell_a]; rfl
    · unfold countD
      split
      · rw [tellCell_a]; rfl
      · split
        · rw [tellCell_a]; rfl
        · show (tellCellD _ _).b.m.a = 1; rw [tellCell_a]; rfl
theorem do_step (h : DIn s n) (b : UInt8) : DO (stepD s b) (n + 2) := by
  have hln := h.ln
  unfold stepD
  split
  · rename_i h0
    have hz := h.z h0
    have hd := h.dp
    rw [if_pos h0] at hd
    have ht : TkD (listD s).b := tkd_tell h.tk _ (okE_bare (by decide))
    have hl : (listD s).b.l.length ≤ 1 := Nat.le_trans (tellL_len _ _ _) (by rw [hz.1]; exact Nat.le_refl _)
    split
    · rename_i he
      exact ⟨ht, by omega, fun e => absurd e he⟩
    · rename_i he
      have he : stepE s.st (bare 5) = 0 := Decidable.of_not_not he
      have hD : DIn (setA (listD s).b 3) (n + 1) := by
        refine ⟨ht.m _, by show (listD s).b.l.length ≤ _; omega, ⟨by simp [setA], h.mc.hn, h.mc.hy, h.mc.cz, h.mc.cl, fun e => by simp [setA] at e⟩, ?_, fun e => by simp [setA] at e⟩
        rw [if_neg (by simp [setA])]
        show (stepS s.st (bare 5)).length = deep _
        rw [dS_open he (.inl rfl), hd]
        unfold deep
        rw [if_pos (show (setA (listD s).b 3).m.n = 0 from (h.mc.hn hz.2).1)]
      exact do_cellB hD (by show (3 : Int) ≠ 0; decide) b (n + 2) (by omega) (fun e => by have : s.m.hd = true := e; rw [hz.2] at this; cases this)
  · rename_i h0
    split
    · exact do_cellB h h0 b _ (by omega) (fun _ => Nat.le_refl _)
    · split
      · split
        · exact ⟨h.tk.m _, by show s.l.length ≤ _; omega, fun _ => din_mono (din_a h h0 5 (by decide)) (by omega)⟩
        · exact (do_add h b).mono (by omega)
      · split
        · exact (do_add (din_a h h0 4 (by decide)) b).mono (by omega)
        · exact do_out h h0 b _ (by omega) (fun _ => Nat.le_refl _)
theorem do_fin (h : DIn s n) : TkD (finD s).b ∧ (finD s).b.l.length ≤ 2 * n + 8 ∧ ((finD s).e = 0 → doneB (finD s).b.st = true) := by
  have hln := h.ln
  have hr : TkD (endD s).b ∧ (endD s).b.l.length ≤ 2 * n + 4 ∧ ((endD s).e = 0 → (endD s).b.st.length = 2) := by
    unfold endD
    have hd := h.dp
    split
    · rename_i h0
      rw [if_pos h0] at hd
      refine ⟨tkd_tell h.tk _ (okE_bare (by decide)), Nat.le_trans (tellL_len _ _ _) (by omega), fun he => ?_⟩
      show (stepS s.st (bare 5)).length = 2
      rw [dS_open he (.inl rfl), hd]
    · rename_i h0
      rw [if_neg h0] at hd
      split
      · exact ⟨h.tk, by show s.l.length ≤ _; omega, fun e => absurd (show (2 : Int) = 0 from e) (by decide)⟩
      · split
        · rename_i h1
          refine ⟨h.tk, by show s.l.length ≤ _; omega, fun _ => ?_⟩
          show s.st.length = 2
          rw [hd]
          unfold deep
          rw [if_pos (h.mc.a1 h1)]
        · have hE := do_endcell h h0 true 1 (.inl rfl) (fun _ => rfl) (n + 2) (by omega) (fun _ => Nat.le_refl _)
          -- the state plays no part in the end of a cell
          have hs : ∀ t : Ds, (endCellD (setA t 1) true).e = (endCellD t true).e ∧ (endCellD (setA t 1) true).b.l = (endCellD t true).b.l ∧ (endCellD (setA t 1) true).b.st = (endCellD t true).b.st := end_setA
          obtain ⟨s1, s2, s3⟩ := hs s
          refine ⟨⟨?_, ?_, ?_, ?_⟩, ?_, fun he => ?_⟩
          · rw [← s2]; exact hE.1.ok
          · rw [← s2, ← s3]; exact hE.1.run
          · rw [← s2]; exact hE.1.sz
          · rw [← s3]; exact hE.1.good
          · rw [← s2]; have := hE.2.1; omega
          · have hI := hE.2.2 (by rw [s1]; exact he)
            have := hI.dp
            rw [← s3, this]
            have ha : (endCellD (setA s 1) true).b.m.a = 1 := end_at _ _
            rw [if_neg (by rw [ha]; decide)]
            unfold deep
            rw [if_pos (hI.mc.a1 ha)]
  obtain ⟨r1, r2, r3⟩ := hr
  unfold finD
  split
  · rename_i he
    exact ⟨r1, by omega, fun e => absurd e he⟩
  · rename_i he
    have h2 := r3 (by simpa using he)
    refine ⟨tkd_tell r1 _ (okE_bare (by decide)), Nat.le_trans (tellL_len _ _ _) (by omega), fun e => ?_⟩
    have := dS_end r1.good e (.inl rfl)
    exact done_1 (by show (stepS _ _).length = 1; omega) this.2
theorem din0 : DIn ds0 0 := by
  refine ⟨⟨trivial, rfl, fun x h => ?_, good_start⟩, Nat.zero_le _, ⟨by decide, fun _ => ⟨rfl, Nat.zero_le _⟩, fun e => ?_, fun c h => ?_, Nat.zero_le _, fun _ => rfl⟩, rfl, fun _ => ⟨rfl, rfl⟩⟩
  · cases h
  · cases e
  · cases h
end
end Go.Proofs.YtalkjgijmceifaaGreatDoor
namespace Go.Proofs.YtalkjgijmceifaaGreatDoor
set_option maxRecDepth 100000
set_option linter.unusedSimpArgs false
set_option linter.unusedVariables false
set_option linter.unusedSectionVars false
variable [Tab] [Fo]

/-- The Check, the events; the first Map was told; the position; the path of the last header. -/
structure Sx where
  st : List Pt
  l : List Ev
  bg : Bool
  pos : List (ByteArray × Bool)
  bs : List ByteArray
def tellX (x : Sx) (e : Ev) : Option Sx := if stepE x.st e = 0 then some { x with st := stepS x.st e, l := x.l ++ [e] } else none
def wtP : List (ByteArray × Bool) → Int
  | [] => 0
  | s :: r => (if s.2 = true then 2 else 1) + wtP r
theorem wtP_snoc (l : List (ByteArray × Bool)) (s : ByteArray × Bool) : wtP (l ++ [s]) = wtP l + (if s.2 = true then 2 else 1) := by
  induction l with
  | nil => simp [wtP]
  | cons a r ih => simp only [List.cons_append, wtP, ih]; omega
def depX (x : Sx) : Int := x.st.length - (if x.bg = true then 1 else 0) - wtP x.pos
theorem tellX_some {x : Sx} {e : Ev} {x' : Sx} (h : tellX x e = some x') : stepE x.st e = 0 ∧ x' = { x with st := stepS x.st e, l := x.l ++ [e] } := by
  unfold tellX at h
  split at h
  · rename_i h0; exact ⟨h0, (Option.some.inj h).symm⟩
  · cases h
@[reducible] def secM : TM Sx where
  tell := tellX
  len := fun x => x.l.length
  dep := depX
  tl := fun h => by
    obtain ⟨_, rfl⟩ := tellX_some h
    simp
  td := fun h => by
    obtain ⟨h0, rfl⟩ := tellX_some h
    have := stp_deep h0
    unfold depX
    simp only
    omega
/-- What was told is a run. -/
structure TkS (x : Sx) : Prop where
  ok : allOk [topP] x.l
  run : x.st = runS [topP] x.l
  sz : ∀ e ∈ x.l, okE e
  good : Good x.st
theorem tkS_tell {x x' : Sx} {e : Ev} (h : TkS x) (he : okE e) (ht : tellX x e = some x') : TkS x' := by
  obtain ⟨h0, rfl⟩ := tellX_some ht
  obtain ⟨h1, h2, h3, h4⟩ := h
  have hg := good_step h4 e
  refine ⟨?_, ?_, ?_, hg⟩
  · rw [h2] at h0
    exact (allOk_snoc _ _ _).2 ⟨h1, h0⟩
  · show stepS x.st e = _
    rw [runS_snoc, ← h2]
  · intro y hy
    rcases List.mem_append.1 hy with hy | hy
    · exact h3 y hy
    · rw [List.mem_singleton.1 hy]; exact he
theorem TkS.of {x y : Sx} (h : TkS x) (h1 : y.st = x.st) (h2 : y.l = x.l) : TkS y := ⟨by rw [h2]; exact h.ok, by rw [h1, h2]; exact h.run, by rw [h2]; exact h.sz, by rw [h1]; exact h.good⟩
theorem TkS.st7 {x : Sx} (h : TkS x) : 1 ≤ x.st.length ∧ x.st.length ≤ 7 := ⟨by obtain ⟨p, r, e⟩ := h.good.ne; rw [e]; simp, h.good.2⟩

def shut1 (x : Sx) : Option Sx :=
  match x.pos.getLast? with
  | none => none
  | some s => (tellX x (evB 9)).bind fun x1 => (if s.2 = true then tellX x1 (evB 6) else some x1).bind fun x2 => some { x2 with pos := x2.pos.dropLast }
def shutS (keep : Nat) : Nat → Sx → Option Sx
  | 0, x => some x
  | n + 1, x => if keep < x.pos.length then (shut1 x).bind (shutS keep n) else some x
def shutK (keep : Nat) (x : Sx) : Option Sx := shutS keep x.pos.length x
def openS (s : ByteArray × Bool) (x : Sx) : Option Sx :=
  (tellX x (evT 8 s.1)).bind fun x1 => (if s.2 = true then tellX x1 (evB 5) else some x1).bind fun x2 => (tellX x2 (evB 7)).bind fun x3 => some { x3 with pos := x3.pos ++ [s] }
def beginS (x : Sx) : Option Sx := if x.bg = true then some x else (tellX x (evB 7)).map fun y => { y with bg := true }
def leadS : List (ByteArray × Bool) → List ByteArray → Nat
  | s :: p, k :: q => if s.1 = k then leadS p q + 1 else 0
  | _, _ => 0
def openAll : List ByteArray → Sx → Option Sx
  | [], x => some x
  | k :: r, x => (openS (k, false) x).bind (openAll r)
def moveS (path : List ByteArray) (x : Sx) : Option Sx := (shutK (leadS x.pos path) x).bind (openAll (path.drop (leadS x.pos path)))
def keyP (S : List UInt8) (a : Nat) : Option (ByteArray × Nat) := if isB S a 34 = true then quoP S a else bareP S a
def setToS (S : List UInt8) (v : Nat → Sx → Option (Nat × Sx)) (a : Nat) (x : Sx) : Option (Nat × Sx) := (eatB S a 61).bind fun a1 => v (blk S a1) x
def fldS (S : List UInt8) (v : Nat → Sx → Option (Nat × Sx)) (a : Nat) (x : Sx) : Option (Nat × Sx) :=
  (keyP S a).bind fun q => (lastM secM q.2 x (evT 8 q.1)).bind fun p => setToS S v (blk S p.1) p.2
def valS (S : List UInt8) : Nat → Nat → Sx → Option (Nat × Sx)
  | 0 => fun _ _ => none
  | n + 1 => valueG secM S (valS S n) (fldS S (valS S n))
def pathA (S : List UInt8) : Nat → Nat → List ByteArray → Option (List ByteArray × Nat)
  | 0, _, _ => none
  | n + 1, a, acc => (keyP S a).bind fun q => if isB S (q.2 + 1) 46 = true then pathA S n (q.2 + 2) (acc ++ [q.1]) else some (acc ++ [q.1], q.2 + 1)
def pathP (S : List UInt8) (a : Nat) : Option (List ByteArray × Nat) := pathA S (S.length + 1) a []
def inRowS (pos : List (ByteArray × Bool)) (ks : List ByteArray) : Bool := decide (ks.length - 1 < leadS pos ks) && (match pos[ks.length - 1]? with | some s => s.2 | none => false)
def nextRowS (keep : Nat) (x : Sx) : Option Sx := (shutK keep x).bind fun x1 => (tellX x1 (evB 9)).bind fun x2 => tellX x2 (evB 7)
def lastK (ks : List ByteArray) : ByteArray := match ks.getLast? with | some k => k | none => ⟨#[]⟩
def enterS (ks : List ByteArray) (row : Bool) (x : Sx) : Option Sx := (moveS ks.dropLast x).bind (openS (lastK ks, row))
def headTo (S : List UInt8) (row : Bool) (ks : List ByteArray) (a : Nat) (x : Sx) : Option (Nat × Sx) :=
  (meetB S a 93).bind fun a4 => (beginS { x with bs := ks }).bind fun x2 => (if (row && inRowS x2.pos ks) = true then nextRowS ks.length x2 else enterS ks row x2).bind fun x3 =>
    (if row = true then eatB S (a4 + 1) 93 else some (a4 + 1)).map fun a5 => (a5, x3)
def headerS (S : List UInt8) (a : Nat) (x : Sx) : Option (Nat × Sx) :=
  (eatB S a 91).bind fun a1 => (pathP S (if isB S a1 91 = true then a1 + 1 else a1)).bind fun q => headTo S (isB S a1 91) q.1 q.2 x
def assignS (S : List UInt8) (a : Nat) (x : Sx) : Option (Nat × Sx) :=
  (pathP S a).bind fun q => (meetB S (blk S q.2) 61).bind fun a2 => (beginS x).bind fun x1 => (moveS (x.bs ++ q.1).dropLast x1).bind fun x2 => (tellX x2 (evT 8 (lastK (x.bs ++ q.1)))).bind fun x3 => setToS S (valS S (S.length + 1)) a2 x3
def lineS (S : List UInt8) (x : Sx) : Option Sx :=
  if cmB S 0 = true then some x else ((if isB S (blk S 0) 91 = true then headerS S (blk S 0) x else assignS S (blk S 0) x).bind fun q => (finB S q.1).map fun _ => q.2)
def finX (x : Sx) : Option Sx := (beginS x).bind fun x1 => (shutK 0 x1).bind fun x2 => tellX x2 (evB 9)

/-! How many events, and how deep. -/
/-- What one does to the other: at most k events and 2 for each that it is less deep, 3 for each that it is deeper; as deep as the position says. -/
structure Cost (k : Nat) (x x' : Sx) : Prop where
  tk : TkS x → TkS x'
  dep : depX x' = depX x
theorem okE_B {k : Int} (hk : 0 ≤ k ∧ k ≤ 12) : okE (evB k) := ⟨by show -9223372036854775808 ≤ k; omega, by show k ≤ 9223372036854775807; omega, Nat.zero_le _, Nat.zero_le _⟩
theorem okE_T {k : Int} (hk : 0 ≤ k ∧ k ≤ 12) {t : ByteArray} (ht : t.size ≤ 1000) : okE (evT k t) := ⟨by show -9223372036854775808 ≤ k; omega, by show k ≤ 9223372036854775807; omega, by show t.size ≤ _; omega, Nat.zero_le _⟩
theorem tell_len {x x' : Sx} {e : Ev} (h : tellX x e = some x') : x'.l.length = x.l.length + 1 ∧ (x'.st.length : Int) = x.st.length + dK e.k ∧ x'.bg = x.bg ∧ x'.pos = x.pos ∧ x'.bs = x.bs := by
  obtain ⟨h0, rfl⟩ := tellX_some h
  exact ⟨by simp, stp_deep h0, rfl, rfl, rfl⟩
theorem dK_5 : dK 5 = 1 := rfl
theorem dK_6 : dK 6 = -1 := rfl
theorem dK_7 : dK 7 = 1 := rfl
theorem dK_8 : dK 8 = 0 := rfl
theorem dK_9 : dK 9 = -1 := rfl
/-- One step less. -/
theorem shut1_facts {x x' : Sx} (h : shut1 x = some x') : x'.l.length + 2 * x'.st.length ≤ x.l.length + 2 * x.st.length ∧ x'.pos = x.pos.dropLast ∧ x'.bs = x.bs ∧ x'.bg = x.bg ∧ depX x' = depX x ∧ x'.st.length < x.st.length ∧ (TkS x → TkS x') := by
  unfold shut1 at h
  cases hp : x.pos.getLast? with
  | none => rw [hp] at h; cases h
  | some s =>
    rw [hp] at h
    have h' : ((tellX x (evB 9)).bind fun x1 => (if s.2 = true then tellX x1 (evB 6) else some x1).bind fun x2 => some { x2 with pos := x2.pos.dropLast }) = some x' := h
    have hpos : x.pos = x.pos.dropLast ++ [s] := by
      have hne : x.pos ≠ [] := by intro e; rw [e] at hp; cases hp
      have := List.dropLast_concat_getLast hne
      rw [List.getLast?_eq_some_getLast hne] at hp
      rw [← Option.some.inj hp]
      exact this.symm
    cases ht : tellX x (evB 9) with
    | none => rw [ht] at h'; cases h'
    | some x1 =>
      rw [ht] at h'
      obtain ⟨a1, a2, a3, a4, a5⟩ := tell_len ht
      have a2' : (x1.st.length : Int) = x.st.length - 1 := by rw [a2]; show _ + dK 9 = _; rw [dK_9]; omega
      have h2 : ((if s.2 = true then tellX x1 (evB 6) else some x1).bind fun x2 => some { x2 with pos := x2.pos.dropLast }) = some x' := h'
      cases hs : s.2 with
      | true =>
        rw [hs, if_pos rfl] at h2
        cases ht2 : tellX x1 (evB 6) with
        | none => rw [ht2] at h2; cases h2
        | some x2 =>
          rw [ht2] at h2
          have h3 : some { x2 with pos := x2.pos.dropLast } = some x' := h2
          obtain ⟨b1, b2, b3, b4, b5⟩ := tell_len ht2
          have b2' : (x2.st.length : Int) = x1.st.length - 1 := by rw [b2]; show _ + dK 6 = _; rw [dK_6]; omega
          have e := Option.some.inj h3
          subst e
          refine ⟨by simp only; omega, by simp only; rw [b4, a4], by simp only; rw [b5, a5], by simp only; rw [b3, a3], ?_, by simp only; omega, fun hk => TkS.of (tkS_tell (tkS_tell hk (okE_B (by decide)) ht) (okE_B (by decide)) ht2) rfl rfl⟩
          unfold depX
          simp only
          rw [b4, a4, b3, a3]
          have hw : wtP x.pos = wtP x.pos.dropLast + 2 := by rw [hpos, wtP_snoc, hs]; simp
          rw [hw]
          omega
      | false =>
        rw [hs, if_neg (by decide)] at h2
        have h3 : some { x1 with pos := x1.pos.dropLast } = some x' := h2
        have e := Option.some.inj h3
        subst e
        refine ⟨by simp only; omega, by simp only; rw [a4], by simp only; rw [a5], by simp only; rw [a3], ?_, by simp only; omega, fun hk => TkS.of (tkS_tell hk (okE_B (by decide)) ht) rfl rfl⟩
        unfold depX
        simp only
        rw [a4, a3]
        have hw : wtP x.pos = wtP x.pos.dropLast + 1 := by rw [hpos, wtP_snoc, hs]; simp
        rw [hw]
        omega
theorem shutS_facts (keep : Nat) : ∀ (n : Nat) (x x' : Sx), shutS keep n x = some x' → x'.l.length + 2 * x'.st.length ≤ x.l.length + 2 * x.st.length ∧ x'.bs = x.bs ∧ x'.bg = x.bg ∧ depX x' = depX x ∧ x'.st.length ≤ x.st.length ∧ (TkS x → TkS x') ∧ (x.pos.length ≤ n → x'.pos.length ≤ keep ∨ x'.pos.length ≤ keep) ∧ (x.pos.length ≤ n → keep ≤ x.pos.length → x'.pos.length = keep)
  | 0, x, x', h => by
    rw [shutS] at h
    cases h
    exact ⟨Nat.le_refl _, rfl, rfl, rfl, Nat.le_refl _, fun h => h, fun h => .inl (by omega), fun h1 h2 => by omega⟩
  | n + 1, x, x', h => by
    rw [shutS] at h
    split at h
    · rename_i hk
      cases h1 : shut1 x with
      | none => rw [h1] at h; cases h
      | some y =>
        rw [h1] at h
        obtain ⟨a1, a2, a3, a4, a5, a6, a7⟩ := shut1_facts h1
        obtain ⟨b1, b2, b3, b4, b5, b6, b7, b8⟩ := shutS_facts keep n y x' h
        have hl : y.pos.length = x.pos.length - 1 := by rw [a2, List.length_dropLast]
        exact ⟨by omega, by rw [b2, a3], by rw [b3, a4], by rw [b4, a5], by omega, fun h => b6 (a7 h), fun h => b7 (by omega), fun h1 h2 => b8 (by omega) (by omega)⟩
    · rename_i hk
      cases h
      exact ⟨Nat.le_refl _, rfl, rfl, rfl, Nat.le_refl _, fun h => h, fun h => .inl (by omega), fun h1 h2 => by omega⟩
theorem openS_facts {s : ByteArray × Bool} {x x' : Sx} (hs : s.1.size ≤ 1000) (h : openS s x = some x') : x'.l.length + 3 * x.st.length ≤ x.l.length + 3 * x'.st.length ∧ x'.pos = x.pos ++ [s] ∧ x'.bs = x.bs ∧ x'.bg = x.bg ∧ depX x' = depX x ∧ (TkS x → TkS x') := by
  unfold openS at h
  cases ht : tellX x (evT 8 s.1) with
  | none => rw [ht] at h; cases h
  | some x1 =>
    rw [ht] at h
    obtain ⟨a1, a2, a3, a4, a5⟩ := tell_len ht
    have a2' : (x1.st.length : Int) = x.st.length := by rw [a2]; show _ + dK 8 = _; rw [dK_8]; omega
    have h2 : ((if s.2 = true then tellX x1 (evB 5) else some x1).bind fun x2 => (tellX x2 (evB 7)).bind fun x3 => some { x3 with pos := x3.pos ++ [s] }) = some x' := h
    cases hr : s.2 with
    | true =>
      rw [hr, if_pos rfl] at h2
      cases ht2 : tellX x1 (evB 5) with
      | none => rw [ht2] at h2; cases h2
      | some x2 =>
        rw [ht2] at h2
        obtain ⟨b1, b2, b3, b4, b5⟩ := tell_len ht2
        have b2' : (x2.st.length : Int) = x1.st.length + 1 := by rw [b2]; show _ + dK 5 = _; rw [dK_5]
        have h3 : ((tellX x2 (evB 7)).bind fun x3 => some { x3 with pos := x3.pos ++ [s] }) = some x' := h2
        cases ht3 : tellX x2 (evB 7) with
        | none => rw [ht3] at h3; cases h3
        | some x3 =>
          rw [ht3] at h3
          obtain ⟨c1, c2, c3, c4, c5⟩ := tell_len ht3
          have c2' : (x3.st.length : Int) = x2.st.length + 1 := by rw [c2]; show _ + dK 7 = _; rw [dK_7]
          have h4 : some { x3 with pos := x3.pos ++ [s] } = some x' := h3
          have e := Option.some.inj h4
          subst e
          refine ⟨by simp only; omega, by simp only; rw [c4, b4, a4], by simp only; rw [c5, b5, a5], by simp only; rw [c3, b3, a3], ?_, fun hk => TkS.of (tkS_tell (tkS_tell (tkS_tell hk (okE_T (by decide) hs) ht) (okE_B (by decide)) ht2) (okE_B (by decide)) ht3) rfl rfl⟩
          unfold depX
          simp only
          rw [c4, b4, a4, c3, b3, a3, wtP_snoc, hr]
          simp only [if_true]
          omega
    | false =>
      rw [hr, if_neg (by decide)] at h2
      have h3 : ((tellX x1 (evB 7)).bind fun x3 => some { x3 with pos := x3.pos ++ [s] }) = some x' := h2
      cases ht3 : tellX x1 (evB 7) with
      | none => rw [ht3] at h3; cases h3
      | some x3 =>
        rw [ht3] at h3
        obtain ⟨c1, c2, c3, c4, c5⟩ := tell_len ht3
        have c2' : (x3.st.length : Int) = x1.st.length + 1 := by rw [c2]; show _ + dK 7 = _; rw [dK_7]
        have h4 : some { x3 with pos := x3.pos ++ [s] } = some x' := h3
        have e := Option.some.inj h4
        subst e
        refine ⟨by simp only; omega, by simp only; rw [c4, a4], by simp only; rw [c5, a5], by simp only; rw [c3, a3], ?_, fun hk => TkS.of (tkS_tell (tkS_tell hk (okE_T (by decide) hs) ht) (okE_B (by decide)) ht3) rfl rfl⟩
        unfold depX
        simp only
        rw [c4, a4, c3, a3, wtP_snoc, hr]
        simp
        omega
theorem openAll_facts : ∀ (ks : List ByteArray) (x x' : Sx), (∀ k ∈ ks, k.size ≤ 1000) → openAll ks x = some x' → x'.l.length + 3 * x.st.length ≤ x.l.length + 3 * x'.st.length ∧ x'.bs = x.bs ∧ x'.bg = x.bg ∧ depX x' = depX x ∧ (TkS x → TkS x')
  | [], x, x', _, h => by rw [openAll] at h; cases h; exact ⟨Nat.le_refl _, rfl, rfl, rfl, fun h => h⟩
  | k :: r, x, x', hk, h => by
    rw [openAll] at h
    cases h1 : openS (k, false) x with
    | none => rw [h1] at h; cases h
    | some y =>
      rw [h1] at h
      obtain ⟨a1, a2, a3, a4, a5, a6⟩ := openS_facts (hk k (List.mem_cons_self ..)) h1
      obtain ⟨b1, b2, b3, b4, b5⟩ := openAll_facts r y x' (fun q hq => hk q (List.mem_cons_of_mem _ hq)) h
      exact ⟨by omega, by rw [b2, a3], by rw [b3, a4], by rw [b4, a5], fun h => b5 (a6 h)⟩
theorem leadS_le : ∀ (p : List (ByteArray × Bool)) (q : List ByteArray), leadS p q ≤ p.length ∧ leadS p q ≤ q.length
  | [], _ => ⟨by rw [leadS]; exact Nat.le_refl _; intros; simp_all, by rw [leadS]; exact Nat.zero_le _; intros; simp_all⟩
  | s :: p, [] => ⟨by rw [leadS]; exact Nat.zero_le _; intros; simp_all, by rw [leadS]; exact Nat.le_refl _; intros; simp_all⟩
  | s :: p, k :: q => by
    have := leadS_le p q
    rw [leadS]
    split
    · simp only [List.length_cons]; omega
    · exact ⟨Nat.zero_le _, Nat.zero_le _⟩
end Go.Proofs.YtalkjgijmceifaaGreatDoor

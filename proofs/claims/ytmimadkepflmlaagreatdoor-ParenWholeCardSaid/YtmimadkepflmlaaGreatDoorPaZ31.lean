/-
  paren: a new machine.
  paren: what holds ahead of each byte, as long as no error was told; what was told is a run. No program is read here.
-/
import Derived.Test.YtmimadkepflmlaaGreatDoorPaZ30
import Derived.Test.YtmimadkepflmlaaGreatDoorPaZ10
import Derived.Test.YtmimadkepflmlaaGreatDoorPaZ18
namespace Go.Proofs.YtmimadkepflmlaaGreatDoor
open Go.RowKit Go.Maps
set_option maxRecDepth 100000
set_option linter.unusedSimpArgs false
set_option linter.unusedVariables false
set_option linter.unusedSectionVars false
set_option linter.unusedSectionVars false
variable [Tab] [Fo]

/-- A machine that has read nothing. -/
def praw (w : World) (base m : Nat) : Prop := ∃ U hi, PmAt w base m pm0 (.map (some U)) (.pointer none) (.pointer none) ∧ UsesAt w base hi U ∧ hi ≤ w.heap.size
theorem praw.below {w w' : World} {base m : Nat} (h : praw w base m) (hb : Below w.heap.size w w') : praw w' base m := by
  obtain ⟨U, hi, h1, h2, h3⟩ := h
  exact ⟨U, hi, h1.below hb, h2.low (hb.mono h3), Nat.le_trans h3 hb.size⟩
theorem UsesAt.wide {w : World} {lo lo' hi hi' U : Nat} (h : UsesAt w lo hi U) (h1 : lo' ≤ lo) (h2 : hi ≤ hi') : UsesAt w lo' hi' U := by
  obtain ⟨b0, b5, b7, b10, k0, k1, k2, k3, k4, ⟨l0, l1, l2, l3, l4⟩, ⟨r0, r1, r2, r3, r4⟩⟩ := h.ex
  exact ⟨b0, b5, b7, b10, k0, k1, k2, k3, k4, ⟨by omega, by omega, by omega, by omega, by omega⟩, by omega, by omega, by omega, by omega, by omega⟩
theorem places_lt {w : World} {lo hi U : Nat} (h : UsesAt w lo hi U) : lo < hi := by
  obtain ⟨b0, b5, b7, b10, _, _, _, _, _, ⟨l0, _⟩, ⟨r0, _⟩⟩ := h.ex
  omega
set_option maxHeartbeats 4000000 in
theorem pnew_any (w : World) (hfl : Fo.lim ≤ w.heap.size) : Calls Tryz.prog 16 #[] w fun e w' => ∃ m, e = .returned (.pointer (some ⟨m, 0, none⟩)) ∧ praw w' w.heap.size m ∧ Below w.heap.size w w' := by
  have al : Below w.heap.size w (w.alloc (.cells #[.int .i64 0] 3)) := (Below.refl _ _).alloc (Nat.le_refl _) _
  have hR : ORow (w.alloc (.cells #[.int .i64 0] 3)) w.heap.size 3 (.slice (some ⟨w.heap.size, 0, none⟩) 1 1) [.int .i64 0] := ORow.lit w w.heap.size 3 #[.int .i64 0] (Nat.le_refl _) (by simp [maxLen])
  have hP := places_any (w.alloc (.cells #[.int .i64 0] 3))
  have hz : w.heap.size < (w.alloc (.cells #[.int .i64 0] 3)).heap.size := by simp
  have HA := Lib.hid (And.intro al (And.intro hR hz))
  clear al hR hz
  go_enter Tryz.func16, Tryz.ntmps16
  go_wp2_with fail
  refine hP.mono ?_
  rintro e w1 ⟨U, rfl, hU, hb⟩
  obtain ⟨al, hR, hz⟩ := HA.out
  have HB := Lib.hid (al.trans (hb.mono (Nat.le_of_lt hz)))
  have HU := Lib.hid hU
  have hR1 : ORow w1 w.heap.size 3 (.slice (some ⟨w.heap.size, 0, none⟩) 1 1) [.int .i64 0] := hR.below hb (fun g hg => by have e : w.heap.size = g := Option.some.inj hg; omega)
  have HR := Lib.hid hR1
  have HZ := Lib.hid hz
  clear hU hb al hR hR1 hz HA hP
  go_wp2
  go_ret
  have al2 : Below w1.heap.size w1 (w1.alloc (.cells (pCells pm0 (.slice (some ⟨w.heap.size, 0, none⟩) 1 1) (.map (some U)) (.pointer none) (.pointer none)) 75)) := (Below.refl _ _).alloc (Nat.le_refl _) _
  have hs := HB.out.size
  have hz := HZ.out
  refine ⟨w1.heap.size, rfl, ⟨U, w1.heap.size, ⟨⟨_, Blk.new w1 75 _, HR.out.below al2 (fun g hg => by have e : w.heap.size = g := Option.some.inj hg; have := HB.out.size; have := places_lt HU.out; omega), fun g hg => ?_⟩, hs, nf_new (by omega), Nat.le_trans (Nat.le_trans hfl hs) al2.size⟩, (HU.out.wide (Nat.le_of_lt hz) (Nat.le_refl _)).low al2, al2.size⟩, HB.out.trans (al2.mono hs)⟩
  have e : w.heap.size = g := Option.some.inj hg
  exact nf_new (by omega)
end Go.Proofs.YtmimadkepflmlaaGreatDoor
namespace Go.Proofs.YtmimadkepflmlaaGreatDoor
set_option maxRecDepth 100000
set_option linter.unusedSimpArgs false
set_option linter.unusedVariables false
set_option linter.unusedSectionVars false
variable [Tab] [Fo]

theorem okE_p {x : Ev} (hk : 0 ≤ x.k ∧ x.k ≤ 12) (ht : x.t.size ≤ 48) (hv : x.v.size ≤ 48) : okE x := ⟨by omega, by omega, by omega, by omega⟩
/-- What was told is a run. -/
structure TkQ (s : Ps) : Prop where
  ok : allOk [topP] s.l
  run : s.st = runS [topP] s.l
  sz : ∀ x ∈ s.l, okE x
theorem tkq_tell {s : Ps} (h : TkQ s) (M : Pm) {x : Ev} (hx : okE x) : TkQ (tellP M s.st s.l x).b := by
  obtain ⟨m, st, l⟩ := s
  obtain ⟨h1, h2, h3⟩ := h
  simp only at h1 h2 h3
  subst h2
  unfold tellP tellL
  by_cases hz : stepE (runS [topP] l) x = 0
  · simp only [if_pos hz]
    refine ⟨(allOk_snoc _ _ _).2 ⟨h1, hz⟩, (runS_snoc _ _ _).symm, fun y hy => ?_⟩
    rcases List.mem_append.1 hy with hy | hy
    · exact h3 y hy
    · rw [List.mem_singleton.1 hy]; exact hx
  · simp only [if_neg hz]
    refine ⟨h1, ?_, h3⟩
    simp only [stepS, if_neg hz]
theorem pS_scalar {st : List Pt} {x : Ev} (hz : stepE st x = 0) (hk : x.k = 1 ∨ x.k = 2 ∨ x.k = 3 ∨ x.k = 4 ∨ x.k = 8 ∨ x.k = 11) : (stepS st x).length = st.length ∧ ∀ p r, stepS st x = p :: r → p.last ≠ 0 := by
  unfold stepS
  rw [if_pos hz]
  cases st with
  | nil => simp [stepE] at hz
  | cons p r =>
    have he : endsK x.k = false := by unfold endsK; rw [decide_eq_false_iff_not]; omega
    have ho : opensK x.k = false := by unfold opensK; rw [decide_eq_false_iff_not]; omega
    simp only [goS, he, ho, if_false, Bool.false_eq_true]
    split
    · refine ⟨by simp, fun p' r' h => ?_⟩
      injection h with h _
      rw [← h]
      simp only
      omega
    · refine ⟨by simp, fun p' r' h => ?_⟩
      injection h with h _
      rw [← h]
      simp only
      omega
theorem pS_open {st : List Pt} {x : Ev} (hz : stepE st x = 0) (hk : x.k = 5 ∨ x.k = 7 ∨ x.k = 10) : (stepS st x).length = st.length + 1 := by
  unfold stepS
  rw [if_pos hz]
  cases st with
  | nil => simp [stepE] at hz
  | cons p r =>
    have he : endsK x.k = false := by unfold endsK; rw [decide_eq_false_iff_not]; omega
    have ho : opensK x.k = true := by unfold opensK; rw [decide_eq_true_iff]; omega
    simp [goS, he, ho]
theorem pS_end {st : List Pt} {x : Ev} (hg : Good st) (hz : stepE st x = 0) (hk : x.k = 6 ∨ x.k = 9 ∨ x.k = 12) : (stepS st x).length + 1 = st.length ∧ ∀ p r, stepS st x = p :: r → p.last ≠ 0 := by
  obtain ⟨p, r, rfl⟩ := hg.ne
  obtain ⟨hf, hc⟩ := cont_of hz
  have he : endsK x.k = true := by unfold endsK; rw [decide_eq_true_iff]; omega
  unfold stepS
  rw [if_pos hz]
  simp only [goS, he, if_true]
  refine ⟨by simp, fun q r' h => ?_⟩
  subst h
  have := hg.1.2.1
  unfold opensK at this
  rw [decide_eq_true_iff] at this
  omega
theorem done_one {st : List Pt} (hl : st.length = 1) (h : ∀ p r, st = p :: r → p.last ≠ 0) : doneB st = true := by
  match hst : st, hl with
  | [p], _ => simpa [doneB] using h p [] rfl
theorem uses_facts {k d a c : Int} (h : usesP k d = some (a, c)) : (a = 0 ∧ d = 4 ∧ c = 5) ∨ (a = 11 ∧ d = 5 ∧ c = 3) ∨ (a = 10 ∧ d = 2 ∧ c = 3) ∨ ((a = 4 ∨ a = 8) ∧ d ≠ 2 ∧ ((c = 7 ∧ k = 0) ∨ c = 0 ∨ c = 1 ∨ c = 6)) := by
  unfold usesP at h
  repeat' split at h
  all_goals
    first
      | (cases h; done)
      | (simp only [Option.some.injEq, Prod.mk.injEq] at h; obtain ⟨rfl, rfl⟩ := h; omega)
def pd (d : Int) : Nat := if d = 2 then 1 else 0
theorem pd_n {d : Int} (h : d ≠ 2) : pd d = 0 := if_neg h
theorem pd_2 : pd 2 = 1 := rfl
structure PMc (m : Pm) (n : Nat) : Prop where
  opn : m.op.length ≤ n + 1
  hd : ∃ r, m.op = 0 :: r ∧ ∀ k ∈ r, k = 5 ∨ k = 7 ∨ k = 10
  wi : 0 ≤ m.wi ∧ m.wi ≤ 4
  du : 0 ≤ m.du ∧ m.du ≤ 7
  str : m.wi = 4 → usesP (topI m.op) m.du = some (m.uk, m.un)
  mrk : m.wi = 2 → anyP m = true ∨ (topI m.op = 10 ∧ endP m = true)
  nb : m.wi = 3 → anyP m = true
  nml : m.nm.size ≤ 30
  atl : m.at'.size ≤ 48
  qi : Qt.QInv m.q
  sag : m.sa = [] ∨ Good m.sa
  sae : m.du = 3 ∨ m.du = 4 ∨ m.du = 5 → m.sa ≠ []
/-- What holds ahead of each byte. -/
structure PIn (s : Ps) (n : Nat) : Prop where
  good : Good s.st
  ln : s.l.length ≤ 2 * n
  mc : PMc s.m n
  dep : s.st.length + pd s.m.du = s.m.op.length
  d7 : s.m.du = 7 → doneB s.st = true
  tk : TkQ s
def PO2 (r : Pr) (n : Nat) : Prop := TkQ r.b ∧ r.b.l.length ≤ 2 * n ∧ (r.e = 0 → PIn r.b n)
theorem op_cases {op : List Int} (h : ∃ r, op = 0 :: r ∧ ∀ k ∈ r, k = 5 ∨ k = 7 ∨ k = 10) : (op = [0] ∧ topI op = 0) ∨ ∃ r' k, op = (0 :: r') ++ [k] ∧ (k = 5 ∨ k = 7 ∨ k = 10) ∧ (∀ j ∈ r', j = 5 ∨ j = 7 ∨ j = 10) ∧ topI op = k := by
  obtain ⟨r, rfl, hr⟩ := h
  rcases List.eq_nil_or_concat r with rfl | ⟨r', k, rfl⟩
  · exact .inl ⟨rfl, rfl⟩
  · right
    rw [List.concat_eq_append] at *
    refine ⟨r', k, by simp, hr k (by simp), fun j hj => hr j (by simp [hj]), ?_⟩
    unfold topI
    rw [← List.cons_append, List.getLastD_concat]
theorem PMc.kind {m : Pm} {n : Nat} (h : PMc m n) : kindI (topI m.op) := by
  rcases op_cases h.hd with ⟨_, e⟩ | ⟨r, k, _, hk, _, e⟩
  · exact .inl e
  · rw [e]; rcases hk with h | h | h
    · exact .inr (.inl h)
    · exact .inr (.inr (.inl h))
    · exact .inr (.inr (.inr h))
theorem PMc.ne {m : Pm} {n : Nat} (h : PMc m n) : m.op ≠ [] := by obtain ⟨r, e, _⟩ := h.hd; rw [e]; simp
theorem PMc.ne2 {m : Pm} {n : Nat} (h : PMc m n) : m.op.dropLast ≠ [] ∨ topI m.op = 0 := by
  rcases op_cases h.hd with ⟨_, e⟩ | ⟨r, k, e, _⟩
  · exact .inr e
  · left; rw [e, List.dropLast_concat]; simp
theorem PMc.mono {m : Pm} {n k : Nat} (h : PMc m n) (hk : n ≤ k) : PMc m k := ⟨by have := h.opn; omega, h.hd, h.wi, h.du, h.str, h.mrk, h.nb, h.nml, h.atl, h.qi, h.sag, h.sae⟩
theorem pin_mono {s : Ps} {n k : Nat} (h : PIn s n) (hk : n ≤ k) : PIn s k := ⟨h.good, by have := h.ln; omega, h.mc.mono hk, h.dep, h.d7, h.tk⟩
theorem PO2.mono {r : Pr} {n k : Nat} (h : PO2 r n) (hk : n ≤ k) : PO2 r k := ⟨h.1, by have := h.2.1; omega, fun e => pin_mono (h.2.2 e) hk⟩
/-- No token is open. -/
theorem PMc.idle {m m' : Pm} {n k : Nat} (h : PMc m n) (hop : m'.op.length ≤ k + 1) (hhd : ∃ r, m'.op = 0 :: r ∧ ∀ k ∈ r, k = 5 ∨ k = 7 ∨ k = 10) (hw : m'.wi = 0) (hd : 0 ≤ m'.du ∧ m'.du ≤ 7) (hn : m'.nm.size ≤ 30) (ha : m'.at'.size ≤ 48) (hq : Qt.QInv m'.q) (hs : m'.sa = [] ∨ Good m'.sa) (he : m'.du = 3 ∨ m'.du = 4 ∨ m'.du = 5 → m'.sa ≠ []) : PMc m' k :=
  ⟨hop, hhd, by omega, hd, fun e => by omega, fun e => by omega, fun e => by omega, hn, ha, hq, hs, he⟩
section
variable {s : Ps} {n : Nat}
theorem po2_err (h : PIn s n) {r : Pr} (he : r.e ≠ 0) (hst : r.b.st = s.st) (hl : r.b.l = s.l) : PO2 r (n + 1) := by
  have := h.ln
  exact ⟨⟨by rw [hl]; exact h.tk.ok, by rw [hst, hl]; exact h.tk.run, by rw [hl]; exact h.tk.sz⟩, by rw [hl]; omega, fun e => absurd e he⟩
/-- The machine turns, and nothing is told. -/
theorem po2_turn (h : PIn s n) {r : Pr} (hst : r.b.st = s.st) (hl : r.b.l = s.l) (hm : PMc r.b.m (n + 1)) (hdep : r.b.m.op.length + pd s.m.du = s.m.op.length + pd r.b.m.du) (h7 : r.b.m.du = 7 → s.m.du = 7) : PO2 r (n + 1) := by
  have := h.ln
  have := h.dep
  have ht : TkQ r.b := ⟨by rw [hl]; exact h.tk.ok, by rw [hst, hl]; exact h.tk.run, by rw [hl]; exact h.tk.sz⟩
  exact ⟨ht, by rw [hl]; omega, fun _ => ⟨by rw [hst]; exact h.good, by rw [hl]; omega, hm, by rw [hst]; omega, fun e => by rw [hst]; exact h.d7 (h7 e), ht⟩⟩
theorem po2_tell (h : PIn s n) (M : Pm) (x : Ev) (hx : okE x) (hm : PMc M (n + 1)) (hdep : stepE s.st x = 0 → (stepS s.st x).length + pd M.du = M.op.length) (h7 : stepE s.st x = 0 → M.du = 7 → doneB (stepS s.st x) = true) : PO2 (tellP M s.st s.l x) (n + 1) := by
  have htk := tkq_tell h.tk M hx
  have h1 := tellL_len s.st s.l x
  have h2 := h.ln
  exact ⟨htk, by simp only [tellP]; omega, fun hz => ⟨good_step h.good x, by simp only [tellP]; omega, hm, hdep hz, h7 hz, htk⟩⟩
theorem po2_scalar (h : PIn s n) (M : Pm) (x : Ev) (hk : x.k = 1 ∨ x.k = 2 ∨ x.k = 3 ∨ x.k = 4 ∨ x.k = 8 ∨ x.k = 11) (ht : x.t.size ≤ 48) (hv : x.v.size ≤ 48) (hm : PMc M (n + 1)) (hop : M.op = s.m.op) (hs : s.m.du ≠ 2) (hdu : M.du ≠ 2) (h7 : M.du = 7 → topI s.m.op = 0) : PO2 (tellP M s.st s.l x) (n + 1) := by
  have hdep := h.dep
  rw [pd_n hs] at hdep
  refine po2_tell h M x (okE_p (by omega) ht hv) hm (fun hz => ?_) (fun hz h' => ?_)
  · rw [(pS_scalar hz hk).1, pd_n hdu, hop]; exact hdep
  · obtain ⟨e1, e2⟩ := pS_scalar hz hk
    refine done_one ?_ e2
    rw [e1]
    have h0 := h7 h'
    rcases op_cases h.mc.hd with ⟨e, _⟩ | ⟨r, k, _, hk, _, e⟩
    · rw [e] at hdep; simpa using hdep
    · rw [h0] at e; omega
theorem veP_7 {op : List Int} (h : veP op = 7) : topI op = 0 := by unfold veP at h; split at h; assumption; omega
theorem veP_2 (op : List Int) : veP op ≠ 2 ∧ 0 ≤ veP op ∧ veP op ≤ 7 ∧ (veP op = 0 ∨ veP op = 7) := by unfold veP; split <;> omega
theorem any_du {m : Pm} (h : anyP m = true) : m.du = 0 ∨ m.du = 1 := by
  unfold anyP at h
  split at h
  · rw [decide_eq_true_iff] at h; exact .inl h
  · split at h
    · rw [decide_eq_true_iff] at h; exact .inr h
    · cases h
theorem end_du {m : Pm} (h : endP m = true) : (m.du = 0 ∨ m.du = 3 ∨ m.du = 6) ∧ topI m.op ≠ 0 := by
  unfold endP at h; rw [decide_eq_true_iff] at h; exact h
theorem po2_sc (h : PIn s n) (s' : Ps) (hst : s'.st = s.st) (hl : s'.l = s.l) (hop : s'.m.op = s.m.op) (hw : s'.m.wi = 0) (hn : s'.m.nm.size ≤ 30) (ha : s'.m.at' = s.m.at') (hq : s'.m.q = s.m.q) (hsa : s'.m.sa = s.m.sa) (hs : s.m.du ≠ 2) (x : Ev) (hk : x.k = 1 ∨ x.k = 2 ∨ x.k = 3) (ht : x.t.size ≤ 48) (hv : x.v.size ≤ 48) : PO2 (scalarP s' x) (n + 1) := by
  have hv2 := veP_2 s'.m.op
  have := h.mc.opn
  unfold scalarP
  rw [hst, hl]
  refine po2_scalar h _ x (by omega) ht hv (h.mc.idle (by simp only [hop]; omega) (by rw [hop]; exact h.mc.hd) hw ⟨hv2.2.1, hv2.2.2.1⟩ hn (by simp only [ha]; exact h.mc.atl) (by simp only [hq]; exact h.mc.qi) (by simp only [hsa]; exact h.mc.sag) (fun e => by simp only at e; omega)) hop hs hv2.1 (fun e => by rw [← hop]; exact veP_7 e)
theorem po2_inner (h : PIn s n) (s' : Ps) (hst : s'.st = s.st) (hl : s'.l = s.l) (hop : s'.m.op = s.m.op) (hw : s'.m.wi = 0) (hn : s'.m.nm = s.m.nm) (ha : s'.m.at' = s.m.at') (hq : s'.m.q = s.m.q) (hsa : s'.m.sa = s.m.sa) (hs : s.m.du ≠ 2) (k : Int) (hk : k = 5 ∨ k = 7) : PO2 (innerP s' k) (n + 1) := by
  have := h.mc.opn
  have hdep := h.dep
  rw [pd_n hs] at hdep
  obtain ⟨r, e, hr⟩ := h.mc.hd
  unfold innerP
  rw [hst, hl]
  refine po2_tell h _ (bare k) (okE_p (by simp only [bare]; omega) (by simp [bare, ByteArray.size]) (by simp [bare, ByteArray.size])) (h.mc.idle (by simp only [hop, List.length_append, List.length_singleton]; omega) ⟨r ++ [k], by simp only [hop, e, List.cons_append], fun j hj => ?_⟩ hw (by simp) (by simp only [hn]; exact h.mc.nml) (by simp only [ha]; exact h.mc.atl) (by simp only [hq]; exact h.mc.qi) (by simp only [hsa]; exact h.mc.sag) (fun e => by simp only at e; omega)) (fun hz => ?_) (fun hz h' => by simp only at h'; omega)
  · rcases List.mem_append.1 hj with hj | hj
    · exact hr j hj
    · rw [List.mem_singleton.1 hj]; omega
  · rw [pS_open hz (by simp only [bare]; omega)]
    simp only [hop, List.length_append, List.length_singleton]
    rw [pd_n (by decide)]
    omega
theorem po2_elem (h : PIn s n) (s' : Ps) (hst : s'.st = s.st) (hl : s'.l = s.l) (hop : s'.m.op = s.m.op) (hw : s'.m.wi = 0) (hn : s'.m.nm = s.m.nm) (ha : s'.m.at' = s.m.at') (hq : s'.m.q = s.m.q) (hsa : s'.m.sa = s.m.sa) (hs : s.m.du ≠ 2) : PO2 (elemP s') (n + 1) := by
  have := h.mc.opn
  obtain ⟨r, e, hr⟩ := h.mc.hd
  unfold elemP
  split
  · exact po2_err h (show (5 : Int) ≠ 0 by decide) hst hl
  · refine po2_turn h hst hl (h.mc.idle (by simp only [hop, List.length_append, List.length_singleton]; omega) ⟨r ++ [10], by simp only [hop, e, List.cons_append], fun j hj => ?_⟩ hw (by simp) (by simp only [hn]; exact h.mc.nml) (by simp only [ha]; exact h.mc.atl) (by simp only [hq]; exact h.mc.qi) (by simp only [hsa]; exact h.mc.sag) (fun e => by simp only at e; omega)) ?_ (fun e => by simp only at e; omega)
    · rcases List.mem_append.1 hj with hj | hj
      · exact hr j hj
      · rw [List.mem_singleton.1 hj]; omega
    · simp only [hop, List.length_append, List.length_singleton]
      rw [pd_n hs, pd_2]
theorem po2_close (h : PIn s n) (hw : s.m.wi = 0) (hE : endP s.m = true) : PO2 (closeP s) (n + 1) := by
  obtain ⟨hdu, ht⟩ := end_du hE
  have hdep := h.dep
  rw [pd_n (by omega)] at hdep
  have := h.mc.opn
  have hv2 := veP_2 s.m.op.dropLast
  rcases op_cases h.mc.hd with ⟨_, e⟩ | ⟨r, k, e, hk, hr, etop⟩
  · exact absurd e ht
  have hdl : s.m.op.dropLast = 0 :: r := by rw [e, List.dropLast_concat]
  have hlen : s.m.op.length = r.length + 2 := by rw [e]; simp
  have hek : endK (topI s.m.op) = 6 ∨ endK (topI s.m.op) = 9 ∨ endK (topI s.m.op) = 12 := by unfold endK; split; exact .inl rfl; split; exact .inr (.inl rfl); exact .inr (.inr rfl)
  unfold closeP
  refine po2_tell h _ (bare (endK (topI s.m.op))) (okE_p (by simp only [bare]; omega) (by simp [bare, ByteArray.size]) (by simp [bare, ByteArray.size])) (h.mc.idle (by simp only [hdl, List.length_cons]; omega) ⟨r, hdl, hr⟩ hw ⟨hv2.2.1, hv2.2.2.1⟩ h.mc.nml h.mc.atl h.mc.qi h.mc.sag (fun e => by simp only at e; omega)) (fun hz => ?_) (fun hz h' => ?_)
  · have := (pS_end h.good hz hek).1
    rw [pd_n hv2.1]
    simp only [hdl, List.length_cons]
    omega
  · obtain ⟨e1, e2⟩ := pS_end h.good hz hek
    refine done_one ?_ e2
    have h0 := veP_7 h'
    rw [hdl] at h0
    rcases op_cases (op := 0 :: r) ⟨r, rfl, hr⟩ with ⟨e', _⟩ | ⟨r', k', _, hk', _, e'⟩
    · injection e' with _ e'
      rw [e'] at hlen
      simp only [List.length_nil] at hlen
      omega
    · rw [h0] at e'; omega
end
end Go.Proofs.YtmimadkepflmlaaGreatDoor

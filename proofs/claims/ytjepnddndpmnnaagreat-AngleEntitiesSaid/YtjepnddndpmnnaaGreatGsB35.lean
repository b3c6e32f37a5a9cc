/-
  stream: what was told is a run of the events' machine; when the end is OK it is a document: for any machine of which it holds step by step. No program is read here.
  angle: a new machine; what was told is a run.
  How deep an event leaves one. No program is read here.
  angle: what was told is a run, as deep as the open elements; behind the element it is a document.
-/
import Derived.Test.YtjepnddndpmnnaaGreatGsB16
import Derived.Test.YtjepnddndpmnnaaGreatGsB15
import Derived.Test.YtjepnddndpmnnaaGreatGsB34
namespace Go.Proofs.YtjepnddndpmnnaaGreat
set_option maxRecDepth 100000
set_option linter.unusedSimpArgs false
set_option linter.unusedVariables false
set_option linter.unusedSectionVars false
variable [Tab] [Fo]

/-- What was told is a run. -/
structure TkM (M : MachP) (x : M.σ) : Prop where
  ok : allOk [topP] (M.l x)
  run : M.st x = runS [topP] (M.l x)
  sz : ∀ e ∈ M.l x, okE e
structure MachW (M : MachP) where
  PI : M.σ → Prop
  tk : ∀ {x}, PI x → TkM M x
  pi0 : PI M.x0
  step : ∀ {x n} b, PI x → M.Inv x n → TkM M (M.stp x b) ∧ (M.ste x b = 0 → PI (M.stp x b))
  fin : ∀ {x n}, PI x → M.Inv x n → TkM M (M.fin x) ∧ (M.fne x = 0 → doneB (M.st (M.fin x)) = true)
  len : ∀ {x n}, M.Inv x n → (M.l (M.fin x)).length ≤ 2 * n + 8
variable {M : MachP} (F : MachW M)
structure FI (x : Ss M) (k : Nat) : Prop where
  tk : TkM M x.b
  pi : x.e = 0 → F.PI x.b
  rd : x.e = 0 → x.rd = k
theorem fi_feed1 {x : Ss M} {k : Nat} (h : FI F x k) (hi : SInv x k) (c : UInt8) : FI F (feed1 x c) (k + 1) := by
  unfold feed1
  split
  · rename_i he; exact ⟨h.tk, fun h0 => absurd h0 he, fun h0 => absurd h0 he⟩
  · rename_i he
    have he' : x.e = 0 := by simpa using he
    split
    · have hp := F.step c (h.pi he') (hi.b he')
      exact ⟨hp.1, hp.2, fun h0 => by have h0' : M.ste x.b c = 0 := h0; simp only [if_pos h0']; rw [h.rd he']⟩
    · exact ⟨h.tk, fun h0 => absurd (show (3 : Int) = 0 from h0) (by decide), fun h0 => absurd (show (3 : Int) = 0 from h0) (by decide)⟩
theorem fi_feedG : ∀ (l : List UInt8) (x : Ss M) (k : Nat), FI F x k → SInv x k → FI F (feedG x l) (k + l.length)
  | [], _, _, h, _ => h
  | c :: l, x, k, h, hi => by
    have := fi_feedG l (feed1 x c) (k + 1) (fi_feed1 F h hi c) (sinv_feed1 hi c)
    rw [feedG_cons, List.length_cons]
    rwa [show k + (l.length + 1) = k + 1 + l.length from by omega]
theorem fi0 : FI F (ss0 M) 0 := ⟨F.tk F.pi0, fun _ => F.pi0, fun _ => rfl⟩
/-- All of a text. -/
theorem text_facts (F : MachW M) (bs : List UInt8) : (M.l (closeBs (feedG (ss0 M) bs))).length ≤ 4 * bs.length + 8 ∧ (feedG (ss0 M) bs).rd ≤ bs.length ∧ (closeE (feedG (ss0 M) bs) = 0 → (feedG (ss0 M) bs).rd = bs.length)
    ∧ (∀ x ∈ (M.l (closeBs (feedG (ss0 M) bs))), okE x)
    ∧ wholeGo 0 [topP] (M.l (closeBs (feedG (ss0 M) bs))) = ((M.l (closeBs (feedG (ss0 M) bs))).length, if doneB (M.st (closeBs (feedG (ss0 M) bs))) then 0 else 19)
    ∧ (closeE (feedG (ss0 M) bs) = 0 → doneB (M.st (closeBs (feedG (ss0 M) bs))) = true) := by
  have hf := fi_feedG F bs (ss0 M) 0 (fi0 F) sinv0
  have hs := sinv_feedG bs (ss0 M) 0 sinv0
  rw [Nat.zero_add] at hf hs
  generalize feedG (ss0 M) bs = y at *
  have hE : TkM M (closeBs y) ∧ (closeE y = 0 → y.e = 0 ∧ doneB (M.st (closeBs y)) = true) := by
    unfold closeE closeBs endE endBs
    by_cases he : y.e = 0
    · by_cases hz : y.sl = 0
      · simp only [he, hz, ne_eq, not_true_eq_false, if_false, if_true, true_and]
        have := F.fin (hf.pi he) (hs.b he)
        exact ⟨this.1, fun h => this.2 h⟩
      · simp only [he, hz, ne_eq, not_true_eq_false, if_false, true_and]
        exact ⟨hf.tk, fun h => absurd h (by decide)⟩
    · simp only [he, ne_eq, not_false_eq_true, if_true, false_and]
      exact ⟨hf.tk, fun h => h⟩
  have hlen : (M.l (closeBs y)).length ≤ 4 * bs.length + 8 := by
    have h2 := hs.ln
    unfold closeBs endBs
    split
    · omega
    · rename_i he
      have h1 := F.len (hs.b (by simpa using he))
      split <;> omega
  refine ⟨hlen, hs.rd, fun h => hf.rd (hE.2 h).1, hE.1.sz, ?_, fun h => (hE.2 h).2⟩
  rw [whole_of hE.1.ok, ← hE.1.run]
end Go.Proofs.YtjepnddndpmnnaaGreat
namespace Go.Proofs.YtjepnddndpmnnaaGreat
open Go.RowKit Go.Maps
set_option maxRecDepth 100000
set_option linter.unusedSimpArgs false
set_option linter.unusedVariables false
set_option linter.unusedSectionVars false
set_option linter.unusedSectionVars false
variable [Tab] [Fo]

/-- A machine that has read nothing. -/
def araw (w : World) (base m : Nat) : Prop := ∃ e mb g av ov S, AgAt w base m ag0 e g av ov ∧ XAt w base S e mb g [] 0 []
theorem araw.below {w w' : World} {base m : Nat} (h : araw w base m) (hb : Below w.heap.size w w') : araw w' base m := by
  obtain ⟨e, mb, g, av, ov, S, h1, h2⟩ := h
  exact ⟨e, mb, g, av, ov, S, h1.below hb, h2.keep hb.size fun k q _ hq => (hb.block k (heap_lt hq)).trans hq⟩
set_option maxHeartbeats 4000000 in
theorem agnew_any (w : World) (hfl : Fo.lim ≤ w.heap.size) : Calls Tryz.prog 19 #[] w fun e w' => ∃ m, e = .returned (.pointer (some ⟨m, 0, none⟩)) ∧ araw w' w.heap.size m ∧ Below w.heap.size w w' := by
  have hE := enew_any w
  have hS := Lib.hid (fun (w1 : World) (hb : w.heap.size ≤ w1.heap.size) => Ns.snew_any w1 w.heap.size hb)
  go_enter Tryz.func19, Tryz.ntmps19
  go_wp2_with fail
  refine hE.mono ?_
  rintro E w1 ⟨e, mb, rfl, he, hmb, hEn, hb1⟩
  have HE := Lib.hid (And.intro hEn (And.intro he (And.intro hmb hb1)))
  clear hE hEn hb1
  go_wp2_with fail
  refine (hS.out w1 HE.out.2.2.2.size).mono ?_
  rintro E w2 ⟨rfl, hSc, hb2⟩
  have HS := Lib.hid (And.intro hSc hb2)
  clear hSc hb2 hS he hmb
  go_wp2
  go_ret
  obtain ⟨hEn, he, hmb, hb1⟩ := HE.out
  obtain ⟨hSc, hb2⟩ := HS.out
  have al : Below w2.heap.size w2 (w2.alloc (.cells (agCells ag0 e w1.heap.size (.slice none 0 0) (.slice none 0 0)) 101)) := (Below.refl _ _).alloc (Nat.le_refl _) _
  have hb12 := hb1.trans (hb2.mono hb1.size)
  have hb3 := hb12.trans (al.mono hb12.size)
  obtain ⟨W, hW⟩ : ∃ W, w2.alloc (.cells (agCells ag0 e w1.heap.size (.slice none 0 0) (.slice none 0 0)) 101) = W := ⟨_, rfl⟩
  have hk : Blk W w2.heap.size 101 (agCells ag0 e w1.heap.size (.slice none 0 0) (.slice none 0 0)) := by rw [← hW]; exact Blk.new w2 _ _
  rw [hW] at al hb3
  have hEn3 : EnAt W e mb [] 0 := (hEn.below hb2).below al
  have hS3 := hSc.below al
  have hel := hEn.blk.lt
  have hml := hEn.map.lt
  have hmin := hS3.min
  have hsz := hb2.size
  have hsz3 := al.size
  have G : araw W w.heap.size w2.heap.size ∧ Below w.heap.size w W := by
   refine ⟨⟨e, mb, w1.heap.size, .slice none 0 0, .slice none 0 0, fun k => Ns.sCut (fun k => w1.heap.size ≤ k ∧ k < w2.heap.size) W k ∨ k = e ∨ k = mb, ⟨hk, ⟨rfl, .inl ⟨rfl, rfl⟩⟩, ⟨rfl, .inl ⟨rfl, rfl⟩⟩, NF.nil, NF.nil, hb12.size, nf_new (Nat.le_trans hfl hb12.size), Nat.le_trans hfl hb3.size⟩, ⟨?_, ?_, hEn3, .inr (.inl rfl), .inr (.inr rfl), ?_⟩⟩, ?_⟩
   · rintro k (hk | rfl | rfl)
     · have := hk.1.2; omega
     · omega
     · omega
   · rintro k (hk | rfl | rfl)
     · have h1 := hk.1.1
       have h0 := hb1.size
       exact ⟨by omega, nf_new (by omega), fun q hq => .inl (hk.2 q hq)⟩
     · refine ⟨he, nf_new (by omega), fun q hq => ?_⟩
       have := hEn3.blk
       unfold Blk at this
       rw [this] at hq
       injection hq with hq
       rw [← hq]
       exact .inr rfl
     · refine ⟨hmb, nf_new (by omega), fun q hq => ?_⟩
       obtain ⟨es, c, hm⟩ := hEn3.map.obj
       rw [hm] at hq
       injection hq with hq
       rw [← hq]
       exact .inl trivial
   · refine hmin.mono (fun k hk => ?_) fun k q _ hk _ => ⟨.inl hk, ?_, ?_⟩
     · rcases hk.1 with h1 | rfl | rfl
       · have := h1.1.2; omega
       · omega
       · omega
     · have := hk.1.1; omega
     · have := hk.1.1; omega
   · exact hb3
  subst hW
  exact ⟨w2.heap.size, rfl, G⟩

/-! What was told is a run. -/
theorem okE_st {st : List Pt} {e : Ev} (h : stepE st e = 0) (ht : e.t.size ≤ 1000) : okE e := by
  cases st with
  | nil => exact absurd (show (19 : Int) = 0 from h) (by decide)
  | cons q r =>
    obtain ⟨hf, _⟩ := cont_of h
    have ez : ∀ s : ByteArray, emptyT s = true → s.size = 0 := fun s hs => by
      unfold emptyT at hs
      have := of_decide_eq_true hs
      have h2 : s.data.toList.length = 0 := by rw [this]; rfl
      have h3 : s.size = s.data.toList.length := by simp
      omega
    have h3 : ∀ s : ByteArray, s.size = s.data.toList.length := fun s => by simp
    unfold formedB at hf
    split at hf
    · rename_i hb
      rw [Bool.and_eq_true] at hf
      have := ez _ hf.2
      unfold bareK at hb
      have := of_decide_eq_true hb
      exact ⟨by omega, by omega, by omega, by omega⟩
    · split at hf
      · rw [Bool.and_eq_true] at hf; have := ez _ hf.1; exact ⟨by omega, by omega, by omega, by omega⟩
      · split at hf
        · rw [Bool.and_eq_true] at hf; have := ez _ hf.1; exact ⟨by omega, by omega, by omega, by omega⟩
        · split at hf
          · rw [Bool.and_eq_true] at hf; have := ez _ hf.1; exact ⟨by omega, by omega, by omega, by omega⟩
          · split at hf
            · rw [Bool.and_eq_true] at hf; have := ez _ hf.1; exact ⟨by omega, by omega, by omega, by omega⟩
            · split at hf
              · rw [Bool.and_eq_true] at hf
                have h4 := hf.1
                unfold validL at h4
                rw [Bool.and_eq_true] at h4
                have := of_decide_eq_true h4.1
                have := h3 e.v
                exact ⟨by omega, by omega, by omega, by omega⟩
              · cases hf
/-- What was told is a run of the events' machine. -/
structure TkA (s : As) : Prop where
  ok : allOk [topP] s.l
  run : s.st = runS [topP] s.l
  sz : ∀ x ∈ s.l, okE x
  good : Good s.st
theorem tka0 : TkA as0 := ⟨trivial, rfl, fun x hx => (by cases hx), good0⟩
theorem TkA.m {s : As} (h : TkA s) (M : Ag) : TkA { s with m := M } := ⟨h.ok, h.run, h.sz, h.good⟩
theorem TkA.of {s t : As} (h : TkA s) (h1 : t.st = s.st) (h2 : t.l = s.l) : TkA t := by
  obtain ⟨m, st, l⟩ := s
  obtain ⟨m', st', l'⟩ := t
  simp only at h1 h2
  subst h1 h2
  exact ⟨h.ok, h.run, h.sz, h.good⟩
theorem tka_tell {s : As} (h : TkA s) {x : Ev} (hx : x.t.size ≤ 1000) : TkA (tellA s x).b := by
  obtain ⟨m, st, l⟩ := s
  obtain ⟨h1, h2, h3, h4⟩ := h
  simp only at h1 h2 h3 h4
  have hg := good_step h4 x
  subst h2
  unfold tellA tellL
  by_cases hz : stepE (runS [topP] l) x = 0
  · have hok := okE_st hz hx
    simp only [if_pos hz]
    refine ⟨(allOk_snoc _ _ _).2 ⟨h1, hz⟩, (runS_snoc _ _ _).symm, fun y hy => ?_, hg⟩
    rcases List.mem_append.1 hy with hy | hy
    · exact h3 y hy
    · rw [List.mem_singleton.1 hy]; exact hok
  · simp only [if_neg hz]
    refine ⟨h1, ?_, h3, hg⟩
    simp only [stepS, if_neg hz]
end Go.Proofs.YtjepnddndpmnnaaGreat
namespace Go.Proofs.YtjepnddndpmnnaaGreat
set_option maxRecDepth 100000
set_option linter.unusedSimpArgs false
set_option linter.unusedVariables false
set_option linter.unusedSectionVars false
variable [Tab] [Fo]

theorem pS_scalar {st : List Pt} {x : Ev} (hz : stepE st x = 0) (hk : x.k = 1 ∨ x.k = 2 ∨ x.k = 3 ∨ x.k = 4 ∨ x.k = 8 ∨ x.k = 11) : (stepS st x).length = st.length ∧ ∀ p r, stepS st x = p :: r → p.last ≠ 0 := by
  unfold stepS
  rw [if_pos hz]
  cases st with
  | nil => simp [stepE] at hz
  | cons p r =>
    have he : endsK x.k = false := by unfold endsK; rw [decide_eq_false_iff_not]; omega
    have ho : opensK x.k = false := by unfold opensK; rw [decide_eq_false_iff_not]; omega
    simp only [goS, he, ho, if_false, Bool.false_eq_true]
    split
    · refine ⟨by simp, fun p' r' h => ?_⟩
      injection h with h _
      rw [← h]
      simp only
      omega
    · refine ⟨by simp, fun p' r' h => ?_⟩
      injection h with h _
      rw [← h]
      simp only
      omega
theorem pS_open {st : List Pt} {x : Ev} (hz : stepE st x = 0) (hk : x.k = 5 ∨ x.k = 7 ∨ x.k = 10) : (stepS st x).length = st.length + 1 := by
  unfold stepS
  rw [if_pos hz]
  cases st with
  | nil => simp [stepE] at hz
  | cons p r =>
    have he : endsK x.k = false := by unfold endsK; rw [decide_eq_false_iff_not]; omega
    have ho : opensK x.k = true := by unfold opensK; rw [decide_eq_true_iff]; omega
    simp [goS, he, ho]
theorem pS_end {st : List Pt} {x : Ev} (hg : Good st) (hz : stepE st x = 0) (hk : x.k = 6 ∨ x.k = 9 ∨ x.k = 12) : (stepS st x).length + 1 = st.length ∧ ∀ p r, stepS st x = p :: r → p.last ≠ 0 := by
  obtain ⟨p, r, rfl⟩ := hg.ne
  obtain ⟨hf, hc⟩ := cont_of hz
  have he : endsK x.k = true := by unfold endsK; rw [decide_eq_true_iff]; omega
  unfold stepS
  rw [if_pos hz]
  simp only [goS, he, if_true]
  refine ⟨by simp, fun q r' h => ?_⟩
  subst h
  have := hg.1.2.1
  unfold opensK at this
  rw [decide_eq_true_iff] at this
  omega
theorem done_one {st : List Pt} (hl : st.length = 1) (h : ∀ p r, st = p :: r → p.last ≠ 0) : doneB st = true := by
  match hst : st, hl with
  | [p], _ => simpa [doneB] using h p [] rfl
end Go.Proofs.YtjepnddndpmnnaaGreat
namespace Go.Proofs.YtjepnddndpmnnaaGreat
open Go.RowKit Go.Maps
set_option maxRecDepth 100000
set_option linter.unusedSimpArgs false
set_option linter.unusedVariables false
set_option linter.unusedSectionVars false
set_option linter.unusedSectionVars false
variable [Tab] [Fo]

structure PA (s : As) : Prop where
  tk : TkA s
  dep : s.st.length = s.m.op.length + 1
  d18 : s.m.a = 18 → doneB s.st = true
def R2 (r : Ar) : Prop := TkA r.b ∧ (r.e = 0 → PA r.b)
section
variable {s : As} {n : Nat} {b : UInt8} {M : Ag}
theorem pa0 : PA as0 := ⟨tka0, rfl, fun hc => absurd (show (0 : Int) = 18 from hc) (by decide)⟩
theorem r2_q (h : PA s) {r : Ar} (h1 : r.b.st = s.st) (h2 : r.b.l = s.l) (h3 : r.b.m.op = s.m.op) (h4 : r.b.m.a = 18 → s.m.a = 18) : R2 r :=
  ⟨h.tk.of h1 h2, fun _ => ⟨h.tk.of h1 h2, by rw [h1, h3]; exact h.dep, fun q => by rw [h1]; exact h.d18 (h4 q)⟩⟩
/-- A call that tells nothing, and neither opens nor closes. -/
def Qu (M : Ag) (r : Mr) : Prop := r.m.op = M.op ∧ (r.m.a = 18 → M.a = 18)
theorem Qu.r2 (h : PA s) {r : Mr} (hq : Qu s.m r) : R2 (s.mr r) := r2_q h rfl rfl hq.1 hq.2
theorem qu_put (t : List UInt8) : Qu M (putR M t) := by unfold putR; split <;> exact ⟨rfl, id⟩
theorem qu_refer : Qu M (referA M b) := by
  unfold referA
  split
  · split <;> exact ⟨rfl, id⟩
  · split
    · exact ⟨rfl, id⟩
    · split
      · exact ⟨rfl, id⟩
      · exact qu_put (M := { M with rn := [], told := (getA M).told, rr := false }) _
theorem qu_add : Qu M (addR M b) := by
  unfold addR
  split
  · exact qu_refer
  · split
    · exact ⟨rfl, id⟩
    · split
      · exact ⟨rfl, id⟩
      · exact qu_put _
theorem qu_name : Qu M (nameAdd M b) := by
  unfold nameAdd
  split
  · split <;> exact ⟨rfl, id⟩
  · exact ⟨rfl, id⟩
theorem qu_must {c : Nat} {a : Int} (ha : a ≠ 18) : Qu M (mustA M b c a) := by
  unfold mustA
  split
  · exact ⟨rfl, id⟩
  · exact ⟨rfl, fun q => absurd q ha⟩
theorem qu_marked : Qu M (markedA M b) := by
  unfold markedA
  split
  · exact ⟨rfl, id⟩
  · split
    · exact ⟨rfl, fun q => absurd (show (3 : Int) = 18 from q) (by decide)⟩
    · exact ⟨rfl, id⟩
theorem qu_ent : Qu M (entNameA M b) := by
  unfold entNameA
  split
  · split <;> exact ⟨rfl, id⟩
  · split
    · exact ⟨rfl, id⟩
    · exact qu_must (M := { M with nmd := M.ent, ent := [] }) (by decide)

/-! Telling a name. -/
theorem tkN (h : TkA s) (el : Bool) (nm : Na) (v : List UInt8) : TkA (tellN s el nm v).b := by
  unfold tellN
  cases hf : fullA s.m.sc el nm with
  | none => exact h
  | some f =>
    refine tka_tell h ?_
    have : f.length ≤ 48 := by
      unfold fullA at hf
      cases hs : spaceA s.m.sc el nm with
      | none => rw [hs] at hf; cases hf
      | some sp => rw [hs] at hf; exact full_size hf
    show f.toArray.size ≤ 1000
    simp; omega
theorem tellN_dep (el : Bool) (nm : Na) (v : List UInt8) (he : (tellN s el nm v).e = 0) : (tellN s el nm v).b.st.length = s.st.length + (if el = true then 1 else 0) := by
  unfold tellN at he ⊢
  cases hf : fullA s.m.sc el nm with
  | none => rw [hf] at he; exact absurd (show (18 : Int) = 0 from he) (by decide)
  | some f =>
    rw [hf] at he
    cases el with
    | true => exact pS_open (x := ⟨10, bs f, bs v⟩) he (.inr (.inr rfl))
    | false => exact (pS_scalar (x := ⟨11, bs f, bs v⟩) he (.inr (.inr (.inr (.inr (.inr rfl)))))).1
theorem tkAts : ∀ (l : List (Na × List UInt8)) (s : As), TkA s → TkA (tellAts l s).b
  | [], s, h => h
  | a :: r, s, h => by
    rw [tellAts]
    by_cases h1 : (bindsA a.1).isSome = true
    · rw [if_pos h1]; exact tkAts r s h
    · rw [if_neg h1]
      by_cases h2 : (tellN s false a.1 a.2).e ≠ 0
      · rw [if_pos h2]; exact tkN h _ _ _
      · rw [if_neg h2]; exact tkAts r _ (tkN h _ _ _)
theorem tellAts_dep : ∀ (l : List (Na × List UInt8)) (s : As), (tellAts l s).e = 0 → (tellAts l s).b.st.length = s.st.length
  | [], s, _ => rfl
  | a :: r, s, he => by
    rw [tellAts] at he ⊢
    by_cases h1 : (bindsA a.1).isSome = true
    · rw [if_pos h1] at he ⊢; exact tellAts_dep r s he
    · rw [if_neg h1] at he ⊢
      by_cases h2 : (tellN s false a.1 a.2).e ≠ 0
      · rw [if_pos h2] at he; exact absurd he h2
      · rw [if_neg h2] at he ⊢
        rw [tellAts_dep r _ he, tellN_dep _ _ _ (by simpa using h2)]
        rfl
theorem r2_open (h : PA s) {a : Int} (ha : a ≠ 18) : R2 (openA (setAt s a)) := by
  unfold openA
  by_cases h1 : (bindAllA (setAt s a).m.ats ([] :: (setAt s a).m.sc)).e ≠ 0
  · rw [if_pos h1]
    exact ⟨h.tk.of rfl rfl, fun q => absurd q h1⟩
  · rw [if_neg h1]
    have hT : TkA { setAt s a with m := { opened (setAt s a).m with sc := (bindAllA (setAt s a).m.ats ([] :: (setAt s a).m.sc)).st } } := h.tk.of rfl rfl
    obtain ⟨X, hX⟩ : ∃ X : As, { setAt s a with m := { opened (setAt s a).m with sc := (bindAllA (setAt s a).m.ats ([] :: (setAt s a).m.sc)).st } } = X := ⟨_, rfl⟩
    have hXs : X.st = s.st := by rw [← hX]; rfl
    have hXo : X.m.op = s.m.op ++ [s.m.el] := by rw [← hX]; rfl
    have hXa : X.m.a = a := by rw [← hX]; rfl
    rw [hX] at hT ⊢
    unfold tellElemA
    by_cases h2 : (tellN X true X.m.el []).e ≠ 0
    · rw [if_pos h2]; exact ⟨tkN hT _ _ _, fun q => absurd q h2⟩
    · rw [if_neg h2]
      have h2' : (tellN X true X.m.el []).e = 0 := by simpa using h2
      by_cases h3 : (tellAts X.m.ats (tellN X true X.m.el []).b).e ≠ 0
      · rw [if_pos h3]; exact ⟨tkAts _ _ (tkN hT _ _ _), fun q => absurd q h3⟩
      · rw [if_neg h3]
        have h3' : (tellAts X.m.ats (tellN X true X.m.el []).b).e = 0 := by simpa using h3
        have hT3 := tkAts X.m.ats _ (tkN hT true X.m.el [])
        refine ⟨hT3.of rfl rfl, fun _ => ⟨hT3.of rfl rfl, ?_, fun q => ?_⟩⟩
        · show (tellAts X.m.ats (tellN X true X.m.el []).b).b.st.length = X.m.op.length + 1
          rw [tellAts_dep _ _ h3', tellN_dep _ _ _ h2', hXs, hXo, h.dep]
          simp
        · exact absurd (hXa.symm.trans q) ha
theorem r2_endattrs (h : PA s) : R2 (endAttrsA s b) := by
  unfold endAttrsA
  by_cases h1 : b.toNat = 47
  · rw [if_pos h1]; exact r2_open h (by decide)
  · rw [if_neg h1]
    by_cases h2 : b.toNat = 62
    · rw [if_pos h2]; exact r2_open h (by decide)
    · rw [if_neg h2]; exact r2_q h rfl rfl rfl id
theorem r2_behind (h : PA s) : R2 (behindAttrA s b) := by
  unfold behindAttrA
  by_cases h1 : blankB b = true
  · rw [if_pos h1]; exact r2_q h rfl rfl rfl (fun q => absurd (show (9 : Int) = 18 from q) (by decide))
  · rw [if_neg h1]; exact r2_endattrs h
theorem PA.quiet (h : PA s) {t : As} (h1 : t.st = s.st) (h2 : t.l = s.l) (h3 : t.m.op = s.m.op) (h4 : t.m.a = 18 → s.m.a = 18) : PA t := (r2_q h (r := ⟨t, 0⟩) h1 h2 h3 h4).2 rfl
theorem r2_inelem (h : PA s) : R2 (inElem s b) := by
  unfold inElem
  by_cases h1 : goesA s.m b = true
  · rw [if_pos h1]; exact qu_name.r2 h
  · rw [if_neg h1]
    by_cases h2 : s.m.nt = []
    · rw [if_pos h2]; exact r2_q h rfl rfl rfl id
    · rw [if_neg h2]; exact r2_behind (h.quiet rfl rfl rfl (fun q => absurd (show (8 : Int) = 18 from q) (by decide)))
theorem qu_equals : Qu M (equalsA M b) := by
  unfold equalsA
  split
  · exact ⟨rfl, id⟩
  · exact qu_must (by decide)
theorem r2_inattr (h : PA s) : R2 (inAttr s b) := by
  unfold inAttr
  by_cases h1 : goesA s.m b = true
  · rw [if_pos h1]; exact qu_name.r2 h
  · rw [if_neg h1]
    by_cases h2 : s.m.nt = []
    · rw [if_pos h2]; exact r2_q h rfl rfl rfl id
    · rw [if_neg h2]
      have hq : Qu { nameGone s.m with an := nameOf s.m, a := 11 } (equalsA { nameGone s.m with an := nameOf s.m, a := 11 } b) := qu_equals
      exact r2_q h rfl rfl hq.1 (fun q => absurd (show (11 : Int) = 18 from hq.2 q) (by decide))
theorem r2_endelem (h : PA s) (ho : s.m.op ≠ []) : R2 (endElemA s) := by
  unfold endElemA
  have hT : TkA { s with m := closedA s.m } := h.tk.m _
  refine ⟨tka_tell hT (by decide), fun he => ⟨tka_tell hT (by decide), ?_, fun q => ?_⟩⟩
  · have := (pS_end h.tk.good (x := bare 12) he (.inr (.inr rfl))).1
    show (stepS s.st (bare 12)).length = s.m.op.dropLast.length + 1
    rw [List.length_dropLast]
    have h2 := h.dep
    have h3 := List.length_pos_iff.2 ho
    omega
  · have hp := pS_end h.tk.good (x := bare 12) he (.inr (.inr rfl))
    have q' : (if s.m.op.dropLast = [] then (18 : Int) else 15) = 18 := q
    have hd : s.m.op.dropLast = [] := by
      by_cases hc : s.m.op.dropLast = []
      · exact hc
      · rw [if_neg hc] at q'; exact absurd q' (by decide)
    have hl : s.m.op.dropLast.length = 0 := by rw [hd]; rfl
    rw [List.length_dropLast] at hl
    have h2 := h.dep
    have h3 := List.length_pos_iff.2 ho
    show doneB (stepS s.st (bare 12)) = true
    exact done_one (by omega) hp.2
theorem r2_endtag (h : PA s) (ho : s.m.op ≠ []) : R2 (endTagA s b) := by
  unfold endTagA
  by_cases h1 : b.toNat ≠ 62
  · rw [if_pos h1]; exact r2_q h rfl rfl rfl id
  · rw [if_neg h1]
    by_cases h2 : s.m.en ≠ s.m.op.getLastD ⟨[], []⟩
    · rw [if_pos h2]; exact r2_q h rfl rfl rfl id
    · rw [if_neg h2]; exact r2_endelem h ho
theorem r2_inend (h : PA s) (ho : s.m.op ≠ []) : R2 (inEnd s b) := by
  unfold inEnd
  by_cases h1 : goesA s.m b = true
  · rw [if_pos h1]; exact qu_name.r2 h
  · rw [if_neg h1]
    by_cases h2 : s.m.nt = []
    · rw [if_pos h2]; exact r2_q h rfl rfl rfl id
    · rw [if_neg h2]
      have hI : PA { s with m := { nameGone s.m with en := nameOf s.m, a := 17 } } := h.quiet rfl rfl rfl (fun q => absurd (show (17 : Int) = 18 from q) (by decide))
      unfold atEnd
      by_cases h3 : blankB b = true
      · rw [if_pos h3]; exact ⟨hI.tk, fun _ => hI⟩
      · rw [if_neg h3]; exact r2_endtag hI ho
theorem r2_begin (h : PA s) : R2 (beginA s b) := by
  unfold beginA
  by_cases h1 : s.m.op = [] ∧ b.toNat = 33
  · rw [if_pos h1]
    have hq : Qu { s.m with a := 2, rest := markL } (markedA { s.m with a := 2, rest := markL } b) := qu_marked
    exact r2_q h rfl rfl hq.1 (fun q => absurd (show (2 : Int) = 18 from hq.2 q) (by decide))
  · rw [if_neg h1]
    by_cases h2 : s.m.op ≠ [] ∧ b.toNat = 47
    · rw [if_pos h2]; exact r2_q h rfl rfl rfl (fun q => absurd (show (16 : Int) = 18 from q) (by decide))
    · rw [if_neg h2]; exact r2_inelem (h.quiet rfl rfl rfl (fun q => absurd (show (7 : Int) = 18 from q) (by decide)))
theorem r2_content (h : PA s) (hr : s.m.rt.length ≤ 48) : R2 (contentA s b) := by
  unfold contentA
  by_cases h1 : endedA s.m b 60 = false
  · rw [if_pos h1]; exact qu_add.r2 h
  · rw [if_neg h1]
    by_cases h2 : s.m.rt = []
    · rw [if_pos h2]; exact r2_q h rfl rfl rfl (fun q => absurd (show (1 : Int) = 18 from q) (by decide))
    · rw [if_neg h2]
      have hT : TkA { s with m := { s.m with a := 1, rt := [] } } := h.tk.m _
      have hT2 := tka_tell hT (x := ⟨4, bs s.m.rt, ⟨#[]⟩⟩) (by show s.m.rt.toArray.size ≤ 1000; simp; omega)
      refine ⟨hT2, fun he => ⟨hT2, ?_, fun q => absurd (show (1 : Int) = 18 from q) (by decide)⟩⟩
      show (stepS s.st _).length = s.m.op.length + 1
      rw [(pS_scalar (x := ⟨4, bs s.m.rt, ⟨#[]⟩⟩) he (.inr (.inr (.inr (.inl rfl))))).1]
      exact h.dep
theorem r2_step (h : PA s) (hi : AInv s n) : R2 (stepA s b) := by
  have hM := hi.m
  unfold stepA
  by_cases hs : blankB b = true ∧ skipsA s.m.a = true
  · rw [if_pos hs]; exact r2_q h rfl rfl rfl id
  rw [if_neg hs]
  by_cases h0 : s.m.a = 0
  · rw [if_pos h0]; exact (qu_must (by decide)).r2 h
  rw [if_neg h0]
  by_cases h1 : s.m.a = 1
  · rw [if_pos h1]; exact r2_begin h
  rw [if_neg h1]
  by_cases h2 : s.m.a = 2
  · rw [if_pos h2]; exact qu_marked.r2 h
  rw [if_neg h2]
  by_cases h3 : s.m.a = 3
  · rw [if_pos h3]; exact qu_ent.r2 h
  rw [if_neg h3]
  by_cases h4 : s.m.a = 4
  · rw [if_pos h4]; exact (qu_must (by decide)).r2 h
  rw [if_neg h4]
  by_cases h5 : s.m.a = 5
  · rw [if_pos h5]
    have : Qu s.m (entTextA s.m b) := by
      unfold entTextA
      split
      · exact ⟨rfl, fun q => absurd (show (6 : Int) = 18 from q) (by decide)⟩
      · exact qu_add
    exact this.r2 h
  rw [if_neg h5]
  by_cases h6 : s.m.a = 6
  · rw [if_pos h6]
    have : Qu s.m (defineA s.m b) := by
      unfold defineA
      split
      · exact ⟨rfl, id⟩
      · exact ⟨rfl, fun q => absurd (show (0 : Int) = 18 from q) (by decide)⟩
    exact this.r2 h
  rw [if_neg h6]
  by_cases h7 : s.m.a = 7
  · rw [if_pos h7]; exact r2_inelem h
  rw [if_neg h7]
  by_cases h8 : s.m.a = 8
  · rw [if_pos h8]; exact r2_behind h
  rw [if_neg h8]
  by_cases h9 : s.m.a = 9
  · rw [if_pos h9]
    unfold beginAttrA
    by_cases q1 : b.toNat = 47 ∨ b.toNat = 62
    · rw [if_pos q1]; exact r2_endattrs h
    · rw [if_neg q1]; exact r2_inattr (h.quiet rfl rfl rfl (fun q => absurd (show (10 : Int) = 18 from q) (by decide)))
  rw [if_neg h9]
  by_cases h10 : s.m.a = 10
  · rw [if_pos h10]; exact r2_inattr h
  rw [if_neg h10]
  by_cases h11 : s.m.a = 11
  · rw [if_pos h11]; exact qu_equals.r2 h
  rw [if_neg h11]
  by_cases h12 : s.m.a = 12
  · rw [if_pos h12]; exact (qu_must (by decide)).r2 h
  rw [if_neg h12]
  by_cases h13 : s.m.a = 13
  · rw [if_pos h13]
    have : Qu s.m (attrTextA s.m b) := by
      unfold attrTextA
      split
      · exact ⟨rfl, fun q => absurd (show (8 : Int) = 18 from q) (by decide)⟩
      · exact qu_add
    exact this.r2 h
  rw [if_neg h13]
  by_cases h14 : s.m.a = 14
  · rw [if_pos h14]
    unfold endEmptyA
    by_cases q1 : b.toNat ≠ 62
    · rw [if_pos q1]; exact r2_q h rfl rfl rfl id
    · rw [if_neg q1]; exact r2_endelem h (hM.opn (.inl h14))
  rw [if_neg h14]
  by_cases h15 : s.m.a = 15
  · rw [if_pos h15]; exact r2_content h hM.rt
  rw [if_neg h15]
  by_cases h16 : s.m.a = 16
  · rw [if_pos h16]; exact r2_inend h (hM.opn (.inr (.inl h16)))
  rw [if_neg h16]
  by_cases h17 : s.m.a = 17
  · rw [if_pos h17]; exact r2_endtag h (hM.opn (.inr (.inr h17)))
  rw [if_neg h17]
  exact r2_q h rfl rfl rfl id

/-! The machine as plain functions that a Stream drives. -/
@[reducible] def agP : MachP where
  σ := As
  x0 := as0
  stp := fun s b => (stepA s b).b
  ste := fun s b => (stepA s b).e
  fin := fun s => s
  fne := endAgE
  st := fun s => s.st
  l := fun s => s.l
  Inv := AInv
  inv0 := ainv0
  inv_step := fun b h he => ainv_step h he
  len_step := fun {x n} b h => by have h1 := step_len x b; have h2 := h.ln; show (stepA x b).b.l.length ≤ _; omega
  inv_mono := fun h hk => h.mono hk
  inv_len := fun {x n} h => by have h2 := h.ln; show x.l.length ≤ 2 * n; omega
def agW : MachW agP where
  PI := PA
  tk := fun h => ⟨h.tk.ok, h.tk.run, h.tk.sz⟩
  pi0 := pa0
  step := fun b hp hi => by
    have := r2_step (b := b) hp hi
    exact ⟨⟨this.1.ok, this.1.run, this.1.sz⟩, this.2⟩
  fin := fun {x n} hp hi => ⟨⟨hp.tk.ok, hp.tk.run, hp.tk.sz⟩, fun he => hp.d18 (by
    have he' : endAgE x = 0 := he
    unfold endAgE at he'
    by_cases hc : x.m.a ≠ 18
    · rw [if_pos hc] at he'; exact absurd he' (by decide)
    · omega)⟩
  len := fun {x n} hi => by have h2 := hi.ln; show x.l.length ≤ 2 * n + 8; omega

/-- What angle.Decode tells: the events, the error, how many bytes were read. -/
def aEv (bs : List UInt8) : List Ev := (closeBs (feedG (ss0 agP) bs)).l
def aEr (bs : List UInt8) : Int := closeE (feedG (ss0 agP) bs)
def aRd (bs : List UInt8) : Nat := (feedG (ss0 agP) bs).rd
end
end Go.Proofs.YtjepnddndpmnnaaGreat

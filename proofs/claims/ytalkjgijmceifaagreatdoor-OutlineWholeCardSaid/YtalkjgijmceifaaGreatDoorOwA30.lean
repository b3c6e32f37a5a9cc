/-
  sections: what is known between the lines, as it lies; Tell.
  sections: a key, a path.
  outline: what reads alone: colon, gap, dash, key, keyAndColon, knownWord.
-/
import Derived.Test.YtalkjgijmceifaaGreatDoorOwA29
import Derived.Test.YtalkjgijmceifaaGreatDoorOwA14
import Derived.Test.YtalkjgijmceifaaGreatDoorOwA27
import Derived.Test.YtalkjgijmceifaaGreatDoorOwA28
namespace Go.Proofs.YtalkjgijmceifaaGreatDoor
open Go.RowKit Go.Maps
set_option maxRecDepth 100000
set_option linter.unusedSimpArgs false
set_option linter.unusedVariables false
set_option linter.unusedSectionVars false
variable [Tab] [Fo]

/-- Texts that lie somewhere in a block of texts. -/
def SRd (w : World) (v : Value) (bs : List ByteArray) : Prop :=
  ∃ A c, v = .slice A bs.length c ∧ bs.length ≤ c ∧ (0 < bs.length → ∃ g off cur fr, A = some ⟨g, off, none⟩ ∧ w.heap[g]? = some (.cells cur 9 fr) ∧ ∀ j (h : j < bs.length), cur[off + j]? = some (.string bs[j]))
theorem SRd.nil (w : World) : SRd w (.slice none 0 0) [] := ⟨none, 0, rfl, Nat.le_refl _, fun h => absurd h (by simp)⟩
theorem SRd.keep {w w' : World} {v : Value} {bs : List ByteArray} (h : SRd w v bs) (hk : ∀ (g : Nat) (cur : Array Value) (fr : Nat × Nat), w.heap[g]? = some (Obj.cells cur 9 fr) → w'.heap[g]? = some (Obj.cells cur 9 fr)) : SRd w' v bs := by
  obtain ⟨A, c, h1, h2, h3⟩ := h
  refine ⟨A, c, h1, h2, fun h0 => ?_⟩
  obtain ⟨g, off, cur, fr, k1, k2, k3⟩ := h3 h0
  exact ⟨g, off, cur, fr, k1, hk g cur fr k2, k3⟩
theorem SRd.tch [Fo] {w w' : World} {base : Nat} {p : Obj → Prop} {v : Value} {bs : List ByteArray} (h : SRd w v bs) (ht : Tch base p w w') (hp : ∀ cur fr, ¬ p (.cells cur 9 fr)) : SRd w' v bs :=
  h.keep fun g cur fr hg => ht.block g _ hg (.inr (.inl (hp cur fr)))
theorem SRd.below {w w' : World} {v : Value} {bs : List ByteArray} (h : SRd w v bs) (hb : Below w.heap.size w w') : SRd w' v bs :=
  h.keep fun g cur fr hg => (hb.block g (Array.getElem?_eq_some_iff.1 hg).1).trans hg
/-- The position's steps, cell by cell. -/
def posC (l : List (ByteArray × Bool)) : List Value := l.flatMap fun s => [.string s.1, .bool s.2]
theorem posC_len (l : List (ByteArray × Bool)) : (posC l).length = l.length * 2 := by
  unfold posC
  induction l with
  | nil => rfl
  | cons a r ih => rw [List.flatMap_cons, List.length_append, ih, List.length_cons]; simp; omega
theorem posC_app (l r : List (ByteArray × Bool)) : posC (l ++ r) = posC l ++ posC r := by unfold posC; rw [List.flatMap_append]

def lnO : Obj → Prop
  | .cells _ t _ => t = 213
  | _ => False
/-- What telling and reading turn. -/
def sxObj (q : Obj) : Prop := tObj q ∨ lnO q
def spO : Obj → Prop
  | .cells _ t _ => t = 76 ∨ t = 280
  | _ => False
/-- What the parsing of a line turns. -/
def secObj (q : Obj) : Prop := sxObj q ∨ spO q
/-- What is known of a text while a line is read. -/
structure SecI (base L p o ck : Nat) (S : List UInt8) (x : Sx) (a : Nat) (w : World) : Prop where
  ln : LAt w L ⟨o, .slice none 0 0⟩ S a
  al : a ≤ S.length
  s9 : S.length ≤ 160
  blk : ∃ pv bv, Blk w p 76 #[.bool x.bg, pv, bv] ∧ w.ownsRow base 280 2 pv x.pos.length (posC x.pos) ∧ NF pv ∧ SRd w bv x.bs
  out : OAt w base o ck x.st x.l
  std : SW base w
  pl : base ≤ w.heap.size ∧ base ≤ L ∧ base ≤ p ∧ Fo.lim ≤ w.heap.size ∧ ¬ Fo.F L ∧ ¬ Fo.F p
  tk : TkS x
  pn : x.pos.length ≤ 1000
  lb : x.l.length ≤ 1000000
section
variable {base L p o ck : Nat} {S : List UInt8} {x : Sx} {a : Nat} {w w' : World}
theorem SecI.lim' (h : SecI base L p o ck S x a w) : Fo.lim ≤ w.heap.size := h.pl.2.2.2.1
theorem SecI.pl' (h : SecI base L p o ck S x a w) (hs : w.heap.size ≤ w'.heap.size) : base ≤ w'.heap.size ∧ base ≤ L ∧ base ≤ p ∧ Fo.lim ≤ w'.heap.size ∧ ¬ Fo.F L ∧ ¬ Fo.F p :=
  ⟨Nat.le_trans h.pl.1 hs, h.pl.2.1, h.pl.2.2.1, Nat.le_trans h.pl.2.2.2.1 hs, h.pl.2.2.2.2⟩
theorem blk_tch {b : Nat} {q : Obj → Prop} {g : Nat} {t : TypeId} {cs : Array Value} (h : Blk w g t cs) (ht : Tch b q w w') (hq : ¬ q (.cells cs t (0, 0))) : Blk w' g t cs := h.tch ht (.inr hq)
/-- Where a call turns neither the position nor the paths nor the parser. -/
theorem SecI.blk_tch (h : SecI base L p o ck S x a w) {q : Obj → Prop} (ht : Tch base q w w') (hq : ∀ cs t fr, t = 76 ∨ t = 280 ∨ t = 9 → ¬ q (.cells cs t fr)) :
    ∃ pv bv, Blk w' p 76 #[.bool x.bg, pv, bv] ∧ w'.ownsRow base 280 2 pv x.pos.length (posC x.pos) ∧ NF pv ∧ SRd w' bv x.bs := by
  obtain ⟨pv, bv, h1, h2, h3, h4⟩ := h.blk
  exact ⟨pv, bv, h1.tch ht (.inr (hq _ _ _ (.inl rfl))), row_tch h2 ht (fun _ _ => hq _ _ _ (.inr (.inl rfl))), h3, h4.tch ht (fun _ _ => hq _ _ _ (.inr (.inr rfl)))⟩
theorem SecI.line_tch (h : SecI base L p o ck S x a w) (hf : LnF L w w') : Tch base lnO w w' := Tch.of_grown hf h.pl.2.1 h.pl.2.2.2.2.1 h.ln rfl
theorem SecI.go (h : SecI base L p o ck S x a w) {a' : Nat} (hl : LAt w' L ⟨o, .slice none 0 0⟩ S a') (ha : a' ≤ S.length) (hf : LnF L w w') : SecI base L p o ck S x a' w' := by
  have ht := h.line_tch hf
  refine ⟨hl, ha, h.s9, h.blk_tch ht ?_, h.out.tch ht ?_ ?_, h.std.tch ht h.pl.1, h.pl' hf.size, h.tk, h.pn, h.lb⟩
  · intro cs t fr hh hc
    simp only [lnO] at hc
    rcases hh with rfl | rfl | rfl <;> exact absurd hc (by decide)
  · intro cs t fr hh hc
    simp only [lnO] at hc
    rcases hh with rfl | rfl | rfl | rfl <;> exact absurd hc (by decide)
  · intro es c hc; exact hc
theorem okE_step {st : List Pt} {e : Ev} (h : stepE st e = 0) (ht : e.t.size ≤ 1000) : okE e := by
  cases st with
  | nil => exact absurd (show (19 : Int) = 0 from h) (by decide)
  | cons q r =>
    obtain ⟨hf, _⟩ := cont_of h
    have ez : ∀ s : ByteArray, emptyT s = true → s.size = 0 := fun s hs => by
      unfold emptyT at hs
      have := of_decide_eq_true hs
      have h2 : s.data.toList.length = 0 := by rw [this]; rfl
      have h3 : s.size = s.data.toList.length := by simp
      omega
    have h3 : ∀ s : ByteArray, s.size = s.data.toList.length := fun s => by simp
    unfold formedB at hf
    split at hf
    · rename_i hb
      rw [Bool.and_eq_true] at hf
      have := ez _ hf.2
      unfold bareK at hb
      have := of_decide_eq_true hb
      exact ⟨by omega, by omega, by omega, by omega⟩
    · split at hf
      · rw [Bool.and_eq_true] at hf; have := ez _ hf.1; exact ⟨by omega, by omega, by omega, by omega⟩
      · split at hf
        · rw [Bool.and_eq_true] at hf; have := ez _ hf.1; exact ⟨by omega, by omega, by omega, by omega⟩
        · split at hf
          · rw [Bool.and_eq_true] at hf; have := ez _ hf.1; exact ⟨by omega, by omega, by omega, by omega⟩
          · split at hf
            · rw [Bool.and_eq_true] at hf; have := ez _ hf.1; exact ⟨by omega, by omega, by omega, by omega⟩
            · split at hf
              · rw [Bool.and_eq_true] at hf
                have h4 := hf.1
                unfold validL at h4
                rw [Bool.and_eq_true] at h4
                have := of_decide_eq_true h4.1
                have := h3 e.v
                exact ⟨by omega, by omega, by omega, by omega⟩
              · cases hf
theorem sec_tell (ev : Ev) (h : SecI base L p o ck S x a w) (hl : x.l.length ≤ 900000) (hs : ev.t.size ≤ 1000) :
    Calls Tryz.prog 174 #[.pointer (some ⟨L, 0, none⟩), .agg #[.int .i64 ev.k, .string ev.t, .string ev.v]] w fun e w' =>
      ((∃ x', tellX x ev = some x' ∧ e = .returned (.tuple #[]) ∧ SecI base L p o ck S x' a w') ∨ (tellX x ev = none ∧ ∃ k, k ≠ 0 ∧ e = .panicked (failP k) ∧ SecI base L p o ck S x a w')) ∧ Tch base tObj w w' := by
  have hC := ltell_any w L ⟨o, .slice none 0 0⟩ S a ev h.ln (fun k w' => k = stepE x.st ev ∧ OAt w' base o ck (stepS x.st ev) (tellL x.st x.l ev) ∧ Tch base tObj w w') (fun w1 hb1 hx1 => by
    refine (tell_new ev h.out hb1 h.tk.good (NumW.of ((h.std.below (hb1.mono h.pl.1)).std)) (by omega) (by omega) h.pl.1 h.lim').mono ?_
    rintro e w' ⟨rfl, hO, hT, hK⟩
    refine ⟨_, rfl, ⟨rfl, hO, hT⟩, Blk.tch h.ln hT (.inr (by simp only [tObj]; decide)), ?_⟩
    exact hK _ _ (Nat.le_refl _) hx1)
  refine hC.mono ?_
  rintro e w' ⟨k, hm, rfl, hO, hT⟩
  refine ⟨?_, hT⟩
  have hln := Blk.tch h.ln hT (.inr (by simp only [tObj]; decide))
  have hbk := h.blk_tch hT (fun cs t fr hh hc => by simp only [tObj] at hc; rcases hh with rfl | rfl | rfl <;> exact absurd hc (by decide))
  have hstd := h.std.tch hT h.pl.1
  have hpl := h.pl' hT.size
  rcases hm with ⟨h0, rfl⟩ | ⟨h0, rfl⟩
  · have ht : tellX x ev = some { x with st := stepS x.st ev, l := x.l ++ [ev] } := by unfold tellX; rw [if_pos h0]
    refine .inl ⟨_, ht, rfl, ⟨hln, h.al, h.s9, hbk, ?_, hstd, hpl, tkS_tell h.tk (okE_step h0 hs) ht, h.pn, by simp only [List.length_append, List.length_singleton]; omega⟩⟩
    unfold tellL at hO
    rw [if_pos h0] at hO
    exact hO
  · have ht : tellX x ev = none := by unfold tellX; rw [if_neg h0]
    refine .inr ⟨ht, _, h0, rfl, ⟨hln, h.al, h.s9, hbk, ?_, hstd, hpl, h.tk, h.pn, h.lb⟩⟩
    unfold tellL stepS at hO
    rw [if_neg h0, if_neg h0] at hO
    exact hO
end
/-- What holds between the steps, and what was turned since. -/
def SI (base L p o ck : Nat) (S : List UInt8) (q : Obj → Prop) (w0 : World) (x : Sx) (a : Nat) (w : World) : Prop := SecI base L p o ck S x a w ∧ Tch base q w0 w
def SF (base L p o ck : Nat) (S : List UInt8) (q : Obj → Prop) (w0 : World) (k : Int) (w : World) : Prop := k ≠ 0 ∧ ∃ x a, SecI base L p o ck S x a w ∧ Tch base q w0 w
section
variable {base L p o ck : Nat} {S : List UInt8} {q : Obj → Prop} {w0 : World}
theorem secT (hS : S.length ≤ 1000) (hq : ∀ r, sxObj r → q r) : LnT secM base L ⟨o, .slice none 0 0⟩ S (SI base L p o ck S q w0) (SF base L p o ck S q w0) where
  rd := fun x => ⟨hS, fun h => ⟨h.1.ln, h.1.al⟩, fun h hl ha hf => ⟨h.1.go hl ha hf, h.2.trans ((h.1.line_tch hf).wide fun r hr => hq r (.inr hr))⟩, fun k h hk => ⟨hk, _, _, h.1, h.2⟩⟩
  tell := fun {x a w} ev h hl hs => (sec_tell ev h.1 hl hs).mono fun e w' hp => by
    obtain ⟨hp, ht⟩ := hp
    have ht' := h.2.trans (ht.wide fun r hr => hq r (.inl hr))
    rcases hp with ⟨x', h1, h2, h3⟩ | ⟨h1, k, h2, h3, h4⟩
    · exact .inl ⟨a, x', by show (tellX x ev).map _ = _; rw [h1]; rfl, h2, h3, ht'⟩
    · exact .inr ⟨by show (tellX x ev).map _ = _; rw [h1]; rfl, k, h3, h2, _, _, h4, ht'⟩
  std := fun h => ⟨h.1.std, h.1.pl.1, h.1.pl.2.1, h.1.lim'⟩
end
end Go.Proofs.YtalkjgijmceifaaGreatDoor
namespace Go.Proofs.YtalkjgijmceifaaGreatDoor
open Go.RowKit Go.Maps
set_option maxRecDepth 100000
set_option linter.unusedSimpArgs false
set_option linter.unusedVariables false
set_option linter.unusedSectionVars false
variable [Tab] [Fo]

/-- The reading of a line, as a value. -/
def rV (L p : Nat) : Value := .agg #[.pointer (some ⟨L, 0, none⟩), .pointer (some ⟨p, 0, none⟩)]
def rCells (L p : Nat) : Array Value := #[.pointer (some ⟨L, 0, none⟩), .pointer (some ⟨p, 0, none⟩)]
/-- Reading alone. -/
def I0 (L : Nat) (o : LO) (S : List UInt8) (w0 : World) (a : Nat) (w : World) : Prop := LAt w L o S a ∧ a ≤ S.length ∧ LnF L w0 w
def F0 (L : Nat) (o : LO) (S : List UInt8) (w0 : World) (k : Int) (w : World) : Prop := k ≠ 0 ∧ ∃ a, I0 L o S w0 a w
theorem lnI0 {L : Nat} {o : LO} {S : List UInt8} (w0 : World) (hS : S.length ≤ 1000) : LnI L o S (I0 L o S w0) (F0 L o S w0) :=
  ⟨hS, fun h => ⟨h.1, h.2.1⟩, fun h hl ha hf => ⟨hl, ha, h.2.2.trans hf⟩, fun k h hk => ⟨hk, _, h⟩⟩
section
variable {L p : Nat} {o : LO} {S : List UInt8} {a : Nat} {w : World}
theorem i0_refl (h : LAt w L o S a) (ha : a ≤ S.length) : I0 L o S w a w := ⟨h, ha, LnF.refl _ _⟩
theorem i0_up {w0 w1 : World} {b : Nat} (hf : LnF L w0 w1) (h : I0 L o S w1 b w) : I0 L o S w0 b w := ⟨h.1, h.2.1, hf.trans h.2.2⟩
theorem box_new (w : World) (cs : Array Value) (t : TypeId) : ∃ g W, w.heap.size = g ∧ w.alloc (.cells cs t) = W ∧ Blk W g t cs ∧ Below w.heap.size w W ∧ g < W.heap.size :=
  ⟨_, _, rfl, rfl, Blk.new w t cs, (Below.refl _ _).alloc (Nat.le_refl _) _, (Blk.new w t cs).lt⟩
theorem ps_up {w0 w1 : World} {r : Option (ByteArray × Nat)} {e : Ending} {w' : World} (hf : LnF L w0 w1) (h : Ps (I0 L o S w1) (F0 L o S w1) r e w') : Ps (I0 L o S w0) (F0 L o S w0) r e w' := by
  rcases h with ⟨t, a', h1, h2, h3⟩ | ⟨h1, k, h2, h3, b, h4⟩
  · exact .inl ⟨t, a', h1, h2, i0_up hf h3⟩
  · exact .inr ⟨h1, k, h2, h3, b, i0_up hf h4⟩
set_option maxHeartbeats 2000000 in
theorem key_any (h : LAt w L o S a) (hS : S.length ≤ 1000) (ha : a ≤ S.length) (hfl : Fo.lim ≤ w.heap.size) :
    Calls Tryz.prog 257 #[rV L p] w (Ps (I0 L o S w) (F0 L o S w) (keyP S a)) := by
  obtain ⟨g, W, hg, hW, hB, al, hlt⟩ := box_new w #[.pointer (some ⟨L, 0, none⟩), .pointer (some ⟨p, 0, none⟩)] 278
  have hgL : g ≠ L := by have := Blk.lt h; omega
  have hi : I0 L o S W a W := i0_refl (Blk.below h al (Blk.lt h)) ha
  have HU := Lib.hid (lnf_below (L := L) al)
  obtain ⟨R, hR⟩ : ∃ R, keyP S a = R := ⟨_, rfl⟩
  rw [hR]
  unfold keyP at hR
  have HR := Lib.hid hR
  have b0 : W.cell? ⟨g, 0, none⟩ = some (.pointer (some ⟨L, 0, none⟩)) := hB.cell 0
  have HB := Lib.hid (And.intro hB hgL)
  have HC := Lib.hid (is_I (lnI0 W hS) 34 hi)
  have HFL := Lib.hid (Nat.le_trans hfl al.size)
  unfold rV
  clear h al hi hB hR hgL hfl
  go_enter Tryz.func257, Tryz.ntmps257
  go_wp2_with fail
  refine HC.out.mono ?_
  rintro e w1 ⟨rfl, h1⟩
  have b1 : w1.cell? ⟨g, 0, none⟩ = some (.pointer (some ⟨L, 0, none⟩)) := (h1.2.2.blk HB.out.1 HB.out.2).cell 0
  have hl1 : g < w1.heap.size := (h1.2.2.blk HB.out.1 HB.out.2).lt
  have HFL1 := Nat.le_trans HFL.out h1.2.2.size
  have H1 := Lib.hid h1
  clear h1 HC b0 hlt
  cases hb : isB S a 34 with
  | true =>
    rw [if_pos hb] at HR
    have hQ := quoted_I (lnI0 W hS) H1.out HFL1
    rw [HR.out] at hQ
    have HQ := Lib.hid hQ
    clear hb hQ H1 HFL1
    go_wp2_with fail
    refine HQ.out.mono ?_
    rintro e w2 (⟨t, a2, hr, rfl, h2⟩ | ⟨hr, k, rfl, hF⟩)
    case inr => exact ⟨rfl, ps_up HU.out (.inr ⟨hr, k, rfl, hF⟩)⟩
    have H2 := Lib.hid (And.intro hr h2)
    clear hr h2 HQ
    go_wp2
    go_ret
    exact ps_up HU.out (.inl ⟨t, a2, H2.out.1, rfl, H2.out.2⟩)
  | false =>
    rw [if_neg (by rw [hb]; decide)] at HR
    have hQ := bare_I (lnI0 W hS) H1.out
    rw [HR.out] at hQ
    have HQ := Lib.hid hQ
    clear hb hQ H1 HFL1
    go_wp2_with fail
    refine HQ.out.mono ?_
    rintro e w2 (⟨t, a2, hr, rfl, h2⟩ | ⟨hr, k, rfl, hF⟩)
    case inr => exact ⟨rfl, ps_up HU.out (.inr ⟨hr, k, rfl, hF⟩)⟩
    have H2 := Lib.hid (And.intro hr h2)
    clear hr h2 HQ
    go_wp2
    go_ret
    exact ps_up HU.out (.inl ⟨t, a2, H2.out.1, rfl, H2.out.2⟩)
theorem key_fa {t : ByteArray} {a' : Nat} (h : keyP S a = some (t, a')) : a ≤ a' ∧ a' < S.length ∧ t.size ≤ 1000 := by
  unfold keyP at h
  split at h
  · have := quo_fa h
    exact ⟨by omega, this.2, quo_sz h⟩
  · have := bare_fa h
    exact ⟨this.1, this.2, bare_sz h⟩
/-- What reading a path leaves. -/
def PthE (w0 : World) (L : Nat) (o : LO) (S : List UInt8) (r : Option (List ByteArray × Nat)) (e : Ending) (w' : World) : Prop :=
  (∃ ks a' v, r = some (ks, a') ∧ e = .returned v ∧ SRd w' v ks ∧ I0 L o S w0 a' w') ∨ (r = none ∧ ∃ k, e = .panicked (failP k) ∧ F0 L o S w0 k w')
theorem ORow.srd {base : Nat} {v : Value} {ks : List ByteArray} (h : ORow w base 9 v (ks.map .string)) : SRd w v ks := by
  have hl : (ks.map Value.string).length = ks.length := List.length_map ..
  rcases h.2 with ⟨rfl, h0⟩ | ⟨g, cap, cur, hv, hg, hh, hc, hm, hs, ht⟩
  · have : ks = [] := by simpa using h0
    subst this
    exact SRd.nil w
  · rw [hl] at hv hc ht
    refine ⟨_, cap, hv, hc, fun h0 => ⟨g, 0, cur, _, rfl, hh, fun j hj => ?_⟩⟩
    have h1 : (cur.toList.take (ks.length * 1))[j]? = (ks.map Value.string)[j]? := by rw [ht]
    rw [List.getElem?_take_of_lt (by omega)] at h1
    rw [Nat.zero_add, ← Array.getElem?_toList, h1, List.getElem?_map, List.getElem?_eq_getElem hj]
    rfl
theorem i0_low {W w2 w3 : World} {b : Nat} (h : I0 L o S W b w2) (hL : L < W.heap.size) (hb : Below W.heap.size w2 w3) : I0 L o S W b w3 :=
  ⟨Blk.below h.1 hb hL, h.2.1, hb.os.trans h.2.2.os, hb.tape.trans h.2.2.tape, hb.output.trans h.2.2.output, Nat.le_trans h.2.2.size hb.size, fun k hk hn => (hb.block k hk).trans (h.2.2.block k hk hn)⟩
/-- The next byte is read. -/
theorem i0_next {W w3 : World} {b : Nat} (h : I0 L o S W b w3) (hl : b < S.length) : I0 L o S W (b + 1) (w3.setCell ⟨L, 1, none⟩ (.int .i64 ((b + 1 : Nat) : Int))) :=
  ⟨h.1.go (b + 1), hl, h.2.2.trans (grown_at (World.grownBy.refl w3 _) _)⟩
theorem Tryz.infoTx : (Tryz.prog.info? 9).map (fun i => (i.zero, i.size, i.bytes)) = some (some (.string ⟨#[]⟩), 1, 16) := by kernel_rfl
set_option maxHeartbeats 4000000 in
theorem path_any (h : LAt w L o S a) (hS : S.length ≤ 160) (ha : a ≤ S.length) (hfl : Fo.lim ≤ w.heap.size) :
    Calls Tryz.prog 249 #[rV L p] w (PthE w L o S (pathP S a)) := by
  obtain ⟨g, W, hg, hW, hB, al, hlt⟩ := box_new w #[.pointer (some ⟨L, 0, none⟩), .pointer (some ⟨p, 0, none⟩)] 278
  have hgL : g ≠ L := by have := Blk.lt h; omega
  have hi : I0 L o S W a W := i0_refl (Blk.below h al (Blk.lt h)) ha
  have HU := Lib.hid (lnf_below (L := L) al)
  obtain ⟨R, hR⟩ : ∃ R, pathP S a = R := ⟨_, rfl⟩
  rw [hR]
  unfold pathP at hR
  have HB := Lib.hid (And.intro hB hgL)
  have HFL := Lib.hid (Nat.le_trans hfl al.size)
  have HL0 := Lib.hid (show L < W.heap.size by have := Blk.lt h; have := al.size; omega)
  have START := Lib.hid (show ∃ (a1 : Nat) (ks : List ByteArray) (n : Nat) (v : Value), .slice none 0 0 = v ∧ S.length - a1 < n ∧ ks.length ≤ a1 ∧ Hid (I0 L o S W a1 W) ∧ Hid (ORow W W.heap.size 9 v (ks.map .string)) ∧ Hid (pathA S n a1 ks = R) from ⟨a, [], S.length + 1, _, rfl, by omega, Nat.zero_le _, Lib.hid hi, Lib.hid (ORow.nil _ _ _), Lib.hid hR⟩)
  unfold rV
  clear h al hi hB hR hgL hfl
  go_enter Tryz.func249, Tryz.ntmps249
  go_wp2
  go_loopw [3] (fun v wr => ∃ (a1 : Nat) (ks : List ByteArray) (n : Nat) (rv : Value), v = rv ∧ S.length - a1 < n ∧ ks.length ≤ a1 ∧ Hid (I0 L o S W a1 wr) ∧ Hid (ORow wr W.heap.size 9 rv (ks.map .string)) ∧ Hid (pathA S n a1 ks = R)) (fun _ wr => S.length - atOf L wr)
  case atStart =>
    obtain ⟨a1, ks, n, v, rfl, h1, h2, h3, h4, h5⟩ := START.out
    exact ⟨a1, ks, n, _, rfl, h1, h2, h3, h4, h5⟩
  case round =>
    obtain ⟨a1, ks, n5, rv, hv, hn5, hk5, HI, HRow, HR⟩ := hrel
    replace hv := hv.symm
    subst hv
    clear START
    obtain ⟨n, rfl⟩ : ∃ n, n5 = n + 1 := ⟨n5 - 1, by omega⟩
    have hBr := HI.out.2.2.blk HB.out.1 HB.out.2
    have b0 : wr.cell? ⟨g, 0, none⟩ = some (.pointer (some ⟨L, 0, none⟩)) := hBr.cell 0
    have b1 : wr.cell? ⟨g, 1, none⟩ = some (.pointer (some ⟨p, 0, none⟩)) := hBr.cell 1
    have hlr : g < wr.heap.size := hBr.lt
    have HAT := Lib.hid HI.out.1.at_
    have hK := key_any (p := p) HI.out.1 (by omega) HI.out.2.1 (Nat.le_trans HFL.out HI.out.2.2.size)
    unfold rV at hK
    have HK := Lib.hid hK
    have HSz := Lib.hid HI.out.2.2.size
    have HR2 : Hid ((keyP S a1).bind (fun q => if isB S (q.2 + 1) 46 = true then pathA S n (q.2 + 2) (ks ++ [q.1]) else some (ks ++ [q.1], q.2 + 1)) = R) := Lib.hid HR.out
    clear hBr hK HR
    go_wp2_with fail
    refine HK.out.mono ?_
    rintro e w2 (⟨t, a2, hr, rfl, h2⟩ | ⟨hr, k, rfl, h0, b, hF⟩)
    case inr => exact ⟨rfl, .inr ⟨by rw [← HR2.out, hr]; rfl, k, rfl, h0, b, i0_up HU.out (i0_up HI.out.2.2 hF)⟩⟩
    obtain ⟨k1, k2, k3⟩ := key_fa hr
    rw [hr] at HR2
    have HR3 : Hid ((if isB S (a2 + 1) 46 = true then pathA S n (a2 + 2) (ks ++ [t]) else some (ks ++ [t], a2 + 1)) = R) := Lib.hid HR2.out
    have hrow2 : ORow w2 W.heap.size 9 rv (ks.map .string) := HRow.out.kept h2.2.2 (.inr (fun e => by
      have h1 := (World.ownsRow.lt HRow.out L e).1
      have h2 := Blk.lt HI.out.1
      have h3 := Blk.lt HB.out.1
      have h4 := HL0.out
      omega))
    have hi2 : I0 L o S W a2 w2 := i0_up HI.out.2.2 h2
    have HI2 := Lib.hid hi2
    have h63 : (ks.map Value.string).length + 1 ≤ maxLen := by simp [maxLen]; omega
    have h16 : ((ks.map Value.string).length + 1) * 16 ≤ 140737488355328 := by simp; omega
    have hb2 : W.heap.size ≤ w2.heap.size := Nat.le_trans HSz.out h2.2.2.size
    have HKF := Lib.hid (And.intro k1 k2)
    clear hr HR2 HRow h2 hi2 HI HK k1 k2 k3 b0 b1
    go_wp2_with (first
      | (at_builtin; (refine wp_app1b rfl _ _ 54 rfl W.heap.size 9 (.string ⟨#[]⟩) 16 Tryz.underlying54 Tryz.infoTx rfl rv (ks.map .string) (.string t) rfl (by exact hrow2) rfl 1 rfl h63 h16 hb2 ?_; intro v3 w3 hown3 hb3; replace hown3 : ORow w3 W.heap.size 9 v3 ((ks ++ [t]).map .string) := (by rw [List.map_append]; exact hown3); have hi3 := i0_low HI2.out HL0.out hb3; have hBr3 := hi3.2.2.blk HB.out.1 HB.out.2; have b0 : w3.cell? ⟨g, 0, none⟩ = some (.pointer (some ⟨L, 0, none⟩)) := hBr3.cell 0; have hlr3 : g < w3.heap.size := hBr3.lt; have l1 : w3.cell? ⟨L, 1, none⟩ = some (.int .i64 (a2 : Int)) := Blk.cell hi3.1 1; have f1 := Blk.frozen hi3.1 1; have hLl := Blk.lt hi3.1; have hi4 := i0_next hi3 HKF.out.2; obtain ⟨a3, ha3⟩ : ∃ a3 : Nat, (a2 : Int) + 1 = a3 := ⟨a2 + 1, rfl⟩; have hn3 : a2 + 1 = a3 := (by omega); rw [hn3] at hi4; have HN3 := Lib.hid hn3; have hba : a3 ≤ 1000 := (by have := HKF.out; omega); have HI4 := Lib.hid hi4; have HI3 := Lib.hid hi3; clear hi3 hBr3 hi4 hn3 hb3 hrow2)))
    have HL3 : Hid (∀ w5, LnF L (w3.setCell ⟨L, 1, none⟩ (.int .i64 (a3 : Int))) w5 → ORow w5 W.heap.size 9 v3 ((ks ++ [t]).map .string)) := Lib.hid (fun w5 hf => by
      have hne : v3.ownBlock ≠ some L := fun e => by have h1 := (World.ownsRow.lt hown3 L e).1; have := HL0.out; omega
      exact (hown3.kept (grown_at (World.grownBy.refl w3 _) (.int .i64 (a3 : Int))) (.inr hne)).kept hf (.inr hne))
    have HI4r := Lib.hid (i0_refl HI4.out.1 HI4.out.2.1)
    have HC := Lib.hid (is_I (lnI0 _ (show S.length ≤ 1000 by omega)) 46 HI4r.out)
    have HR4 : Hid ((if isB S a3 46 = true then pathA S n (a3 + 1) (ks ++ [t]) else some (ks ++ [t], a3)) = R) := Lib.hid (by rw [← HN3.out]; exact HR3.out)
    clear hown3 HI4r HR3 HI3 l1 f1
    generalize w3.setCell ⟨L, 1, none⟩ (.int .i64 (a3 : Int)) = w4 at *
    go_wp2_with fail
    refine HC.out.mono ?_
    rintro e w5 ⟨rfl, h5⟩
    have hi5 := i0_up HI4.out.2.2 h5
    have hBr5 := hi5.2.2.blk HB.out.1 HB.out.2
    have b5 : w5.cell? ⟨g, 0, none⟩ = some (.pointer (some ⟨L, 0, none⟩)) := hBr5.cell 0
    have hlr5 : g < w5.heap.size := hBr5.lt
    have hrow5 := HL3.out w5 h5.2.2
    have HRow5 := Lib.hid hrow5
    have l1 : w5.cell? ⟨L, 1, none⟩ = some (.int .i64 (a3 : Int)) := Blk.cell hi5.1 1
    have f1 := Blk.frozen hi5.1 1
    have hLl5 := Blk.lt hi5.1
    have HI5 := Lib.hid hi5
    clear h5 hi5 hBr5 hrow5 HC HL3
    cases hb : isB S a3 46 with
    | false =>
      rw [if_neg (by rw [hb]; decide)] at HR4
      clear hb
      go_wp2
      go_ret
      exact .inl ⟨ks ++ [t], a3, v3, HR4.out.symm, rfl, HRow5.out.srd, i0_up HU.out HI5.out⟩
    | true =>
      have hal3 := isB_true hb
      rw [if_pos hb] at HR4
      have hi6 := i0_next HI5.out hal3
      obtain ⟨a4, ha4⟩ : ∃ a4 : Nat, (a3 : Int) + 1 = a4 := ⟨a3 + 1, rfl⟩
      have hn4 : a3 + 1 = a4 := by omega
      rw [hn4] at hi6 HR4
      have hrow6 : ORow (w5.setCell ⟨L, 1, none⟩ (.int .i64 (a4 : Int))) W.heap.size 9 v3 ((ks ++ [t]).map .string) := HRow5.out.kept (grown_at (World.grownBy.refl w5 _) _) (.inr fun e => by have h1 := (World.ownsRow.lt HRow5.out L e).1; have := HL0.out; omega)
      have HI6 := Lib.hid (And.intro hi6 hrow6)
      have HN4 := Lib.hid hn4
      have HA6 := Lib.hid (And.intro hi6.1.at_ hi6.2.1)
      clear hb hi6 hrow6 HRow5 HI5 hn4
      go_wp2
      go_roundw
      case rel => exact ⟨a4, ks ++ [t], n, v3, rfl, by have := HN3.out; have := HN4.out; have := HKF.out; omega, by have := HN3.out; have := HN4.out; have := HKF.out; simp; omega, Lib.hid HI6.out.1, Lib.hid HI6.out.2, HR4⟩
      case measure => rw [HA6.out.1, HAT.out]; have := HN3.out; have := HN4.out; have := HKF.out; have := HA6.out.2; omega
end
end Go.Proofs.YtalkjgijmceifaaGreatDoor
namespace Go.Proofs.YtalkjgijmceifaaGreatDoor
open Go.RowKit Go.Maps
set_option maxRecDepth 100000
set_option linter.unusedSimpArgs false
set_option linter.unusedVariables false
set_option linter.unusedSectionVars false
variable [Tab] [Fo]

section
variable {L p : Nat} {o : LO} {S : List UInt8} {a : Nat} {w : World}
theorem pu_up {w0 w1 : World} {r : Option Nat} {e : Ending} {w' : World} (hf : LnF L w0 w1) (h : Pu (I0 L o S w1) (F0 L o S w1) r e w') : Pu (I0 L o S w0) (F0 L o S w0) r e w' := by
  rcases h with ⟨a', h1, h2, h3⟩ | ⟨h1, k, h2, h3, b, h4⟩
  · exact .inl ⟨a', h1, h2, i0_up hf h3⟩
  · exact .inr ⟨h1, k, h2, h3, b, i0_up hf h4⟩
set_option maxHeartbeats 2000000 in
theorem colon_any (h : LAt w L o S a) (hS : S.length ≤ 1000) (ha : a ≤ S.length) :
    Calls Tryz.prog 190 #[rV L p] w (Pu (I0 L o S w) (F0 L o S w) (colonO S a)) := by
  obtain ⟨g, W, hg, hW, hB, al, hlt⟩ := box_new w #[.pointer (some ⟨L, 0, none⟩), .pointer (some ⟨p, 0, none⟩)] 221
  have hgL : g ≠ L := by have := Blk.lt h; omega
  have hi : I0 L o S W a W := i0_refl (Blk.below h al (Blk.lt h)) ha
  have HU := Lib.hid (lnf_below (L := L) al)
  obtain ⟨R, hR⟩ : ∃ R, colonO S a = R := ⟨_, rfl⟩
  rw [hR]
  unfold colonO at hR
  have HR := Lib.hid hR
  have b0 : W.cell? ⟨g, 0, none⟩ = some (.pointer (some ⟨L, 0, none⟩)) := hB.cell 0
  have b1 : W.cell? ⟨g, 1, none⟩ = some (.pointer (some ⟨p, 0, none⟩)) := hB.cell 1
  have HB := Lib.hid (And.intro hB hgL)
  have HFL : Hid (Fo.lim ≤ w.heap.size → Fo.lim ≤ W.heap.size) := Lib.hid (fun h => Nat.le_trans h al.size)
  have HI := Lib.hid hi
  unfold rV
  clear h al hi hB hR hgL
  go_enter Tryz.func190, Tryz.ntmps190
  have HC := Lib.hid (blanks_I (lnI0 W hS) HI.out)
  go_wp2_with fail
  refine HC.out.mono ?_
  rintro e w1 ⟨rfl, h1⟩
  have HBw1 := (h1.2.2.blk HB.out.1 HB.out.2)
  have b0 : w1.cell? ⟨g, 0, none⟩ = some (.pointer (some ⟨L, 0, none⟩)) := HBw1.cell 0
  have b1 : w1.cell? ⟨g, 1, none⟩ = some (.pointer (some ⟨p, 0, none⟩)) := HBw1.cell 1
  have hl_w1 : g < w1.heap.size := HBw1.lt
  clear HBw1
  have hE := expect_I (lnI0 W hS) 58 h1
  rw [HR.out] at hE
  have HE := Lib.hid hE
  clear hE h1 HC HI HR
  go_wp2_with fail
  refine HE.out.mono ?_
  rintro e w2 (⟨a2, hr, rfl, h2⟩ | ⟨hr, k, rfl, hF⟩)
  case inr => exact ⟨rfl, pu_up HU.out (.inr ⟨hr, k, rfl, hF⟩)⟩
  have H9 := Lib.hid (And.intro hr h2)
  clear hr h2
  go_wp2
  go_end0
  exact pu_up HU.out (.inl ⟨a2, H9.out.1, rfl, H9.out.2⟩)
set_option maxHeartbeats 2000000 in
theorem gap_any (h : LAt w L o S a) (hS : S.length ≤ 1000) (ha : a ≤ S.length) :
    Calls Tryz.prog 191 #[rV L p] w (Pu (I0 L o S w) (F0 L o S w) (gapO S a)) := by
  obtain ⟨g, W, hg, hW, hB, al, hlt⟩ := box_new w #[.pointer (some ⟨L, 0, none⟩), .pointer (some ⟨p, 0, none⟩)] 221
  have hgL : g ≠ L := by have := Blk.lt h; omega
  have hi : I0 L o S W a W := i0_refl (Blk.below h al (Blk.lt h)) ha
  have HU := Lib.hid (lnf_below (L := L) al)
  obtain ⟨R, hR⟩ : ∃ R, gapO S a = R := ⟨_, rfl⟩
  rw [hR]
  unfold gapO at hR
  have HR := Lib.hid hR
  have b0 : W.cell? ⟨g, 0, none⟩ = some (.pointer (some ⟨L, 0, none⟩)) := hB.cell 0
  have b1 : W.cell? ⟨g, 1, none⟩ = some (.pointer (some ⟨p, 0, none⟩)) := hB.cell 1
  have HB := Lib.hid (And.intro hB hgL)
  have HFL : Hid (Fo.lim ≤ w.heap.size → Fo.lim ≤ W.heap.size) := Lib.hid (fun h => Nat.le_trans h al.size)
  have HI := Lib.hid hi
  unfold rV
  clear h al hi hB hR hgL
  go_enter Tryz.func191, Tryz.ntmps191
  have HC := Lib.hid (over_I (lnI0 W hS) HI.out)
  go_wp2_with fail
  refine HC.out.mono ?_
  rintro e w1 ⟨rfl, h1⟩
  have HBw1 := (h1.2.2.blk HB.out.1 HB.out.2)
  have b0 : w1.cell? ⟨g, 0, none⟩ = some (.pointer (some ⟨L, 0, none⟩)) := HBw1.cell 0
  have b1 : w1.cell? ⟨g, 1, none⟩ = some (.pointer (some ⟨p, 0, none⟩)) := HBw1.cell 1
  have hl_w1 : g < w1.heap.size := HBw1.lt
  clear HBw1
  by_cases hc : a = S.length
  · rw [if_pos hc] at HR
    have hd : decide (a = S.length) = true := by simpa using hc
    rw [hd]
    have H9 := Lib.hid (And.intro HR.out h1)
    clear HR h1 HC HI hd hc
    go_wp2
    go_end0
    exact pu_up HU.out (.inl ⟨a, H9.out.1.symm, rfl, H9.out.2⟩)
  · rw [if_neg hc] at HR
    have hd : decide (a = S.length) = false := by simpa using hc
    rw [hd]
    have hE := expect_I (lnI0 W hS) 32 h1
    rw [HR.out] at hE
    have HE := Lib.hid hE
    clear hE h1 HC HI HR hd hc
    go_wp2_with fail
    refine HE.out.mono ?_
    rintro e w2 (⟨a2, hr, rfl, h2⟩ | ⟨hr, k, rfl, hF⟩)
    case inr => exact ⟨rfl, pu_up HU.out (.inr ⟨hr, k, rfl, hF⟩)⟩
    have H9 := Lib.hid (And.intro hr h2)
    clear hr h2
    go_wp2
    go_end0
    exact pu_up HU.out (.inl ⟨a2, H9.out.1, rfl, H9.out.2⟩)
set_option maxHeartbeats 2000000 in
theorem dash_any (h : LAt w L o S a) (hS : S.length ≤ 1000) (ha : a ≤ S.length) :
    Calls Tryz.prog 183 #[rV L p] w (Pu (I0 L o S w) (F0 L o S w) (dashO S a)) := by
  obtain ⟨g, W, hg, hW, hB, al, hlt⟩ := box_new w #[.pointer (some ⟨L, 0, none⟩), .pointer (some ⟨p, 0, none⟩)] 221
  have hgL : g ≠ L := by have := Blk.lt h; omega
  have hi : I0 L o S W a W := i0_refl (Blk.below h al (Blk.lt h)) ha
  have HU := Lib.hid (lnf_below (L := L) al)
  obtain ⟨R, hR⟩ : ∃ R, dashO S a = R := ⟨_, rfl⟩
  rw [hR]
  unfold dashO at hR
  have HR := Lib.hid hR
  have b0 : W.cell? ⟨g, 0, none⟩ = some (.pointer (some ⟨L, 0, none⟩)) := hB.cell 0
  have b1 : W.cell? ⟨g, 1, none⟩ = some (.pointer (some ⟨p, 0, none⟩)) := hB.cell 1
  have HB := Lib.hid (And.intro hB hgL)
  have HFL : Hid (Fo.lim ≤ w.heap.size → Fo.lim ≤ W.heap.size) := Lib.hid (fun h => Nat.le_trans h al.size)
  have HI := Lib.hid hi
  unfold rV
  clear h al hi hB hR hgL
  go_enter Tryz.func183, Tryz.ntmps183
  have HC := Lib.hid (expect_I (lnI0 W hS) 45 HI.out)
  go_wp2_with fail
  refine HC.out.mono ?_
  rintro e w1 (⟨a1, hr, rfl, h1⟩ | ⟨hr, k, rfl, hF⟩)
  case inr => exact ⟨rfl, pu_up HU.out (.inr ⟨by rw [← HR.out, hr]; rfl, k, rfl, hF⟩)⟩
  rw [hr] at HR
  have HBw1 := (h1.2.2.blk HB.out.1 HB.out.2)
  have b0 : w1.cell? ⟨g, 0, none⟩ = some (.pointer (some ⟨L, 0, none⟩)) := HBw1.cell 0
  have b1 : w1.cell? ⟨g, 1, none⟩ = some (.pointer (some ⟨p, 0, none⟩)) := HBw1.cell 1
  have hl_w1 : g < w1.heap.size := HBw1.lt
  clear HBw1
  have hE := gap_any (p := p) h1.1 hS h1.2.1
  rw [show gapO S a1 = R from HR.out] at hE
  unfold rV at hE
  have HE := Lib.hid hE
  have HF1 := Lib.hid h1.2.2
  clear hE h1 HC HI HR hr
  go_wp2_with fail
  refine HE.out.mono ?_
  rintro e w2 (⟨a2, hr, rfl, h2⟩ | ⟨hr, k, rfl, hF⟩)
  case inr => exact ⟨rfl, pu_up (HU.out.trans HF1.out) (.inr ⟨hr, k, rfl, hF⟩)⟩
  have H9 := Lib.hid (And.intro hr h2)
  clear hr h2
  go_wp2
  go_end0
  exact pu_up (HU.out.trans HF1.out) (.inl ⟨a2, H9.out.1, rfl, H9.out.2⟩)
set_option maxHeartbeats 2000000 in
theorem keyo_any (h : LAt w L o S a) (hS : S.length ≤ 1000) (ha : a ≤ S.length) (hfl : Fo.lim ≤ w.heap.size) :
    Calls Tryz.prog 189 #[rV L p] w (Ps (I0 L o S w) (F0 L o S w) (keyO S a)) := by
  obtain ⟨g, W, hg, hW, hB, al, hlt⟩ := box_new w #[.pointer (some ⟨L, 0, none⟩), .pointer (some ⟨p, 0, none⟩)] 221
  have hgL : g ≠ L := by have := Blk.lt h; omega
  have hi : I0 L o S W a W := i0_refl (Blk.below h al (Blk.lt h)) ha
  have HU := Lib.hid (lnf_below (L := L) al)
  obtain ⟨R, hR⟩ : ∃ R, keyO S a = R := ⟨_, rfl⟩
  rw [hR]
  unfold keyO at hR
  have HR := Lib.hid hR
  have b0 : W.cell? ⟨g, 0, none⟩ = some (.pointer (some ⟨L, 0, none⟩)) := hB.cell 0
  have b1 : W.cell? ⟨g, 1, none⟩ = some (.pointer (some ⟨p, 0, none⟩)) := hB.cell 1
  have HB := Lib.hid (And.intro hB hgL)
  have HFL : Hid (Fo.lim ≤ w.heap.size → Fo.lim ≤ W.heap.size) := Lib.hid (fun h => Nat.le_trans h al.size)
  have HI := Lib.hid hi
  unfold rV
  clear h al hi hB hR hgL
  go_enter Tryz.func189, Tryz.ntmps189
  have HC := Lib.hid (is_I (lnI0 W hS) 34 HI.out)
  have hfl1 := HFL.out hfl
  clear hfl
  go_wp2_with fail
  refine HC.out.mono ?_
  rintro e w1 ⟨rfl, h1⟩
  have HBw1 := (h1.2.2.blk HB.out.1 HB.out.2)
  have b0 : w1.cell? ⟨g, 0, none⟩ = some (.pointer (some ⟨L, 0, none⟩)) := HBw1.cell 0
  have b1 : w1.cell? ⟨g, 1, none⟩ = some (.pointer (some ⟨p, 0, none⟩)) := HBw1.cell 1
  have hl_w1 : g < w1.heap.size := HBw1.lt
  clear HBw1
  have HFL1 := Nat.le_trans hfl1 h1.2.2.size
  have H1 := Lib.hid h1
  clear h1 HC HI hfl1
  cases hb : isB S a 34 with
  | true =>
    rw [if_pos hb] at HR
    have hQ := quoted_I (lnI0 W hS) H1.out HFL1
    rw [HR.out] at hQ
    have HQ := Lib.hid hQ
    clear hb hQ H1 HFL1
    go_wp2_with fail
    refine HQ.out.mono ?_
    rintro e w2 (⟨t, a2, hr, rfl, h2⟩ | ⟨hr, k, rfl, hF⟩)
    case inr => exact ⟨rfl, ps_up HU.out (.inr ⟨hr, k, rfl, hF⟩)⟩
    have H9 := Lib.hid (And.intro hr h2)
    clear hr h2
    go_wp2
    go_ret
    exact ps_up HU.out (.inl ⟨t, a2, H9.out.1, rfl, H9.out.2⟩)
  | false =>
    rw [if_neg (by rw [hb]; decide)] at HR
    have hQ := name_I (lnI0 W hS) H1.out
    rw [HR.out] at hQ
    have HQ := Lib.hid hQ
    clear hb hQ H1 HFL1
    go_wp2_with fail
    refine HQ.out.mono ?_
    rintro e w2 (⟨t, a2, hr, rfl, h2⟩ | ⟨hr, k, rfl, hF⟩)
    case inr => exact ⟨rfl, ps_up HU.out (.inr ⟨hr, k, rfl, hF⟩)⟩
    have H9 := Lib.hid (And.intro hr h2)
    clear hr h2
    go_wp2
    go_ret
    exact ps_up HU.out (.inl ⟨t, a2, H9.out.1, rfl, H9.out.2⟩)
theorem nam_fa {t : ByteArray} {a' : Nat} (h : nameP S a = some (t, a')) : a ≤ a' ∧ a' < S.length ∧ t.size ≤ 1000 := ⟨(lgP_fa tkName.ec0 h).1, (lgP_fa tkName.ec0 h).2, lgP_sz tkName.mx9 tkName.etz h⟩
theorem keyo_fa {t : ByteArray} {a' : Nat} (h : keyO S a = some (t, a')) : a ≤ a' ∧ a' < S.length ∧ t.size ≤ 1000 := by
  unfold keyO at h
  split at h
  · have := quo_fa h
    exact ⟨by omega, this.2, quo_sz h⟩
  · exact nam_fa h
end
end Go.Proofs.YtalkjgijmceifaaGreatDoor

/-
  sections: between the lines; examine.
  lines: the machine of the sections' parser: endLine, Step, End.
-/
import Derived.Test.YtalkjgijmceifaaGreatDoorSwA34
import Derived.Test.YtalkjgijmceifaaGreatDoorSwA35
namespace Go.Proofs.YtalkjgijmceifaaGreatDoor
open Go.RowKit Go.Maps
set_option maxRecDepth 100000
set_option linter.unusedSimpArgs false
set_option linter.unusedVariables false
set_option linter.unusedSectionVars false
variable [Tab] [Fo]

/-- What is known of a text between its lines. -/
structure SecB (base p o ck : Nat) (x : Sx) (w : World) : Prop where
  blk : ∃ pv bv, Blk w p 76 #[.bool x.bg, pv, bv] ∧ w.ownsRow base 280 2 pv x.pos.length (posC x.pos) ∧ NF pv ∧ SRd w bv x.bs
  out : OAt w base o ck x.st x.l
  std : SW base w
  pl : base ≤ w.heap.size ∧ base ≤ p ∧ Fo.lim ≤ w.heap.size ∧ ¬ Fo.F p
  tk : TkS x
  pn : x.pos.length ≤ 1000
  lb : x.l.length ≤ 1000000
/-- What lies behind an error: the Out. -/
def SecBad (base o ck n : Nat) (w : World) : Prop := ∃ l back, back ≤ n ∧ OutE w base o ck back l
/-- What the parsing does not turn but makes. -/
def erO : Obj → Prop
  | .cells _ t _ => t = 25
  | _ => False
/-- What the machine turns of its own. -/
def lmO : Obj → Prop
  | .cells _ t _ => t = 94 ∨ t = 5
  | _ => False
def mObj (q : Obj) : Prop := secObj q ∨ erO q
def nObj (q : Obj) : Prop := mObj q ∨ lmO q
theorem m_n (q : Obj) (h : mObj q) : nObj q := .inl h
theorem l_n (q : Obj) (h : lmO q) : nObj q := .inr h
theorem s_m (q : Obj) (h : secObj q) : mObj q := .inl h
theorem e_m (q : Obj) (h : erO q) : mObj q := .inr h
section
variable {base L p o ck : Nat} {S : List UInt8} {x : Sx} {a : Nat} {w w' : World}
theorem SecI.core (h : SecI base L p o ck S x a w) : SecB base p o ck x w := ⟨h.blk, h.out, h.std, ⟨h.pl.1, h.pl.2.2.1, h.pl.2.2.2.1, h.pl.2.2.2.2.2⟩, h.tk, h.pn, h.lb⟩
theorem SecB.line (h : SecB base p o ck x w) (hl : LAt w L ⟨o, .slice none 0 0⟩ S a) (ha : a ≤ S.length) (hS : S.length ≤ 160) (hL : base ≤ L) (hf : ¬ Fo.F L) : SecI base L p o ck S x a w :=
  ⟨hl, ha, hS, h.blk, h.out, h.std, ⟨h.pl.1, hL, h.pl.2.1, h.pl.2.2.1, hf, h.pl.2.2.2⟩, h.tk, h.pn, h.lb⟩
/-- Where other kinds alone are turned. -/
theorem SecB.other (h : SecB base p o ck x w) {q : Obj → Prop} (ht : Tch base q w w') (hq : ∀ cs t fr, t = 76 ∨ t = 280 ∨ t = 9 ∨ t = 62 ∨ t = 59 ∨ t = 47 ∨ t = 38 → ¬ q (.cells cs t fr)) (hm : ∀ es c, ¬ q (.map es c)) : SecB base p o ck x w' := by
  obtain ⟨pv, bv, h1, h2, h3, h4⟩ := h.blk
  refine ⟨⟨pv, bv, h1.tch ht (.inr (hq _ _ _ (.inl rfl))), row_tch h2 ht (fun _ _ => hq _ _ _ (.inr (.inl rfl))), h3, h4.tch ht (fun _ _ => hq _ _ _ (.inr (.inr (.inl rfl))))⟩, h.out.tch ht (fun cs t fr hh => hq cs t fr (.inr (.inr (.inr hh)))) hm, h.std.tch ht h.pl.1, ⟨Nat.le_trans h.pl.1 ht.size, h.pl.2.1, Nat.le_trans h.pl.2.2.1 ht.size, h.pl.2.2.2⟩, h.tk, h.pn, h.lb⟩
theorem er_no (cs : Array Value) (t : TypeId) (fr : Nat × Nat) (h : t = 76 ∨ t = 280 ∨ t = 9 ∨ t = 62 ∨ t = 59 ∨ t = 47 ∨ t = 38) : ¬ erO (.cells cs t fr) := by
  intro hc
  simp only [erO] at hc
  rcases h with rfl | rfl | rfl | rfl | rfl | rfl | rfl <;> exact absurd hc (by decide)
theorem SecB.er (h : SecB base p o ck x w) (ht : Tch base erO w w') : SecB base p o ck x w' := h.other ht er_no (fun _ _ hc => hc)
theorem lm_no (cs : Array Value) (t : TypeId) (fr : Nat × Nat) (h : t = 76 ∨ t = 280 ∨ t = 9 ∨ t = 62 ∨ t = 59 ∨ t = 47 ∨ t = 38) : ¬ lmO (.cells cs t fr) := by
  intro hc
  simp only [lmO] at hc
  rcases h with rfl | rfl | rfl | rfl | rfl | rfl | rfl <;> exact absurd hc (by decide)
theorem SecB.lm (h : SecB base p o ck x w) (ht : Tch base lmO w w') : SecB base p o ck x w' := h.other ht lm_no (fun _ _ hc => hc)
theorem m_no (cs : Array Value) (t : TypeId) (fr : Nat × Nat) (h : t = 94 ∨ t = 5 ∨ t = 51 ∨ t = 101) : ¬ mObj (.cells cs t fr) := by
  intro hc
  simp only [mObj, secObj, sxObj, tObj, lnO, spO, erO] at hc
  rcases h with rfl | rfl | rfl | rfl <;> exact absurd hc (by decide)
theorem n_no (cs : Array Value) (t : TypeId) (fr : Nat × Nat) (h : t = 51 ∨ t = 101) : ¬ nObj (.cells cs t fr) := by
  intro hc
  simp only [nObj, mObj, secObj, sxObj, tObj, lnO, spO, erO, lmO] at hc
  rcases h with rfl | rfl <;> exact absurd hc (by decide)
theorem SecB.below (h : SecB base p o ck x w) (hb : Below w.heap.size w w') : SecB base p o ck x w' := h.er (Tch.of_below hb)
theorem SecB.bad (h : SecB base p o ck x w) : OutE w base o ck 0 x.l := by
  obtain ⟨⟨lv, hB, hR, _⟩, _, hbo, hnf⟩ := h.out
  exact ⟨⟨lv, hB, hR⟩, h.tk.ok, h.tk.sz, h.lb, hbo, hnf⟩
theorem back_any (w : World) (n : Int) (cs : Array Value) (t : TypeId) (u : Value) (hc : w.cell? ⟨o, 2, none⟩ = some u) (hf : w.frozen? ⟨o, 2, none⟩ = false) (hl : o < w.heap.size) :
    Calls Tryz.prog 163 #[.pointer (some ⟨o, 0, none⟩), .int .i64 n] w fun e w' => e = .returned (.tuple #[]) ∧ w' = w.setCell ⟨o, 2, none⟩ (.int .i64 n) := by
  go_enter Tryz.func163, Tryz.ntmps163
  go_wp2
  go_end0
  exact ⟨rfl, rfl⟩
/-- How the examining of a line ends. -/
def ExP (base p o ck n : Nat) (r : Option Sx) (w : World) (e : Ending) (w' : World) : Prop :=
  ((∃ y, r = some y ∧ e = .returned (.int .i64 0) ∧ SecB base p o ck y w') ∨ (r = none ∧ ∃ k, k ≠ 0 ∧ e = .returned (.int .i64 k) ∧ SecBad base o ck n w')) ∧ Tch base mObj w w'
set_option maxHeartbeats 8000000 in
theorem examine_S (h : SecI base L p o ck S x 0 w) (nm : String) (fP : FuncId) (hm : ∀ (a : Addr) (w : World), (method 398 73 (.pointer (some a)) nm).run Tryz.prog w = .ok (fP, .pointer (some a)) w) (he : ∀ args w, (callFunc fP args).run Tryz.prog w = .ok (.enter fP args) w) (r : Option Sx)
    (hp : ∀ w1, SecI base L p o ck S x 0 w1 → Calls Tryz.prog fP #[.pointer (some ⟨p, 0, none⟩), .pointer (some ⟨L, 0, none⟩)] w1 (PLn (SI base L p o ck S secObj w1) (SF base L p o ck S secObj w1) r)) :
    Calls Tryz.prog 160 #[.pointer (some ⟨L, 0, none⟩), .func (.method nm) #[.iface 73 (.pointer (some ⟨p, 0, none⟩))] #[]] w (ExP base p o ck S.length r w) := by
  have hmf : ∀ (fn : Fn) (first cap : Array Value) (w : World), (Instr.makeFunc fn first cap).run Tryz.prog w = .ok (.func fn first cap) w := fun _ _ _ _ => rfl
  obtain ⟨g1, W1, hg1, hW1, hB1, al1, hlt1⟩ := box_new w #[.pointer (some ⟨L, 0, none⟩)] 208
  obtain ⟨g2, W2, hg2, hW2, hB2, al2, hlt2⟩ := box_new W1 #[.func (.method nm) #[.iface 73 (.pointer (some ⟨p, 0, none⟩))] #[]] 211
  have hi2 := (h.belowS al1).belowS al2
  have hB12 := hB1.below al2 hB1.lt
  have HU := Lib.hid (Tch.trans (Tch.of_below al1) (Tch.of_below al2) : Tch base mObj w W2)
  have HI2 := Lib.hid hi2
  -- the parsing itself
  have hatt : Calls Tryz.prog 162 (#[] ++ #[.pointer (some ⟨g2, 0, none⟩), .pointer (some ⟨g1, 0, none⟩)]) (W2.alloc (.cells #[.int .i64 0] 25)) (Att W2.heap.size (fun k w3 => ((k = 0 ∧ ∃ y a, r = some y ∧ SecI base L p o ck S y a w3) ∨ (k ≠ 0 ∧ r = none ∧ ∃ y a, SecI base L p o ck S y a w3)) ∧ Tch base secObj (W2.alloc (.cells #[.int .i64 0] 25)) w3 )) := by
    have al3 : Below W2.heap.size W2 (W2.alloc (.cells #[.int .i64 0] 25)) := (Below.refl _ _).alloc (Nat.le_refl _) _
    have hE := Blk.new W2 25 #[.int .i64 0]
    have hi3 := hi2.belowS al3
    have hC := Lib.hid (hp _ hi3)
    have hb1 := hB12.below al3 hB12.lt
    have hb2 := hB2.below al3 hB2.lt
    obtain ⟨r0, hr0⟩ : ∃ r0, W2.heap.size = r0 := ⟨_, rfl⟩
    obtain ⟨W3, hW3⟩ : ∃ W3, W2.alloc (.cells #[.int .i64 0] 25) = W3 := ⟨_, rfl⟩
    rw [hW3] at hC hb1 hb2 hE ⊢
    rw [hr0] at hE ⊢
    have c1 : W3.cell? ⟨g1, 0, none⟩ = some (.pointer (some ⟨L, 0, none⟩)) := hb1.cell 0
    have c2 : W3.cell? ⟨g2, 0, none⟩ = some (.func (.method nm) #[.iface 73 (.pointer (some ⟨p, 0, none⟩))] #[]) := hb2.cell 0
    have hl1 := hb1.lt
    have hl2 := hb2.lt
    have HE := Lib.hid hE
    have her : ∀ cs fr, ¬ secObj (.cells cs 25 fr) := fun cs fr hc => by
      simp only [secObj, sxObj, tObj, lnO, spO] at hc
      exact absurd hc (by decide)
    clear hE hi3 hb1 hb2 al3 hB1 hB2 hB12 hi2 h hp hW1 hW2 hg1 hg2 al1 al2 hr0 hW3
    show Calls Tryz.prog 162 #[.pointer (some ⟨g2, 0, none⟩), .pointer (some ⟨g1, 0, none⟩)] W3 _
    go_enter Tryz.func162, Tryz.ntmps162
    go_wp2
    refine hC.out.mono ?_
    rintro e w3 (⟨y, a, hr, rfl, h3⟩ | ⟨hr, k, rfl, hk0, y, a, h3, ht3⟩)
    case inr => exact ⟨rfl, HE.out.tch ht3 (.inr (her _ _)), .inr ⟨k, rfl, .inr ⟨hk0, hr, y, a, h3⟩, ht3⟩⟩
    have H3 := Lib.hid (And.intro hr h3)
    clear hr h3 hC
    go_wp2
    go_end0
    exact ⟨HE.out.tch H3.out.2.2 (.inr (her _ _)), .inl ⟨rfl, .inl ⟨rfl, y, a, H3.out.1, H3.out.2.1⟩, H3.out.2.2⟩⟩
  have hA := attempt_any W2 162 #[] #[.pointer (some ⟨g2, 0, none⟩), .pointer (some ⟨g1, 0, none⟩)] #[] _ (fun args w => enters_of Tryz.func162 (by kernel_rfl) rfl args w) hatt
  have HA := Lib.hid hA
  have HPost : Hid (∀ w4 (y : Sx) (a : Nat) (k : Int) (w3 : World), SecI base L p o ck S y a w3 → Tch base secObj (W2.alloc (.cells #[.int .i64 0] 25)) w3 → Blk w3 W2.heap.size 25 #[.int .i64 0] → (w4 = w3.setCell ⟨W2.heap.size, 0, none⟩ (.int .i64 0) ∨ w4 = (w3.setCell ⟨W2.heap.size, 0, none⟩ (.int .i64 k)).alloc (.cells #[.int .i64 k] 217)) → SecI base L p o ck S y a w4 ∧ Tch base mObj W2 w4) := Lib.hid (fun w4 y a k w3 hs ht hb hw => by
    have hlim : Fo.lim ≤ W2.heap.size := HI2.out.lim'
    have hset : ∀ u, SecI base L p o ck S y a (w3.setCell ⟨W2.heap.size, 0, none⟩ u) ∧ Tch base mObj W2 (w3.setCell ⟨W2.heap.size, 0, none⟩ u) := fun u => by
      have ht2 : Tch base erO w3 (w3.setCell ⟨W2.heap.size, 0, none⟩ u) := (Tch.refl _ _ _).set hb HI2.out.pl.1 (nf_new hlim) (show erO (.cells _ _ _) from rfl) 0 u
      refine ⟨SecB.line (hs.core.er ht2) (Blk.tch hs.ln ht2 (.inr (by simp only [erO]; decide))) hs.al hs.s9 hs.pl.2.1 hs.pl.2.2.2.2.1, ?_⟩
      exact ((Tch.of_below ((Below.refl _ _).alloc (Nat.le_refl _) _)).trans (ht.wide s_m)).trans (ht2.wide e_m)
    rcases hw with rfl | rfl
    · exact hset _
    · exact ⟨(hset _).1.belowS ((Below.refl _ _).alloc (Nat.le_refl _) _), (hset _).2.trans (Tch.of_below ((Below.refl _ _).alloc (Nat.le_refl _) _))⟩)
  clear hatt hA hp h hi2 hB12
  have b1 : W2.cell? ⟨g1, 0, none⟩ = some (.pointer (some ⟨L, 0, none⟩)) := (hB1.below al2 hB1.lt).cell 0
  have HB1 := Lib.hid (hB1.below al2 hB1.lt)
  have hg12 : g1 < W2.heap.size := (hB1.below al2 hB1.lt).lt
  clear hB1 hB2 al1 al2
  go_enter Tryz.func160, Tryz.ntmps160
  go_wp2_with fail
  refine HA.out.mono ?_
  rintro e w4 ⟨k, w3, rfl, ⟨hq, ht3⟩, hb3, hw4⟩
  have hgne : g1 ≠ W2.heap.size := by omega
  rcases hq with ⟨hk0, y, a, hr, h3⟩ | ⟨hk0, hr, y, a, h3⟩
  · subst hk0
    have HF := Lib.hid (And.intro hr (HPost.out w4 y a 0 w3 h3 ht3 hb3 hw4))
    clear hr h3 ht3 hb3 hw4 HA HPost b1
    go_wp2
    go_ret
    exact ⟨.inl ⟨y, HF.out.1, rfl, HF.out.2.1.core⟩, HU.out.trans HF.out.2.2⟩
  · have hF := HPost.out w4 y a k w3 h3 ht3 hb3 hw4
    have e1 : (k == 0) = false := by rw [beq_eq_false_iff_ne]; exact hk0
    have e2 : (k != 0) = true := by simp [bne, e1]
    have hB4 : Blk w4 g1 208 #[.pointer (some ⟨L, 0, none⟩)] := HB1.out.tch hF.2 (.inr (by simp only [mObj, secObj, sxObj, tObj, lnO, spO, erO]; decide))
    have c0 : w4.drew.cell? ⟨g1, 0, none⟩ = some (.pointer (some ⟨L, 0, none⟩)) := hB4.cell 0
    have l0 : w4.drew.cell? ⟨L, 0, none⟩ = some (.string ⟨S.toArray⟩) := Blk.cell hF.1.ln 0
    have l1 : w4.drew.cell? ⟨L, 1, none⟩ = some (.int .i64 (a : Int)) := Blk.cell hF.1.ln 1
    have l2 : w4.drew.cell? ⟨L, 2, none⟩ = some (.pointer (some ⟨o, 0, none⟩)) := Blk.cell hF.1.ln 2
    obtain ⟨lv, hOB, hOR, hOn⟩ := hF.1.out.out
    have o2 : w4.drew.cell? ⟨o, 2, none⟩ = some (.int .i64 0) := hOB.cell 2
    have of := hOB.frozen 2
    have ol := hOB.lt
    have hS9 := hF.1.s9
    have haS := hF.1.al
    obtain ⟨b, hb⟩ : ∃ b : Nat, (S.length : Int) - (a : Int) = b := ⟨S.length - a, by omega⟩
    have hbn : b ≤ S.length := by omega
    have hwb : IntKind.i64.wrap (b : Int) = b := by rw [IntKind.wrap_i64]; omega
    have hz := bsize S
    have HFin := Lib.hid (show SecBad base o ck S.length (w4.drew.setCell ⟨o, 2, none⟩ (.int .i64 (b : Int))) ∧ Tch base mObj w4 (w4.drew.setCell ⟨o, 2, none⟩ (.int .i64 (b : Int))) from by
      have ht : Tch base oOnly w4.drew (w4.drew.setCell ⟨o, 2, none⟩ (.int .i64 (b : Int))) := (Tch.refl _ _ _).set (w' := w4.drew) hOB hF.1.out.bo hF.1.out.nf (show oOnly (.cells _ _ _) from rfl) 2 _
      refine ⟨⟨y.l, b, hbn, ⟨lv, Blk.set_ (w := w4.drew) hOB 2 _, (hOR.below (below_drew (Below.refl _ _))).tch ht (fun _ _ => by simp only [oOnly]; decide)⟩, hF.1.tk.ok, hF.1.tk.sz, hF.1.lb, hF.1.out.bo, hF.1.out.nf⟩, ?_⟩
      refine (Tch.of_below (below_drew (Below.refl _ _))).trans (ht.wide fun q hq => ?_)
      cases q <;> simp only [oOnly] at hq
      exact .inl (.inl (.inl (.inr (.inr (.inl hq)))))  )
    have HRk := Lib.hid (And.intro hr hk0)
    have HT4 := Lib.hid hF.2
    have hBk := back_any (o := o) w4.drew (b : Int) #[] 0 (.int .i64 0) o2 of ol
    have HBk := Lib.hid hBk
    clear hF hr h3 ht3 hb3 hw4 HA HPost b1 hB4 hOB hOR hOn hBk hk0
    go_wp2
    refine region_g [14] (S := (fun W => W.cell? ⟨g1, 0, none⟩ = some (.pointer (some ⟨L, 0, none⟩)) ∧ W.cell? ⟨L, 0, none⟩ = some (.string ⟨S.toArray⟩) ∧ W.cell? ⟨L, 1, none⟩ = some (.int .i64 (a : Int)) ∧ W.cell? ⟨L, 2, none⟩ = some (.pointer (some ⟨o, 0, none⟩)) ∧ True)) (by kernel_rfl) ⟨c0, l0, l1, l2, trivial⟩ (fun hH => ?_)
    refine g_takeT 20 (i := 0) (v := .pointer (some ⟨L, 0, none⟩)) (by rfl) (by kernel_rfl) (by kernel_rfl) (by kernel_rfl) (by kernel_rfl) (by kernel_rfl) (fun _ _ _ h => (by cases h.1)) (Or.inl ⟨by kernel_rfl, fun W hS => (by obtain ⟨q0, q1, q2, q3, q4⟩ := hS; go_simp)⟩) hH ?_
    simp only [Act.put, List.setIfInBounds_toArray, List.set_cons_zero, List.set_cons_succ]
    refine g_takeT 20 (i := 1) (v := .pointer (some ⟨L, 0, none⟩)) (by rfl) (by kernel_rfl) (by kernel_rfl) (by kernel_rfl) (by kernel_rfl) (by kernel_rfl) (fun _ _ _ h => (by cases h.1)) (Or.inl ⟨by kernel_rfl, fun W hS => (by obtain ⟨q0, q1, q2, q3, q4⟩ := hS; go_simp)⟩) hH ?_
    simp only [Act.put, List.setIfInBounds_toArray, List.set_cons_zero, List.set_cons_succ]
    refine g_takeT 20 (i := 2) (v := .pointer (some ⟨L, 2, none⟩)) (by rfl) (by kernel_rfl) (by kernel_rfl) (by kernel_rfl) (by kernel_rfl) (by kernel_rfl) (fun _ _ _ h => (by cases h.1)) (Or.inl ⟨by kernel_rfl, fun W hS => (by obtain ⟨q0, q1, q2, q3, q4⟩ := hS; go_simp)⟩) hH ?_
    simp only [Act.put, List.setIfInBounds_toArray, List.set_cons_zero, List.set_cons_succ]
    refine g_takeT 20 (i := 3) (v := .pointer (some ⟨o, 0, none⟩)) (by rfl) (by kernel_rfl) (by kernel_rfl) (by kernel_rfl) (by kernel_rfl) (by kernel_rfl) (fun _ _ _ h => (by cases h.1)) (Or.inl ⟨by kernel_rfl, fun W hS => (by obtain ⟨q0, q1, q2, q3, q4⟩ := hS; go_simp)⟩) hH ?_
    simp only [Act.put, List.setIfInBounds_toArray, List.set_cons_zero, List.set_cons_succ]
    refine g_takeT 20 (i := 4) (v := .pointer (some ⟨L, 0, none⟩)) (by rfl) (by kernel_rfl) (by kernel_rfl) (by kernel_rfl) (by kernel_rfl) (by kernel_rfl) (fun _ _ _ h => (by cases h.1)) (Or.inl ⟨by kernel_rfl, fun W hS => (by obtain ⟨q0, q1, q2, q3, q4⟩ := hS; go_simp)⟩) hH ?_
    simp only [Act.put, List.setIfInBounds_toArray, List.set_cons_zero, List.set_cons_succ]
    refine g_takeT 20 (i := 5) (v := .pointer (some ⟨L, 0, none⟩)) (by rfl) (by kernel_rfl) (by kernel_rfl) (by kernel_rfl) (by kernel_rfl) (by kernel_rfl) (fun _ _ _ h => (by cases h.1)) (Or.inl ⟨by kernel_rfl, fun W hS => (by obtain ⟨q0, q1, q2, q3, q4⟩ := hS; go_simp)⟩) hH ?_
    simp only [Act.put, List.setIfInBounds_toArray, List.set_cons_zero, List.set_cons_succ]
    refine g_takeT 20 (i := 6) (v := .pointer (some ⟨L, 0, none⟩)) (by rfl) (by kernel_rfl) (by kernel_rfl) (by kernel_rfl) (by kernel_rfl) (by kernel_rfl) (fun _ _ _ h => (by cases h.1)) (Or.inl ⟨by kernel_rfl, fun W hS => (by obtain ⟨q0, q1, q2, q3, q4⟩ := hS; go_simp)⟩) hH ?_
    simp only [Act.put, List.setIfInBounds_toArray, List.set_cons_zero, List.set_cons_succ]
    refine g_takeT 20 (i := 7) (v := .string ⟨S.toArray⟩) (by rfl) (by kernel_rfl) (by kernel_rfl) (by kernel_rfl) (by kernel_rfl) (by kernel_rfl) (fun _ _ _ h => (by cases h.1)) (Or.inl ⟨by kernel_rfl, fun W hS => (by obtain ⟨q0, q1, q2, q3, q4⟩ := hS; go_simp)⟩) hH ?_
    simp only [Act.put, List.setIfInBounds_toArray, List.set_cons_zero, List.set_cons_succ]
    refine g_takeT 20 (i := 8) (v := .int .i64 (S.length : Int)) (by rfl) (by kernel_rfl) (by kernel_rfl) (by kernel_rfl) (by kernel_rfl) (by kernel_rfl) (fun _ _ _ h => (by cases h.1)) (Or.inl ⟨by kernel_rfl, fun W hS => (by obtain ⟨q0, q1, q2, q3, q4⟩ := hS; go_simp)⟩) hH ?_
    simp only [Act.put, List.setIfInBounds_toArray, List.set_cons_zero, List.set_cons_succ]
    refine g_takeT 20 (i := 9) (v := .pointer (some ⟨L, 0, none⟩)) (by rfl) (by kernel_rfl) (by kernel_rfl) (by kernel_rfl) (by kernel_rfl) (by kernel_rfl) (fun _ _ _ h => (by cases h.1)) (Or.inl ⟨by kernel_rfl, fun W hS => (by obtain ⟨q0, q1, q2, q3, q4⟩ := hS; go_simp)⟩) hH ?_
    simp only [Act.put, List.setIfInBounds_toArray, List.set_cons_zero, List.set_cons_succ]
    refine g_takeT 20 (i := 10) (v := .pointer (some ⟨L, 0, none⟩)) (by rfl) (by kernel_rfl) (by kernel_rfl) (by kernel_rfl) (by kernel_rfl) (by kernel_rfl) (fun _ _ _ h => (by cases h.1)) (Or.inl ⟨by kernel_rfl, fun W hS => (by obtain ⟨q0, q1, q2, q3, q4⟩ := hS; go_simp)⟩) hH ?_
    simp only [Act.put, List.setIfInBounds_toArray, List.set_cons_zero, List.set_cons_succ]
    refine g_takeT 20 (i := 11) (v := .pointer (some ⟨L, 1, none⟩)) (by rfl) (by kernel_rfl) (by kernel_rfl) (by kernel_rfl) (by kernel_rfl) (by kernel_rfl) (fun _ _ _ h => (by cases h.1)) (Or.inl ⟨by kernel_rfl, fun W hS => (by obtain ⟨q0, q1, q2, q3, q4⟩ := hS; go_simp)⟩) hH ?_
    simp only [Act.put, List.setIfInBounds_toArray, List.set_cons_zero, List.set_cons_succ]
    refine g_takeT 20 (i := 12) (v := .int .i64 (a : Int)) (by rfl) (by kernel_rfl) (by kernel_rfl) (by kernel_rfl) (by kernel_rfl) (by kernel_rfl) (fun _ _ _ h => (by cases h.1)) (Or.inl ⟨by kernel_rfl, fun W hS => (by obtain ⟨q0, q1, q2, q3, q4⟩ := hS; go_simp)⟩) hH ?_
    simp only [Act.put, List.setIfInBounds_toArray, List.set_cons_zero, List.set_cons_succ]
    refine g_takeT 20 (i := 13) (v := .int .i64 (b : Int)) (by rfl) (by kernel_rfl) (by kernel_rfl) (by kernel_rfl) (by kernel_rfl) (by kernel_rfl) (fun _ _ _ h => (by cases h.1)) (Or.inl ⟨by kernel_rfl, fun W hS => (by obtain ⟨q0, q1, q2, q3, q4⟩ := hS; go_simp)⟩) hH ?_
    simp only [Act.put, List.setIfInBounds_toArray, List.set_cons_zero, List.set_cons_succ]
    refine g_one (i := 14) (by kernel_rfl) (by rfl) (fun K hK => ?_)
    go_simp
    refine HBk.out.mono ?_
    rintro e w5 ⟨rfl, rfl⟩
    refine hK.out _ _ (fun h => absurd (List.mem_singleton.2 rfl) h) (fun _ => ?_)
    clear hK K hH
    refine g_done (by kernel_rfl) ⟨by first | rfl | trivial, ?_⟩ _
    go_wp2
    go_ret
    exact ⟨.inr ⟨HRk.out.1, k, HRk.out.2, rfl, HFin.out.1⟩, (HU.out.trans HT4.out).trans HFin.out.2⟩
end
end Go.Proofs.YtalkjgijmceifaaGreatDoor
namespace Go.Proofs.YtalkjgijmceifaaGreatDoor
open Go.RowKit Go.Maps
set_option maxRecDepth 100000
set_option linter.unusedSimpArgs false
set_option linter.unusedVariables false
set_option linter.unusedSectionVars false
variable [Tab] [Fo]

def maO : Obj → Prop
  | .cells _ t _ => t = 94
  | _ => False
theorem ma_lm (q : Obj) (h : maO q) : lmO q := by
  cases q <;> simp only [maO] at h
  exact .inl h
/-- The machine between the bytes: the bytes of the line that has not ended, and what is known. -/
structure SmAt (base m p o ck : Nat) (op : List UInt8) (x : Sx) (w : World) : Prop where
  blk : ∃ ov, Blk w m 94 #[.iface 73 (.pointer (some ⟨p, 0, none⟩)), .slice none 0 0, ov] ∧ ORow w base 5 ov (op.map bV) ∧ NF ov
  bm : base ≤ m ∧ ¬ Fo.F m
  b : SecB base p o ck x w
section
variable {base m p o ck : Nat} {op : List UInt8} {x : Sx} {w w' : World}
theorem SmAt.other (h : SmAt base m p o ck op x w) {q : Obj → Prop} {y : Sx} (ht : Tch base q w w') (hq : ∀ cs t fr, t = 94 ∨ t = 5 → ¬ q (.cells cs t fr)) (hb : SecB base p o ck y w') : SmAt base m p o ck op y w' := by
  obtain ⟨ov, h1, h2, h3⟩ := h.blk
  exact ⟨⟨ov, h1.tch ht (.inr (hq _ _ _ (.inl rfl))), row_tch h2 ht (fun _ _ => hq _ _ _ (.inr rfl)), h3⟩, h.bm, hb⟩
theorem orow_zero {A : Option Addr} {n c : Nat} {e : TypeId} {xs : List Value} (h : ORow w base e (.slice A n c) xs) : ORow w base e (.slice A 0 c) [] := by
  refine ⟨rfl, ?_⟩
  rcases h.2 with ⟨hv, h0⟩ | ⟨g, cap, cur, hv, hg, hh, hnc, hm, hs, ht⟩
  · injection hv with e1 e2 e3
    exact .inl ⟨by rw [e1, e3], rfl⟩
  · injection hv with e1 e2 e3
    exact .inr ⟨g, c, cur, by rw [e1]; rfl, hg, hh, Nat.zero_le _, by rw [e3]; exact hm, by rw [e3]; exact hs, by rfl⟩
theorem SmAt.setop (h : SmAt base m p o ck op x w) {ov : Value} {op' : List UInt8} (ht0 : Tch base lmO w w') (hrow : ORow w' base 5 ov (op'.map bV)) (hnf : NF ov) (hm : ∃ ov0, Blk w' m 94 #[.iface 73 (.pointer (some ⟨p, 0, none⟩)), .slice none 0 0, ov0]) :
    SmAt base m p o ck op' x (w'.setCell ⟨m, 2, none⟩ ov) ∧ Tch base nObj w (w'.setCell ⟨m, 2, none⟩ ov) := by
  obtain ⟨ov0, hB⟩ := hm
  have ht0' : Tch base maO w' (w'.setCell ⟨m, 2, none⟩ ov) := (Tch.refl _ _ _).set hB h.bm.1 h.bm.2 (show maO (.cells _ _ _) from rfl) 2 ov
  have ht := ht0'.wide ma_lm
  refine ⟨⟨⟨ov, hB.set_ 2 ov, ?_, hnf⟩, h.bm, (h.b.lm ht0).lm ht⟩, (ht0.wide l_n).trans (ht.wide l_n)⟩
  exact row_tch hrow ht0' (fun _ _ => by simp only [maO]; decide)
theorem line_any (w : World) (m o : Nat) (s : ByteArray) (T : TypeId) (pv ov : Value) (hB : Blk w m 94 #[pv, .slice none 0 0, ov]) :
    Calls Tryz.prog 159 #[.pointer (some ⟨m, 0, none⟩), .string s, .pointer (some ⟨o, 0, none⟩)] w fun e w' => e = .returned (.pointer (some ⟨w.heap.size, 0, none⟩)) ∧ w' = w.alloc (.cells #[.string s, .int .i64 0, .pointer (some ⟨o, 0, none⟩), .slice none 0 0] 213) := by
  have c1 : w.cell? ⟨m, 1, none⟩ = some (.slice none 0 0) := hB.cell 1
  have hl := hB.lt
  clear hB
  go_enter Tryz.func159, Tryz.ntmps159
  go_wp2
  go_ret
  exact ⟨rfl, rfl⟩
/-- What must hold ahead of a line. -/
structure LnOk (x : Sx) : Prop where
  l : x.l.length ≤ 400000
  pos : x.pos.length ≤ 100
  bs : BsOk x
/-- How a call of the machine ends. -/
def SmP (base m p o ck n : Nat) (r : Option (List UInt8 × Sx)) (w : World) (e : Ending) (w' : World) : Prop :=
  ((∃ y, r = some y ∧ e = .returned (.int .i64 0) ∧ SmAt base m p o ck y.1 y.2 w') ∨ (r = none ∧ ∃ k l back, k ≠ 0 ∧ back ≤ n ∧ e = .returned (.int .i64 k) ∧ OutE w' base o ck back l)) ∧ Tch base nObj w w'
set_option maxHeartbeats 4000000 in
theorem endLine_S (h : SmAt base m p o ck op x w) (hx : LnOk x) (hop : op.length ≤ 160) :
    Calls Tryz.prog 158 #[.pointer (some ⟨m, 0, none⟩), .pointer (some ⟨o, 0, none⟩)] w (SmP base m p o ck op.length ((lineS op x).map fun y => ([], y)) w) := by
  obtain ⟨ov, hB, hrow, hnf⟩ := h.blk
  obtain ⟨A, cap, hv⟩ := hrow.shape
  have hln : (op.map bV).length = op.length := List.length_map ..
  rw [hln] at hv
  subst hv
  have hcv := Nm.put_str op hrow
  have hmf : ∀ (fn : Fn) (first cap : Array Value) (w : World), (Instr.makeFunc fn first cap).run Tryz.prog w = .ok (.func fn first cap) w := fun _ _ _ _ => rfl
  obtain ⟨R, hR⟩ : ∃ R, lineS op x = R := ⟨_, rfl⟩
  rw [hR]
  have HR := Lib.hid hR
  have c2 : w.cell? ⟨m, 2, none⟩ = some (.slice A op.length cap) := hB.cell 2
  have hml := hB.lt
  have HLn := Lib.hid (line_any w m o ⟨op.toArray⟩ 0 _ _ hB)
  -- the line is made
  have al : Below w.heap.size w (w.alloc (.cells #[.string ⟨op.toArray⟩, .int .i64 0, .pointer (some ⟨o, 0, none⟩), .slice none 0 0] 213)) := (Below.refl _ _).alloc (Nat.le_refl _) _
  have hLB : LAt (w.alloc (.cells #[.string ⟨op.toArray⟩, .int .i64 0, .pointer (some ⟨o, 0, none⟩), .slice none 0 0] 213)) w.heap.size ⟨o, .slice none 0 0⟩ op 0 := Blk.new w _ _
  obtain ⟨L, hL⟩ : ∃ L, w.heap.size = L := ⟨_, rfl⟩
  obtain ⟨W, hW⟩ : ∃ W, w.alloc (.cells #[.string ⟨op.toArray⟩, .int .i64 0, .pointer (some ⟨o, 0, none⟩), .slice none 0 0] 213) = W := ⟨_, rfl⟩
  have hbL : base ≤ L := by rw [← hL]; exact h.b.pl.1
  have hfL : ¬ Fo.F L := by rw [← hL]; exact nf_new h.b.pl.2.2.1
  rw [hW] at al hLB
  rw [hL] at hLB
  have hBW := hB.below al hB.lt
  have hset := SmAt.setop (w := W) (w' := W) ⟨⟨_, hBW, row_below hrow al, hnf⟩, h.bm, h.b.below al⟩ (Tch.refl _ _ _) (op' := []) (ov := .slice A 0 cap) (orow_zero (row_below hrow al)) (fun g hg => hnf g (by cases A <;> exact hg)) ⟨_, hBW⟩
  have d2 : W.cell? ⟨m, 2, none⟩ = some (.slice A op.length cap) := hBW.cell 2
  have f2 := hBW.frozen 2
  have hmW := hBW.lt
  have hLB2 : LAt (W.setCell ⟨m, 2, none⟩ (.slice A 0 cap)) L ⟨o, .slice none 0 0⟩ op 0 := by
    have ht : Tch base maO W (W.setCell ⟨m, 2, none⟩ (.slice A 0 cap)) := (Tch.refl _ _ _).set hBW h.bm.1 h.bm.2 (show maO (.cells _ _ _) from rfl) 2 _
    exact Blk.tch hLB ht (.inr (by simp only [maO]; decide))
  have hI := SecB.line hset.1.b hLB2 (Nat.zero_le _) hop hbL hfL
  have HT := Lib.hid (Tch.trans (Tch.of_below al) hset.2 : Tch base nObj w _)
  have HS := Lib.hid hset.1
  have hEx := examine_S hI "Parse" 244 (fun a w => by kernel_rfl) (fun args w => enters_of Tryz.func244 (by kernel_rfl) rfl args w) R (fun w1 h1 => by
    have := parse_S h1 hx.l hx.pos hx.bs
    rw [HR.out] at this
    exact this)
  have HEx := Lib.hid hEx
  obtain ⟨ov2, hB2, _⟩ := hset.1.blk
  have d0 := hB2.cell 0
  have hml2 := hB2.lt
  clear h hB hrow hnf hR al hLB hBW hset hLB2 hI hEx hB2
  go_enter Tryz.func158, Tryz.ntmps158
  go_wp2_with fail
  refine HLn.out.mono ?_
  rintro e w1 ⟨rfl, rfl⟩
  rw [hL, hW]
  clear c2 hcv HLn
  generalize hW2 : W.setCell ⟨m, 2, none⟩ (.slice A 0 cap) = W2 at *
  go_wp2_with fail
  refine HEx.out.mono ?_
  rintro e w3 ⟨⟨y, hr, rfl, hb⟩ | ⟨hr, k, hk0, rfl, l, back, hle, hO⟩, ht⟩
  · have HF := Lib.hid (show (R.map fun y => (([], y) : List UInt8 × Sx)) = some ([], y) ∧ SmAt base m p o ck [] y w3 ∧ Tch base nObj w w3 from ⟨by rw [hr]; rfl, HS.out.other ht (fun cs t fr h => m_no cs t fr (by rcases h with h | h; exact .inl h; exact .inr (.inl h))) hb, HT.out.trans (ht.wide m_n)⟩)
    clear hr hb ht HEx
    go_wp2
    go_ret
    exact ⟨.inl ⟨_, HF.out.1, rfl, HF.out.2.1⟩, HF.out.2.2⟩
  · have HF := Lib.hid (show (R.map fun y => (([], y) : List UInt8 × Sx)) = none ∧ k ≠ 0 ∧ OutE w3 base o ck back l ∧ Tch base nObj w w3 from ⟨by rw [hr]; rfl, hk0, hO, HT.out.trans (ht.wide m_n)⟩)
    clear hr hk0 hO ht HEx
    go_wp2
    go_ret
    exact ⟨.inr ⟨HF.out.1, k, l, back, HF.out.2.1, hle, rfl, HF.out.2.2.1⟩, HF.out.2.2.2⟩
end
end Go.Proofs.YtalkjgijmceifaaGreatDoor

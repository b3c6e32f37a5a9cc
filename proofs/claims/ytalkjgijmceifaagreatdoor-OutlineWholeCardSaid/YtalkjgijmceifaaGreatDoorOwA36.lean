/-
  outline: between the lines; examine.
-/
import Derived.Test.YtalkjgijmceifaaGreatDoorOwA35
import Derived.Test.YtalkjgijmceifaaGreatDoorOwA28
namespace Go.Proofs.YtalkjgijmceifaaGreatDoor
open Go.RowKit Go.Maps
set_option maxRecDepth 100000
set_option linter.unusedSimpArgs false
set_option linter.unusedVariables false
set_option linter.unusedSectionVars false
set_option linter.unusedSectionVars false
variable [Tab] [Fo]

/-- What is known of a text between its lines. -/
structure OlZ (base p o ck an g : Nat) (x : Ox) (w : World) : Prop where
  oth : Blk w g 39 #[othV an]
  blk : ∃ bv, Blk w p 72 #[.pointer (some ⟨an, 0, none⟩), bv, .bool x.lk, .bool x.en] ∧ ORow w base 3 bv (x.bk.map (.int .i64)) ∧ NF bv
  oa : ∃ T, OA w base o ck an x.st x.l x.am T
  std : SW base w
  pl : base ≤ w.heap.size ∧ base ≤ p ∧ Fo.lim ≤ w.heap.size ∧ ¬ Fo.F p
  tk : TkO x
  bn : x.bk.length ≤ 1000
  lb : x.l.length ≤ 1000000
/-- What lies behind an error: the Out. -/
def OutBad (base o ck n : Nat) (w : World) : Prop := ∃ l back, back ≤ n ∧ OutE w base o ck back l
/-- What the machine turns of its own. -/
def lmOo : Obj → Prop
  | .cells _ t _ => t = 94 ∨ t = 5
  | _ => False
def omObj (q : Obj) : Prop := olObj q ∨ erOo q
def onObj (q : Obj) : Prop := omObj q ∨ lmOo q
theorem om_n (q : Obj) (h : omObj q) : onObj q := .inl h
theorem ol_n (q : Obj) (h : lmOo q) : onObj q := .inr h
theorem os_m (q : Obj) (h : olObj q) : omObj q := .inl h
theorem oe_m (q : Obj) (h : erOo q) : omObj q := .inr h
section
variable {base L p o ck an g : Nat} {S : List UInt8} {x : Ox} {a : Nat} {w w' : World}
theorem OlI.core (h : OlI base L p o ck an g S x a w) : OlZ base p o ck an g x w := ⟨h.oth, h.blk, h.oa, h.std, ⟨h.pl.1, h.pl.2.2.1, h.pl.2.2.2.1, h.pl.2.2.2.2.2⟩, h.tk, h.bn, h.lb⟩
theorem OlZ.line (h : OlZ base p o ck an g x w) (hl : LAt w L (oL o g) S a) (ha : a ≤ S.length) (hS : S.length ≤ 160) (hL : base ≤ L) (hf : ¬ Fo.F L) : OlI base L p o ck an g S x a w :=
  ⟨hl, ha, hS, h.oth, h.blk, h.oa, h.std, ⟨h.pl.1, hL, h.pl.2.1, h.pl.2.2.1, hf, h.pl.2.2.2⟩, h.tk, h.bn, h.lb⟩
/-- Where other kinds alone are turned. -/
theorem OlZ.other (h : OlZ base p o ck an g x w) {q : Obj → Prop} (ht : Tch base q w w') (hq : ∀ cs t fr, t = 72 ∨ t = 3 ∨ t = 39 → ¬ q (.cells cs t fr)) (hA : ∀ r, tA r → ¬ q r) : OlZ base p o ck an g x w' := by
  obtain ⟨T, hT⟩ := h.oa
  obtain ⟨bv, h1, h2, h3⟩ := h.blk
  exact ⟨h.oth.tch ht (.inr (hq _ _ _ (.inr (.inr rfl)))), ⟨bv, h1.tch ht (.inr (hq _ _ _ (.inl rfl))), row_tch h2 ht (fun _ _ => hq _ _ _ (.inr (.inl rfl))), h3⟩, ⟨T, hT.tch ht hA⟩, h.std.tch ht h.pl.1, ⟨Nat.le_trans h.pl.1 ht.size, h.pl.2.1, Nat.le_trans h.pl.2.2.1 ht.size, h.pl.2.2.2⟩, h.tk, h.bn, h.lb⟩
theorem OlZ.below (h : OlZ base p o ck an g x w) (hb : Below w.heap.size w w') : OlZ base p o ck an g x w' := h.other (q := fun _ => False) (Tch.of_below hb) (fun _ _ _ _ h => h) (fun _ _ h => h)
theorem OlZ.lm (h : OlZ base p o ck an g x w) (ht : Tch base lmOo w w') : OlZ base p o ck an g x w' := h.other ht (fun cs t fr hh hc => by
    simp only [lmOo] at hc
    rcases hh with rfl | rfl | rfl <;> exact absurd hc (by decide)) (fun r hr hc => by
    cases r with
    | cells cs t fr =>
      simp only [lmOo] at hc
      rcases hc with rfl | rfl
      · exact tA_no _ _ _ (by simp) hr
      · exact tA_no _ _ _ (by simp) hr
    | _ => exact hc)
theorem om_no (cs : Array Value) (t : TypeId) (fr : Nat × Nat) (h : t = 94 ∨ t = 5 ∨ t = 51 ∨ t = 101) : ¬ omObj (.cells cs t fr) := by
  rintro (hc | hc)
  · exact ol_box cs t fr (by rcases h with rfl | rfl | rfl | rfl <;> simp) hc
  · simp only [erOo] at hc
    rcases h with rfl | rfl | rfl | rfl <;> exact absurd hc (by decide)
theorem on_no (cs : Array Value) (t : TypeId) (fr : Nat × Nat) (h : t = 51 ∨ t = 101) : ¬ onObj (.cells cs t fr) := by
  rintro (hc | hc)
  · exact om_no cs t fr (h.elim (fun h => .inr (.inr (.inl h))) (fun h => .inr (.inr (.inr h)))) hc
  · simp only [lmOo] at hc
    rcases h with rfl | rfl <;> exact absurd hc (by decide)
/-- The Out, by itself. -/
theorem oa_outE [fo : Fo] {st : List Pt} {l : List Ev} {s : Am} {T : Nat → Prop} (h : OA w base o ck an st l s T) : ∃ lv, Blk w o 47 #[.pointer (some ⟨ck, 0, none⟩), lv, .int .i64 0] ∧ RowT w base lv l ∧ base ≤ o ∧ ¬ Fo.F o := by
  obtain ⟨⟨lv, hB, hR, hn⟩, _, hbo, hnf⟩ := h.out
  exact ⟨lv, hB, rowt_mv (f1 := fo.pl T w.heap.size h.lim h.an.1) (f2 := fo) rfl (fun k r hr _ _ => hr) hR hn, hbo, fun hc => hnf (.inl hc)⟩
theorem OlZ.bad (h : OlZ base p o ck an g x w) : OutE w base o ck 0 x.l := by
  obtain ⟨T, hT⟩ := h.oa
  obtain ⟨lv, hB, hR, hbo, hnf⟩ := oa_outE hT
  exact ⟨⟨lv, hB, hR⟩, h.tk.ok, h.tk.sz, h.lb, hbo, hnf⟩
theorem OlX.err (h : OlX base L p o ck an g S w) {r : Nat} {cs : Array Value} {u : Value} (hb : base ≤ r) (hf : ¬ Fo.F r) (hB : Blk w r 25 cs) : OlX base L p o ck an g S (w.setCell ⟨r, 0, none⟩ u) ∧ Tch base erOo w (w.setCell ⟨r, 0, none⟩ u) := by
  have ht : Tch base erOo w (w.setCell ⟨r, 0, none⟩ u) := (Tch.refl _ _ _).set hB hb hf (show erOo (.cells _ _ _) from rfl) 0 u
  obtain ⟨⟨a, h1, h2⟩, h3, ⟨st, l, s, T, h4, h5⟩, h6⟩ := h
  refine ⟨⟨⟨a, Blk.tch h1 ht (.inr (by simp only [erOo]; decide)), h2⟩, h3, ⟨st, l, s, T, h4.tch ht (fun q hq hc => ?_), h5⟩, ⟨Nat.le_trans h6.1 ht.size, h6.2.1, h6.2.2.1, Nat.le_trans h6.2.2.2.1 ht.size, h6.2.2.2.2⟩⟩, ht⟩
  cases q with
  | cells cs t fr => simp only [erOo] at hc; subst hc; exact tA_no _ _ _ (by simp) hq
  | _ => exact hc
theorem OlX.below (h : OlX base L p o ck an g S w) (hb : Below w.heap.size w w') : OlX base L p o ck an g S w' := by
  obtain ⟨⟨a, h1, h2⟩, h3, ⟨st, l, s, T, h4, h5⟩, h6⟩ := h
  exact ⟨⟨a, Blk.below h1 hb (Blk.lt h1), h2⟩, h3, ⟨st, l, s, T, h4.below hb, h5⟩, ⟨Nat.le_trans h6.1 hb.size, h6.2.1, h6.2.2.1, Nat.le_trans h6.2.2.2.1 hb.size, h6.2.2.2.2⟩⟩
theorem oback_any (w : World) (n : Int) (cs : Array Value) (t : TypeId) (u : Value) (hc : w.cell? ⟨o, 2, none⟩ = some u) (hf : w.frozen? ⟨o, 2, none⟩ = false) (hl : o < w.heap.size) :
    Calls Tryz.prog 163 #[.pointer (some ⟨o, 0, none⟩), .int .i64 n] w fun e w' => e = .returned (.tuple #[]) ∧ w' = w.setCell ⟨o, 2, none⟩ (.int .i64 n) := by
  go_enter Tryz.func163, Tryz.ntmps163
  go_wp2
  go_end0
  exact ⟨rfl, rfl⟩
/-- How the examining of a line ends. -/
def ExO (base p o ck an g n : Nat) (r : Option Ox) (w : World) (e : Ending) (w' : World) : Prop :=
  ((∃ y, r = some y ∧ e = .returned (.int .i64 0) ∧ OlZ base p o ck an g y w') ∨ (r = none ∧ ∃ k, k ≠ 0 ∧ e = .returned (.int .i64 k) ∧ OutBad base o ck n w')) ∧ Tch base omObj w w'
set_option maxHeartbeats 8000000 in
theorem examine_O (h : OlI base L p o ck an g S x 0 w) (nm : String) (fP : FuncId) (hm : ∀ (a : Addr) (w : World), (method 398 69 (.pointer (some a)) nm).run Tryz.prog w = .ok (fP, .pointer (some a)) w) (he : ∀ args w, (callFunc fP args).run Tryz.prog w = .ok (.enter fP args) w) (r : Option Ox)
    (hp : ∀ w1, OlI base L p o ck an g S x 0 w1 → Calls Tryz.prog fP #[.pointer (some ⟨p, 0, none⟩), .pointer (some ⟨L, 0, none⟩)] w1 (PLo (OI base L p o ck an g S olObj w1) (OF base L p o ck an g S olObj w1) r)) :
    Calls Tryz.prog 160 #[.pointer (some ⟨L, 0, none⟩), .func (.method nm) #[.iface 69 (.pointer (some ⟨p, 0, none⟩))] #[]] w (ExO base p o ck an g S.length r w) := by
  have hmf : ∀ (fn : Fn) (first cap : Array Value) (w : World), (Instr.makeFunc fn first cap).run Tryz.prog w = .ok (.func fn first cap) w := fun _ _ _ _ => rfl
  obtain ⟨g1, W1, hg1, hW1, hB1, al1, hlt1⟩ := box_new w #[.pointer (some ⟨L, 0, none⟩)] 208
  obtain ⟨g2, W2, hg2, hW2, hB2, al2, hlt2⟩ := box_new W1 #[.func (.method nm) #[.iface 69 (.pointer (some ⟨p, 0, none⟩))] #[]] 211
  have hi2 := (h.belowO al1).belowO al2
  have hB12 := hB1.below al2 hB1.lt
  have HU := Lib.hid (Tch.trans (Tch.of_below al1) (Tch.of_below al2) : Tch base omObj w W2)
  have HI2 := Lib.hid hi2
  -- the parsing itself
  have hatt : Calls Tryz.prog 162 (#[] ++ #[.pointer (some ⟨g2, 0, none⟩), .pointer (some ⟨g1, 0, none⟩)]) (W2.alloc (.cells #[.int .i64 0] 25)) (Att W2.heap.size (fun k w3 => ((k = 0 ∧ ∃ y a, r = some y ∧ OlI base L p o ck an g S y a w3) ∨ (k ≠ 0 ∧ r = none ∧ OlX base L p o ck an g S w3)) ∧ Tch base olObj (W2.alloc (.cells #[.int .i64 0] 25)) w3 )) := by
    have al3 : Below W2.heap.size W2 (W2.alloc (.cells #[.int .i64 0] 25)) := (Below.refl _ _).alloc (Nat.le_refl _) _
    have hE := Blk.new W2 25 #[.int .i64 0]
    have hi3 := hi2.belowO al3
    have hC := Lib.hid (hp _ hi3)
    have hb1 := hB12.below al3 hB12.lt
    have hb2 := hB2.below al3 hB2.lt
    obtain ⟨r0, hr0⟩ : ∃ r0, W2.heap.size = r0 := ⟨_, rfl⟩
    obtain ⟨W3, hW3⟩ : ∃ W3, W2.alloc (.cells #[.int .i64 0] 25) = W3 := ⟨_, rfl⟩
    rw [hW3] at hC hb1 hb2 hE ⊢
    rw [hr0] at hE ⊢
    have c1 : W3.cell? ⟨g1, 0, none⟩ = some (.pointer (some ⟨L, 0, none⟩)) := hb1.cell 0
    have c2 : W3.cell? ⟨g2, 0, none⟩ = some (.func (.method nm) #[.iface 69 (.pointer (some ⟨p, 0, none⟩))] #[]) := hb2.cell 0
    have hl1 := hb1.lt
    have hl2 := hb2.lt
    have HE := Lib.hid hE
    have her : ∀ cs fr, ¬ olObj (.cells cs 25 fr) := fun cs fr => ol_box _ _ _ (by simp)
    clear hE hi3 hb1 hb2 al3 hB1 hB2 hB12 hi2 h hp hW1 hW2 hg1 hg2 al1 al2 hr0 hW3
    show Calls Tryz.prog 162 #[.pointer (some ⟨g2, 0, none⟩), .pointer (some ⟨g1, 0, none⟩)] W3 _
    go_enter Tryz.func162, Tryz.ntmps162
    go_wp2
    refine hC.out.mono ?_
    rintro e w3 (⟨y, a, hr, rfl, h3⟩ | ⟨hr, k, rfl, hk0, h3, ht3⟩)
    case inr => exact ⟨rfl, HE.out.tch ht3 (.inr (her _ _)), .inr ⟨k, rfl, .inr ⟨hk0, hr, h3⟩, ht3⟩⟩
    have H3 := Lib.hid (And.intro hr h3)
    clear hr h3 hC
    go_wp2
    go_end0
    exact ⟨HE.out.tch H3.out.2.2 (.inr (her _ _)), .inl ⟨rfl, .inl ⟨rfl, y, a, H3.out.1, H3.out.2.1⟩, H3.out.2.2⟩⟩
  have hA := attempt_any W2 162 #[] #[.pointer (some ⟨g2, 0, none⟩), .pointer (some ⟨g1, 0, none⟩)] #[] _ (fun args w => enters_of Tryz.func162 (by kernel_rfl) rfl args w) hatt
  have HA := Lib.hid hA
  have HPost : Hid (∀ w4 (y : Ox) (a : Nat) (k : Int) (w3 : World), OlI base L p o ck an g S y a w3 → Tch base olObj (W2.alloc (.cells #[.int .i64 0] 25)) w3 → Blk w3 W2.heap.size 25 #[.int .i64 0] → (w4 = w3.setCell ⟨W2.heap.size, 0, none⟩ (.int .i64 0) ∨ w4 = (w3.setCell ⟨W2.heap.size, 0, none⟩ (.int .i64 k)).alloc (.cells #[.int .i64 k] 217)) → OlI base L p o ck an g S y a w4 ∧ Tch base omObj W2 w4) := Lib.hid (fun w4 y a k w3 hs ht hb hw => by
    have hlim : Fo.lim ≤ W2.heap.size := HI2.out.lim'
    have hset : ∀ u, OlI base L p o ck an g S y a (w3.setCell ⟨W2.heap.size, 0, none⟩ u) ∧ Tch base omObj W2 (w3.setCell ⟨W2.heap.size, 0, none⟩ u) := fun u => by
      obtain ⟨hs2, ht2⟩ := hs.err (u := u) HI2.out.pl.1 (nf_new hlim) hb
      refine ⟨hs2, ?_⟩
      exact ((Tch.of_below ((Below.refl _ _).alloc (Nat.le_refl _) _)).trans (ht.wide os_m)).trans (ht2.wide oe_m)
    rcases hw with rfl | rfl
    · exact hset _
    · exact ⟨(hset _).1.belowO ((Below.refl _ _).alloc (Nat.le_refl _) _), (hset _).2.trans (Tch.of_below ((Below.refl _ _).alloc (Nat.le_refl _) _))⟩)
  have HPostX : Hid (∀ w4 (k : Int) (w3 : World), OlX base L p o ck an g S w3 → Tch base olObj (W2.alloc (.cells #[.int .i64 0] 25)) w3 → Blk w3 W2.heap.size 25 #[.int .i64 0] → (w4 = w3.setCell ⟨W2.heap.size, 0, none⟩ (.int .i64 0) ∨ w4 = (w3.setCell ⟨W2.heap.size, 0, none⟩ (.int .i64 k)).alloc (.cells #[.int .i64 k] 217)) → OlX base L p o ck an g S w4 ∧ Tch base omObj W2 w4) := Lib.hid (fun w4 k w3 hs ht hb hw => by
    have hlim : Fo.lim ≤ W2.heap.size := HI2.out.lim'
    have hset : ∀ u, OlX base L p o ck an g S (w3.setCell ⟨W2.heap.size, 0, none⟩ u) ∧ Tch base omObj W2 (w3.setCell ⟨W2.heap.size, 0, none⟩ u) := fun u => by
      obtain ⟨hs2, ht2⟩ := hs.err (u := u) HI2.out.pl.1 (nf_new hlim) hb
      refine ⟨hs2, ?_⟩
      exact ((Tch.of_below ((Below.refl _ _).alloc (Nat.le_refl _) _)).trans (ht.wide os_m)).trans (ht2.wide oe_m)
    rcases hw with rfl | rfl
    · exact hset _
    · exact ⟨(hset _).1.below ((Below.refl _ _).alloc (Nat.le_refl _) _), (hset _).2.trans (Tch.of_below ((Below.refl _ _).alloc (Nat.le_refl _) _))⟩)
  clear hatt hA hp h hi2 hB12
  have b1 : W2.cell? ⟨g1, 0, none⟩ = some (.pointer (some ⟨L, 0, none⟩)) := (hB1.below al2 hB1.lt).cell 0
  have HB1 := Lib.hid (hB1.below al2 hB1.lt)
  have hg12 : g1 < W2.heap.size := (hB1.below al2 hB1.lt).lt
  clear hB1 hB2 al1 al2
  go_enter Tryz.func160, Tryz.ntmps160
  go_wp2_with fail
  refine HA.out.mono ?_
  rintro e w4 ⟨k, w3, rfl, ⟨hq, ht3⟩, hb3, hw4⟩
  have hgne : g1 ≠ W2.heap.size := by omega
  rcases hq with ⟨hk0, y, a, hr, h3⟩ | ⟨hk0, hr, h3⟩
  · subst hk0
    have HF := Lib.hid (And.intro hr (HPost.out w4 y a 0 w3 h3 ht3 hb3 hw4))
    clear hr h3 ht3 hb3 hw4 HA HPost HPostX b1
    go_wp2
    go_ret
    exact ⟨.inl ⟨y, HF.out.1, rfl, HF.out.2.1.core⟩, HU.out.trans HF.out.2.2⟩
  · have hF := HPostX.out w4 k w3 h3 ht3 hb3 hw4
    obtain ⟨⟨a, hLn, haS⟩, hS9, ⟨st, l, s, T, hOA, hok, hsz, hlb⟩, hplx⟩ := hF.1
    obtain ⟨lv, hOB, hOR, hbo, hnfo⟩ := oa_outE hOA
    have e1 : (k == 0) = false := by rw [beq_eq_false_iff_ne]; exact hk0
    have e2 : (k != 0) = true := by simp [bne, e1]
    have hbxL : ¬ omObj (.cells #[.pointer (some ⟨L, 0, none⟩)] 208 (0, 0)) := by
      rintro ((hc | hc) | hc)
      · rcases hc with hc | hc
        · simp only [tA, tObj, aK, kA, kM, kO, kP, kE] at hc; exact absurd hc (by decide)
        · simp only [lnOo] at hc; exact absurd hc (by decide)
      · simp only [opO] at hc; exact absurd hc (by decide)
      · simp only [erOo] at hc; exact absurd hc (by decide)
    have hB4 : Blk w4 g1 208 #[.pointer (some ⟨L, 0, none⟩)] := HB1.out.tch hF.2 (.inr hbxL)
    have c0 : w4.drew.cell? ⟨g1, 0, none⟩ = some (.pointer (some ⟨L, 0, none⟩)) := hB4.cell 0
    have l0 : w4.drew.cell? ⟨L, 0, none⟩ = some (.string ⟨S.toArray⟩) := Blk.cell hLn 0
    have l1 : w4.drew.cell? ⟨L, 1, none⟩ = some (.int .i64 (a : Int)) := Blk.cell hLn 1
    have l2 : w4.drew.cell? ⟨L, 2, none⟩ = some (.pointer (some ⟨o, 0, none⟩)) := Blk.cell hLn 2
    have o2 : w4.drew.cell? ⟨o, 2, none⟩ = some (.int .i64 0) := hOB.cell 2
    have of := hOB.frozen 2
    have ol := hOB.lt
    obtain ⟨b, hb⟩ : ∃ b : Nat, (S.length : Int) - (a : Int) = b := ⟨S.length - a, by omega⟩
    have hbn : b ≤ S.length := by omega
    have hwb : IntKind.i64.wrap (b : Int) = b := by rw [IntKind.wrap_i64]; omega
    have hz := bsize S
    have HFin := Lib.hid (show OutBad base o ck S.length (w4.drew.setCell ⟨o, 2, none⟩ (.int .i64 (b : Int))) ∧ Tch base omObj w4 (w4.drew.setCell ⟨o, 2, none⟩ (.int .i64 (b : Int))) from by
      have ht : Tch base oOnly w4.drew (w4.drew.setCell ⟨o, 2, none⟩ (.int .i64 (b : Int))) := (Tch.refl _ _ _).set (w' := w4.drew) hOB hbo hnfo (show oOnly (.cells _ _ _) from rfl) 2 _
      refine ⟨⟨l, b, hbn, ⟨lv, Blk.set_ (w := w4.drew) hOB 2 _, (hOR.below (below_drew (Below.refl _ _))).tch ht (fun _ _ => by simp only [oOnly]; decide)⟩, hok, hsz, hlb, hbo, hnfo⟩, ?_⟩
      refine (Tch.of_below (below_drew (Below.refl _ _))).trans (ht.wide fun q hq => ?_)
      cases q <;> simp only [oOnly] at hq
      exact .inl (.inl (.inl (.inl (.inr (.inr (.inl hq))))))  )
    have HRk := Lib.hid (And.intro hr hk0)
    have HT4 := Lib.hid hF.2
    have hBk := oback_any (o := o) w4.drew (b : Int) #[] 0 (.int .i64 0) o2 of ol
    have HBk := Lib.hid hBk
    clear hF hr h3 ht3 hb3 hw4 HA HPost HPostX b1 hB4 hOB hOR hOA hLn hBk hk0
    go_wp2
    refine region_g [14] (S := (fun W => W.cell? ⟨g1, 0, none⟩ = some (.pointer (some ⟨L, 0, none⟩)) ∧ W.cell? ⟨L, 0, none⟩ = some (.string ⟨S.toArray⟩) ∧ W.cell? ⟨L, 1, none⟩ = some (.int .i64 (a : Int)) ∧ W.cell? ⟨L, 2, none⟩ = some (.pointer (some ⟨o, 0, none⟩)) ∧ True)) (by kernel_rfl) ⟨c0, l0, l1, l2, trivial⟩ (fun hH => ?_)
    refine g_takeT 20 (i := 0) (v := .pointer (some ⟨L, 0, none⟩)) (by rfl) (by kernel_rfl) (by kernel_rfl) (by kernel_rfl) (by kernel_rfl) (by kernel_rfl) (fun _ _ _ h => (by cases h.1)) (Or.inl ⟨by kernel_rfl, fun W hS => (by obtain ⟨q0, q1, q2, q3, q4⟩ := hS; go_simp)⟩) hH ?_
    simp only [Act.put, List.setIfInBounds_toArray, List.set_cons_zero, List.set_cons_succ]
    refine g_takeT 20 (i := 1) (v := .pointer (some ⟨L, 0, none⟩)) (by rfl) (by kernel_rfl) (by kernel_rfl) (by kernel_rfl) (by kernel_rfl) (by kernel_rfl) (fun _ _ _ h => (by cases h.1)) (Or.inl ⟨by kernel_rfl, fun W hS => (by obtain ⟨q0, q1, q2, q3, q4⟩ := hS; go_simp)⟩) hH ?_
    simp only [Act.put, List.setIfInBounds_toArray, List.set_cons_zero, List.set_cons_succ]
    refine g_takeT 20 (i := 2) (v := .pointer (some ⟨L, 2, none⟩)) (by rfl) (by kernel_rfl) (by kernel_rfl) (by kernel_rfl) (by kernel_rfl) (by kernel_rfl) (fun _ _ _ h => (by cases h.1)) (Or.inl ⟨by kernel_rfl, fun W hS => (by obtain ⟨q0, q1, q2, q3, q4⟩ := hS; go_simp)⟩) hH ?_
    simp only [Act.put, List.setIfInBounds_toArray, List.set_cons_zero, List.set_cons_succ]
    refine g_takeT 20 (i := 3) (v := .pointer (some ⟨o, 0, none⟩)) (by rfl) (by kernel_rfl) (by kernel_rfl) (by kernel_rfl) (by kernel_rfl) (by kernel_rfl) (fun _ _ _ h => (by cases h.1)) (Or.inl ⟨by kernel_rfl, fun W hS => (by obtain ⟨q0, q1, q2, q3, q4⟩ := hS; go_simp)⟩) hH ?_
    simp only [Act.put, List.setIfInBounds_toArray, List.set_cons_zero, List.set_cons_succ]
    refine g_takeT 20 (i := 4) (v := .pointer (some ⟨L, 0, none⟩)) (by rfl) (by kernel_rfl) (by kernel_rfl) (by kernel_rfl) (by kernel_rfl) (by kernel_rfl) (fun _ _ _ h => (by cases h.1)) (Or.inl ⟨by kernel_rfl, fun W hS => (by obtain ⟨q0, q1, q2, q3, q4⟩ := hS; go_simp)⟩) hH ?_
    simp only [Act.put, List.setIfInBounds_toArray, List.set_cons_zero, List.set_cons_succ]
    refine g_takeT 20 (i := 5) (v := .pointer (some ⟨L, 0, none⟩)) (by rfl) (by kernel_rfl) (by kernel_rfl) (by kernel_rfl) (by kernel_rfl) (by kernel_rfl) (fun _ _ _ h => (by cases h.1)) (Or.inl ⟨by kernel_rfl, fun W hS => (by obtain ⟨q0, q1, q2, q3, q4⟩ := hS; go_simp)⟩) hH ?_
    simp only [Act.put, List.setIfInBounds_toArray, List.set_cons_zero, List.set_cons_succ]
    refine g_takeT 20 (i := 6) (v := .pointer (some ⟨L, 0, none⟩)) (by rfl) (by kernel_rfl) (by kernel_rfl) (by kernel_rfl) (by kernel_rfl) (by kernel_rfl) (fun _ _ _ h => (by cases h.1)) (Or.inl ⟨by kernel_rfl, fun W hS => (by obtain ⟨q0, q1, q2, q3, q4⟩ := hS; go_simp)⟩) hH ?_
    simp only [Act.put, List.setIfInBounds_toArray, List.set_cons_zero, List.set_cons_succ]
    refine g_takeT 20 (i := 7) (v := .string ⟨S.toArray⟩) (by rfl) (by kernel_rfl) (by kernel_rfl) (by kernel_rfl) (by kernel_rfl) (by kernel_rfl) (fun _ _ _ h => (by cases h.1)) (Or.inl ⟨by kernel_rfl, fun W hS => (by obtain ⟨q0, q1, q2, q3, q4⟩ := hS; go_simp)⟩) hH ?_
    simp only [Act.put, List.setIfInBounds_toArray, List.set_cons_zero, List.set_cons_succ]
    refine g_takeT 20 (i := 8) (v := .int .i64 (S.length : Int)) (by rfl) (by kernel_rfl) (by kernel_rfl) (by kernel_rfl) (by kernel_rfl) (by kernel_rfl) (fun _ _ _ h => (by cases h.1)) (Or.inl ⟨by kernel_rfl, fun W hS => (by obtain ⟨q0, q1, q2, q3, q4⟩ := hS; go_simp)⟩) hH ?_
    simp only [Act.put, List.setIfInBounds_toArray, List.set_cons_zero, List.set_cons_succ]
    refine g_takeT 20 (i := 9) (v := .pointer (some ⟨L, 0, none⟩)) (by rfl) (by kernel_rfl) (by kernel_rfl) (by kernel_rfl) (by kernel_rfl) (by kernel_rfl) (fun _ _ _ h => (by cases h.1)) (Or.inl ⟨by kernel_rfl, fun W hS => (by obtain ⟨q0, q1, q2, q3, q4⟩ := hS; go_simp)⟩) hH ?_
    simp only [Act.put, List.setIfInBounds_toArray, List.set_cons_zero, List.set_cons_succ]
    refine g_takeT 20 (i := 10) (v := .pointer (some ⟨L, 0, none⟩)) (by rfl) (by kernel_rfl) (by kernel_rfl) (by kernel_rfl) (by kernel_rfl) (by kernel_rfl) (fun _ _ _ h => (by cases h.1)) (Or.inl ⟨by kernel_rfl, fun W hS => (by obtain ⟨q0, q1, q2, q3, q4⟩ := hS; go_simp)⟩) hH ?_
    simp only [Act.put, List.setIfInBounds_toArray, List.set_cons_zero, List.set_cons_succ]
    refine g_takeT 20 (i := 11) (v := .pointer (some ⟨L, 1, none⟩)) (by rfl) (by kernel_rfl) (by kernel_rfl) (by kernel_rfl) (by kernel_rfl) (by kernel_rfl) (fun _ _ _ h => (by cases h.1)) (Or.inl ⟨by kernel_rfl, fun W hS => (by obtain ⟨q0, q1, q2, q3, q4⟩ := hS; go_simp)⟩) hH ?_
    simp only [Act.put, List.setIfInBounds_toArray, List.set_cons_zero, List.set_cons_succ]
    refine g_takeT 20 (i := 12) (v := .int .i64 (a : Int)) (by rfl) (by kernel_rfl) (by kernel_rfl) (by kernel_rfl) (by kernel_rfl) (by kernel_rfl) (fun _ _ _ h => (by cases h.1)) (Or.inl ⟨by kernel_rfl, fun W hS => (by obtain ⟨q0, q1, q2, q3, q4⟩ := hS; go_simp)⟩) hH ?_
    simp only [Act.put, List.setIfInBounds_toArray, List.set_cons_zero, List.set_cons_succ]
    refine g_takeT 20 (i := 13) (v := .int .i64 (b : Int)) (by rfl) (by kernel_rfl) (by kernel_rfl) (by kernel_rfl) (by kernel_rfl) (by kernel_rfl) (fun _ _ _ h => (by cases h.1)) (Or.inl ⟨by kernel_rfl, fun W hS => (by obtain ⟨q0, q1, q2, q3, q4⟩ := hS; go_simp)⟩) hH ?_
    simp only [Act.put, List.setIfInBounds_toArray, List.set_cons_zero, List.set_cons_succ]
    refine g_one (i := 14) (by kernel_rfl) (by rfl) (fun K hK => ?_)
    go_simp
    refine HBk.out.mono ?_
    rintro e w5 ⟨rfl, rfl⟩
    refine hK.out _ _ (fun h => absurd (List.mem_singleton.2 rfl) h) (fun _ => ?_)
    clear hK K hH
    refine g_done (by kernel_rfl) ⟨by first | rfl | trivial, ?_⟩ _
    go_wp2
    go_ret
    exact ⟨.inr ⟨HRk.out.1, k, HRk.out.2, rfl, HFin.out.1⟩, (HU.out.trans HT4.out).trans HFin.out.2⟩
end
end Go.Proofs.YtalkjgijmceifaaGreatDoor

/-
  lines: Name, Bare, Number, Quoted under what holds between the steps; Last, boolean, Value, for any telling.
  lines: Tell, for any telling of the stream's.
-/
import Derived.Test.YtalkjgijmceifaaGreatDoorOwA26
namespace Go.Proofs.YtalkjgijmceifaaGreatDoor
open Go.RowKit Go.Maps
set_option maxRecDepth 100000
set_option linter.unusedSimpArgs false
set_option linter.unusedVariables false
set_option linter.unusedSectionVars false
variable [Tab] [Fo]

section
variable {L : Nat} {o : LO} {S : List UInt8} {I : Nat → World → Prop} {F : Int → World → Prop} (H : LnI L o S I F) {a : Nat} {w : World}
include H
theorem tk_I {r : Option (ByteArray × Nat)} {e : Ending} {w' : World} (h : I a w) (hp : TkP w L o S a r e w') : Ps I F r e w' := by
  rcases hp with ⟨⟨t, a', h1, h2, h3, h4, h5, h6⟩ | ⟨h1, k, a', h2, h3, h4, h5⟩, hF⟩
  · exact .inl ⟨t, a', h1, h2, H.go h h6 (by omega) hF⟩
  · exact .inr ⟨h1, k, h3, H.fail k (H.go h h5 h4 hF) h2⟩
theorem name_I (h : I a w) : Calls Tryz.prog 197 #[.pointer (some ⟨L, 0, none⟩)] w (Ps I F (nameP S a)) :=
  (name_any w L o S a (H.line h).1 H.len (H.line h).2).mono fun e w' hp => tk_I H h hp
theorem bare_I (h : I a w) : Calls Tryz.prog 263 #[.pointer (some ⟨L, 0, none⟩)] w (Ps I F (bareP S a)) :=
  (bare_any w L o S a (H.line h).1 H.len (H.line h).2).mono fun e w' hp => tk_I H h hp
theorem number_I {base : Nat} (h : I a w) (hb : base ≤ w.heap.size ∧ base ≤ L) (hw : SW base w) : Calls Tryz.prog 219 #[.pointer (some ⟨L, 0, none⟩)] w (Ps I F (numP S a)) :=
  (number_any w base L o S a (H.line h).1 H.len (H.line h).2 hb hw).mono fun e w' hp => tk_I H h hp
theorem quoted_I (h : I a w) (hfl : Fo.lim ≤ w.heap.size) : Calls Tryz.prog 196 #[.pointer (some ⟨L, 0, none⟩)] w (Ps I F (quoP S a)) :=
  (quoted_any w L o S a (H.line h).1 H.len (H.line h).2 hfl).mono fun e w' hp => tk_I H h hp
end
/-- What holds between the steps of a parsing that tells. -/
structure LnT {σ : Type} (M : TM σ) (base L : Nat) (o : LO) (S : List UInt8) (I : σ → Nat → World → Prop) (F : Int → World → Prop) : Prop where
  rd : ∀ x, LnI L o S (I x) F
  tell : ∀ {x a w} (ev : Ev), I x a w → M.len x ≤ 900000 → ev.t.size ≤ 1000 → Calls Tryz.prog 174 #[.pointer (some ⟨L, 0, none⟩), .agg #[.int .i64 ev.k, .string ev.t, .string ev.v]] w (Pq I F ((M.tell x ev).map fun x' => (a, x')))
  std : ∀ {x a w}, I x a w → SW base w ∧ base ≤ w.heap.size ∧ base ≤ L ∧ Fo.lim ≤ w.heap.size
/-- Room for the events that the rest of a line tells. -/
def OkL {σ : Type} (M : TM σ) (S : List UInt8) (a : Nat) (x : σ) : Prop := M.len x + 2 * (S.length - a) ≤ 900000
section
variable {σ : Type} {M : TM σ} {base L : Nat} {o : LO} {S : List UInt8} {I : σ → Nat → World → Prop} {F : Int → World → Prop} (T : LnT M base L o S I F) {a : Nat} {x : σ} {w : World}
include T
theorem last_T (ev : Ev) (h : I x a w) (hl : M.len x ≤ 900000) (hs : ev.t.size ≤ 1000) (hal : a < S.length) :
    Calls Tryz.prog 188 #[.pointer (some ⟨L, 0, none⟩), .agg #[.int .i64 ev.k, .string ev.t, .string ev.v]] w (Pq I F (lastM M a x ev)) := by
  have HT := Lib.hid (T.tell ev (alloc_I (T.rd x) h (.cells #[.int .i64 ev.k, .string ev.t, .string ev.v] 38)) hl hs)
  unfold lastM
  have hS := (T.rd x).len
  clear h
  go_enter Tryz.func188, Tryz.ntmps188
  go_wp2_with fail
  refine HT.out.mono ?_
  rintro e w1 (⟨a1, x1, hr, rfl, h1⟩ | ⟨hr, k, rfl, hF⟩)
  case inr =>
    refine ⟨rfl, .inr ⟨?_, k, rfl, hF⟩⟩
    cases ht : M.tell x ev with
    | none => rfl
    | some y => rw [ht] at hr; cases hr
  cases ht : M.tell x ev with
  | none => rw [ht] at hr; cases hr
  | some y =>
    rw [ht] at hr
    have e1 : (a, y) = (a1, x1) := Option.some.inj hr
    injection e1 with e1 e2
    subst e1 e2
    have l1 : w1.cell? ⟨L, 1, none⟩ = some (.int .i64 (a : Int)) := Blk.cell ((T.rd y).line h1).1 1
    have f1 := Blk.frozen ((T.rd y).line h1).1 1
    have hlt := Blk.lt ((T.rd y).line h1).1
    have hn := next_I (T.rd y) h1 hal
    obtain ⟨a2, ha2⟩ : ∃ a2 : Nat, (a : Int) + 1 = a2 := ⟨a + 1, rfl⟩
    have hn2 : a + 1 = a2 := by omega
    rw [hn2] at hn
    have HN := Lib.hid hn
    have HE : Hid (((M.tell x ev).map fun x' => (a + 1, x')) = some (a2, y)) := Lib.hid (by rw [ht, ← hn2]; rfl)
    clear h1 hn hr ht HT hn2
    go_wp2
    go_end0
    exact .inl ⟨a2, y, HE.out, rfl, HN.out⟩
theorem boolean_T (wd : List UInt8) (hw0 : 0 < wd.length) (hw9 : wd.length ≤ 9) (h : I x a w) (hl : M.len x ≤ 900000) :
    Calls Tryz.prog 218 #[.pointer (some ⟨L, 0, none⟩), .string ⟨wd.toArray⟩] w (Pq I F ((wordP S wd a).bind fun a1 => lastM M a1 x (evT 2 ⟨wd.toArray⟩))) := by
  have HW := Lib.hid (word_I (T.rd x) wd hw0 hw9 h)
  have hz : (⟨wd.toArray⟩ : ByteArray).size ≤ 1000 := by rw [bsize]; omega
  obtain ⟨R, hR⟩ : ∃ R, ((wordP S wd a).bind fun a1 => lastM M a1 x (evT 2 ⟨wd.toArray⟩)) = R := ⟨_, rfl⟩
  rw [hR]
  have HR := Lib.hid hR
  clear h hR
  go_enter Tryz.func218, Tryz.ntmps218
  go_wp2_with fail
  refine HW.out.mono ?_
  rintro e w1 (⟨a1, hr, rfl, h1⟩ | ⟨hr, k, rfl, hF⟩)
  case inr => exact ⟨rfl, .inr ⟨by rw [← HR.out, hr]; rfl, k, rfl, hF⟩⟩
  have hal := (word_fa _ _ _ hr).2
  rw [hr] at HR
  have HR2 : Hid (lastM M a1 x (evT 2 ⟨wd.toArray⟩) = R) := Lib.hid HR.out
  have hL := last_T T (evT 2 ⟨wd.toArray⟩) h1 hl hz hal
  rw [HR2.out] at hL
  have HL := Lib.hid hL
  clear h1 HW hr HR HR2 hL
  go_wp2_with fail
  refine HL.out.mono ?_
  rintro e w2 (⟨a2, x2, hr, rfl, h2⟩ | ⟨hr, k, rfl, hF⟩)
  case inr => exact ⟨rfl, .inr ⟨hr, k, rfl, hF⟩⟩
  have H2 := Lib.hid (And.intro hr h2)
  clear h2 HL hr
  go_wp2
  go_end0
  exact .inl ⟨a2, x2, H2.out.1, rfl, H2.out.2⟩
/-- A value: its closures are the syntax's own. -/
structure Clo (base : Nat) (S : List UInt8) (M : TM σ) (I : σ → Nat → World → Prop) (F : Int → World → Prop) (a : Nat) (g : FuncId) (first cap : Array Value) (p : Nat → σ → Option (Nat × σ)) : Prop where
  hef : ∀ args w, (callFunc g args).run Tryz.prog w = .ok (.enter g args) w
  calls : ∀ a1 x1 w1, a < a1 → OkL M S a1 x1 → I x1 a1 w1 → Calls Tryz.prog g (first ++ cap) w1 (Pq I F (p a1 x1))
  fa : Fa M S p
omit T in
theorem okL_mono {a1 a2 : Nat} {x1 : σ} (h : a1 ≤ a2) (ho : OkL M S a1 x1) : OkL M S a2 x1 := by unfold OkL at *; omega
theorem clo_parts (b : UInt8) {g : FuncId} {first cap : Array Value} {p : Nat → σ → Option (Nat × σ)} {a0 : Nat} (hc : Clo base S M I F a0 g first cap p) (ha : a0 < a) (ho : OkL M S a x) (h : I x a w) :
    Calls Tryz.prog 217 #[.pointer (some ⟨L, 0, none⟩), .int .u8 (b.toNat : Int), .func (.func g) first cap] w (Pq I F (partsG S b p a x)) :=
  parts_I T.rd b g first cap hc.hef p (OkL M S) okL_mono ho h (fun a1 x1 w1 h1 ho1 hi1 => hc.calls a1 x1 w1 (by omega) ho1 hi1) (fun a1 x1 a2 x2 h1 ho1 hp => by
    obtain ⟨k1, k2, k3, _⟩ := hc.fa _ _ _ _ hp
    exact ⟨k1, by unfold OkL at *; omega⟩)
set_option maxHeartbeats 4000000 in
theorem value_T {g1 g2 : FuncId} {f1 c1 f2 c2 : Array Value} {val fld : Nat → σ → Option (Nat × σ)} (hv : Clo base S M I F a g1 f1 c1 val) (hf : Clo base S M I F a g2 f2 c2 fld) (h : I x a w) (ho : OkL M S a x) :
    Calls Tryz.prog 209 #[.pointer (some ⟨L, 0, none⟩), .func (.func g1) f1 c1, .func (.func g2) f2 c2] w (Pq I F (valueG M S val fld a x)) := by
  obtain ⟨R, hR⟩ : ∃ R, valueG M S val fld a x = R := ⟨_, rfl⟩
  rw [hR]
  unfold valueG at hR
  have HR := Lib.hid hR
  have HV := Lib.hid hv
  have HFl := Lib.hid hf
  have HO := Lib.hid ho
  have hl : M.len x ≤ 900000 := by unfold OkL at ho; omega
  have HL0 := Lib.hid hl
  have HC := Lib.hid (is_I (T.rd x) 91 h)
  have two : ∀ (b1 b2 : UInt8) (k1 k2 : Int) (g : FuncId) (f c : Array Value) (p : Nat → σ → Option (Nat × σ)) (w1 : World), Clo base S M I F a g f c p → isB S a b1 = true → I x a w1 → ((M.tell x (evB k1)).bind fun x1 => (partsG S b2 p (a + 1) x1).bind fun q => lastM M q.1 q.2 (evB k2)) = R →
      Calls Tryz.prog 188 #[.pointer (some ⟨L, 0, none⟩), .agg #[.int .i64 k1, .string ⟨#[]⟩, .string ⟨#[]⟩]] w1 fun e w2 => (e = .returned (.tuple #[]) ∧ Calls Tryz.prog 217 #[.pointer (some ⟨L, 0, none⟩), .int .u8 (b2.toNat : Int), .func (.func g) f c] w2 fun e w3 => (e = .returned (.tuple #[]) ∧ Calls Tryz.prog 188 #[.pointer (some ⟨L, 0, none⟩), .agg #[.int .i64 k2, .string ⟨#[]⟩, .string ⟨#[]⟩]] w3 (Pq I F R)) ∨ (R = none ∧ ∃ k, e = .panicked (failP k) ∧ F k w3)) ∨ (R = none ∧ ∃ k, e = .panicked (failP k) ∧ F k w2) := by
    intro b1 b2 k1 k2 g f c p w1 hc hb h1 hR
    have hal := isB_true hb
    refine (last_T T (evB k1) h1 hl (Nat.zero_le _) hal).mono ?_
    rintro e w2 (⟨a2, x2, hr, rfl, h2⟩ | ⟨hr, k, rfl, hF⟩)
    case inr =>
      refine .inr ⟨?_, k, rfl, hF⟩
      unfold lastM at hr
      cases ht : M.tell x (evB k1) with
      | none => rw [ht] at hR; exact hR.symm
      | some y => rw [ht] at hr; cases hr
    obtain ⟨rfl, ht⟩ := lastM_some hr
    rw [ht] at hR
    have ho2 : OkL M S (a + 1) x2 := by have := M.tl ht; unfold OkL at *; omega
    refine .inl ⟨rfl, (clo_parts T b2 hc (Nat.lt_succ_self a) ho2 h2).mono ?_⟩
    rintro e w3 (⟨a3, x3, hr3, rfl, h3⟩ | ⟨hr3, k, rfl, hF⟩)
    case inr => exact .inr ⟨by rw [← hR]; show (partsG S b2 p (a + 1) x2).bind _ = none; rw [hr3]; rfl, k, rfl, hF⟩
    obtain ⟨j1, j2, j3, j4⟩ := parts_fa hc.fa hr3
    have hR3 : lastM M a3 x3 (evB k2) = R := by rw [← hR]; show _ = (partsG S b2 p (a + 1) x2).bind _; rw [hr3]; rfl
    have hl3 : M.len x3 ≤ 900000 := by have := isB_true j2; unfold OkL at ho2; omega
    refine .inl ⟨rfl, ?_⟩
    have := last_T T (evB k2) h3 hl3 (Nat.zero_le _) (isB_true j2)
    rw [hR3] at this
    exact this
  have HTwo := Lib.hid two
  clear h hR hv hf ho two
  go_enter Tryz.func209, Tryz.ntmps209
  go_wp2_with fail
  refine HC.out.mono ?_
  rintro e w1 ⟨rfl, h1⟩
  have H1 := Lib.hid h1
  clear h1 HC
  cases hb : isB S a 91 with
  | true =>
    rw [if_pos hb] at HR
    have HC := Lib.hid (HTwo.out 91 93 5 6 g1 f1 c1 val w1 HV.out hb H1.out HR.out)
    clear hb HR HTwo HV HFl HO HL0 H1
    go_wp2_with fail
    refine HC.out.mono ?_
    rintro e w2 (⟨rfl, hC2⟩ | ⟨hr, k, rfl, hF⟩)
    case inr => exact ⟨rfl, .inr ⟨hr, k, rfl, hF⟩⟩
    have HC2 := Lib.hid hC2
    clear hC2 HC
    go_wp2_with fail
    refine HC2.out.mono ?_
    rintro e w3 (⟨rfl, hC3⟩ | ⟨hr, k, rfl, hF⟩)
    case inr => exact ⟨rfl, .inr ⟨hr, k, rfl, hF⟩⟩
    have HC3 := Lib.hid hC3
    clear hC3 HC2
    go_wp2_with fail
    refine HC3.out.mono ?_
    rintro e w4 (⟨a4, x4, hr, rfl, h4⟩ | ⟨hr, k, rfl, hF⟩)
    case inr => exact ⟨rfl, .inr ⟨hr, k, rfl, hF⟩⟩
    have H4 := Lib.hid (And.intro hr h4)
    clear hr h4 HC3
    go_wp2
    go_end0
    exact .inl ⟨a4, x4, H4.out.1, rfl, H4.out.2⟩
  | false =>
  rw [if_neg (by rw [hb]; decide)] at HR
  clear hb
  have HC := Lib.hid (is_I (T.rd x) 123 H1.out)
  clear H1
  go_wp2_with fail
  refine HC.out.mono ?_
  rintro e w1 ⟨rfl, h1⟩
  have H1 := Lib.hid h1
  clear h1 HC
  cases hb : isB S a 123 with
  | true =>
    rw [if_pos hb] at HR
    have HC := Lib.hid (HTwo.out 123 125 7 9 g2 f2 c2 fld w1 HFl.out hb H1.out HR.out)
    clear hb HR HTwo HV HFl HO HL0 H1
    go_wp2_with fail
    refine HC.out.mono ?_
    rintro e w2 (⟨rfl, hC2⟩ | ⟨hr, k, rfl, hF⟩)
    case inr => exact ⟨rfl, .inr ⟨hr, k, rfl, hF⟩⟩
    have HC2 := Lib.hid hC2
    clear hC2 HC
    go_wp2_with fail
    refine HC2.out.mono ?_
    rintro e w3 (⟨rfl, hC3⟩ | ⟨hr, k, rfl, hF⟩)
    case inr => exact ⟨rfl, .inr ⟨hr, k, rfl, hF⟩⟩
    have HC3 := Lib.hid hC3
    clear hC3 HC2
    go_wp2_with fail
    refine HC3.out.mono ?_
    rintro e w4 (⟨a4, x4, hr, rfl, h4⟩ | ⟨hr, k, rfl, hF⟩)
    case inr => exact ⟨rfl, .inr ⟨hr, k, rfl, hF⟩⟩
    have H4 := Lib.hid (And.intro hr h4)
    clear hr h4 HC3
    go_wp2
    go_end0
    exact .inl ⟨a4, x4, H4.out.1, rfl, H4.out.2⟩
  | false =>
  rw [if_neg (by rw [hb]; decide)] at HR
  clear hb HTwo HV HFl HO
  have HC := Lib.hid (is_I (T.rd x) 34 H1.out)
  clear H1
  go_wp2_with fail
  refine HC.out.mono ?_
  rintro e w1 ⟨rfl, h1⟩
  have H1 := Lib.hid h1
  clear h1 HC
  cases hb : isB S a 34 with
  | true =>
    rw [if_pos hb] at HR
    have HQ := Lib.hid (quoted_I (T.rd x) H1.out (T.std H1.out).2.2.2)
    clear hb H1
    go_wp2_with fail
    refine HQ.out.mono ?_
    rintro e w2 (⟨t, a2, hr, rfl, h2⟩ | ⟨hr, k, rfl, hF⟩)
    case inr => exact ⟨rfl, .inr ⟨by rw [← HR.out, hr]; rfl, k, rfl, hF⟩⟩
    rw [hr] at HR
    have hL := last_T T (evT 4 t) h2 HL0.out (quo_sz hr) (quo_fa hr).2
    rw [show lastM M a2 x (evT 4 t) = R from HR.out] at hL
    have HL := Lib.hid hL
    clear h2 hr HQ hL HR HL0
    go_wp2_with fail
    refine HL.out.mono ?_
    rintro e w4 (⟨a4, x4, hr, rfl, h4⟩ | ⟨hr, k, rfl, hF⟩)
    case inr => exact ⟨rfl, .inr ⟨hr, k, rfl, hF⟩⟩
    have H4 := Lib.hid (And.intro hr h4)
    clear hr h4 HL
    go_wp2
    go_end0
    exact .inl ⟨a4, x4, H4.out.1, rfl, H4.out.2⟩
  | false =>
  rw [if_neg (by rw [hb]; decide)] at HR
  clear hb
  have HC := Lib.hid (is_I (T.rd x) 116 H1.out)
  clear H1
  go_wp2_with fail
  refine HC.out.mono ?_
  rintro e w1 ⟨rfl, h1⟩
  have H1 := Lib.hid h1
  clear h1 HC
  cases hb : isB S a 116 with
  | true =>
    rw [if_pos hb] at HR
    have hL := boolean_T T trueL (by decide) (by decide) H1.out HL0.out
    rw [HR.out] at hL
    have HL := Lib.hid hL
    clear hb H1 hL HR HL0
    go_wp2_with fail
    refine HL.out.mono ?_
    rintro e w4 (⟨a4, x4, hr, rfl, h4⟩ | ⟨hr, k, rfl, hF⟩)
    case inr => exact ⟨rfl, .inr ⟨hr, k, rfl, hF⟩⟩
    have H4 := Lib.hid (And.intro hr h4)
    clear hr h4 HL
    go_wp2
    go_end0
    exact .inl ⟨a4, x4, H4.out.1, rfl, H4.out.2⟩
  | false =>
  rw [if_neg (by rw [hb]; decide)] at HR
  clear hb
  have HC := Lib.hid (is_I (T.rd x) 102 H1.out)
  clear H1
  go_wp2_with fail
  refine HC.out.mono ?_
  rintro e w1 ⟨rfl, h1⟩
  have H1 := Lib.hid h1
  clear h1 HC
  cases hb : isB S a 102 with
  | true =>
    rw [if_pos hb] at HR
    have hL := boolean_T T falseL (by decide) (by decide) H1.out HL0.out
    rw [HR.out] at hL
    have HL := Lib.hid hL
    clear hb H1 hL HR HL0
    go_wp2_with fail
    refine HL.out.mono ?_
    rintro e w4 (⟨a4, x4, hr, rfl, h4⟩ | ⟨hr, k, rfl, hF⟩)
    case inr => exact ⟨rfl, .inr ⟨hr, k, rfl, hF⟩⟩
    have H4 := Lib.hid (And.intro hr h4)
    clear hr h4 HL
    go_wp2
    go_end0
    exact .inl ⟨a4, x4, H4.out.1, rfl, H4.out.2⟩
  | false =>
  rw [if_neg (by rw [hb]; decide)] at HR
  clear hb
  have HQ := Lib.hid (number_I (T.rd x) H1.out ⟨(T.std H1.out).2.1, (T.std H1.out).2.2.1⟩ (T.std H1.out).1)
  clear H1
  go_wp2_with fail
  refine HQ.out.mono ?_
  rintro e w2 (⟨t, a2, hr, rfl, h2⟩ | ⟨hr, k, rfl, hF⟩)
  case inr => exact ⟨rfl, .inr ⟨by rw [← HR.out, hr]; rfl, k, rfl, hF⟩⟩
  rw [hr] at HR
  have hL := last_T T (evT 3 t) h2 HL0.out (num_sz hr) (num_fa hr).2
  rw [show lastM M a2 x (evT 3 t) = R from HR.out] at hL
  have HL := Lib.hid hL
  clear h2 hr HQ hL HR HL0
  go_wp2_with fail
  refine HL.out.mono ?_
  rintro e w4 (⟨a4, x4, hr, rfl, h4⟩ | ⟨hr, k, rfl, hF⟩)
  case inr => exact ⟨rfl, .inr ⟨hr, k, rfl, hF⟩⟩
  have H4 := Lib.hid (And.intro hr h4)
  clear hr h4 HL
  go_wp2
  go_end0
  exact .inl ⟨a4, x4, H4.out.1, rfl, H4.out.2⟩
end
end Go.Proofs.YtalkjgijmceifaaGreatDoor
namespace Go.Proofs.YtalkjgijmceifaaGreatDoor
open Go.RowKit Go.Maps
set_option maxRecDepth 100000
set_option linter.unusedSimpArgs false
set_option linter.unusedVariables false
set_option linter.unusedSectionVars false
variable [Tab] [Fo]

set_option maxHeartbeats 2000000 in
theorem ltell_any (w : World) (L : Nat) (o : LO) (S : List UInt8) (a : Nat) (ev : Ev) (h : LAt w L o S a) (Q : Int → World → Prop)
    (hT : ∀ w1, Below w.heap.size w w1 → Blk w1 w.heap.size 38 #[.int .i64 ev.k, .string ev.t, .string ev.v] → Calls Tryz.prog 149 #[.pointer (some ⟨o.o, 0, none⟩), .agg #[.int .i64 ev.k, .string ev.t, .string ev.v], o.ot] w1 fun e w' => ∃ k, e = .returned (.int .i64 k) ∧ Q k w' ∧ LAt w' L o S a ∧ Blk w' w.heap.size 38 #[.int .i64 ev.k, .string ev.t, .string ev.v]) :
    Calls Tryz.prog 174 #[.pointer (some ⟨L, 0, none⟩), .agg #[.int .i64 ev.k, .string ev.t, .string ev.v]] w fun e w' => ∃ k, MustE k e ∧ Q k w' := by
  have hA := Blk.alloc h (.cells #[.int .i64 ev.k, .string ev.t, .string ev.v] 38)
  have hX := Blk.new w 38 #[.int .i64 ev.k, .string ev.t, .string ev.v]
  have al : Below w.heap.size w (w.alloc (.cells #[.int .i64 ev.k, .string ev.t, .string ev.v] 38)).drew := below_drew ((Below.refl _ _).alloc (Nat.le_refl _) _)
  have HT := Lib.hid (hT _ al hX)
  have c2 : (w.alloc (.cells #[.int .i64 ev.k, .string ev.t, .string ev.v] 38)).cell? ⟨L, 2, none⟩ = some (.pointer (some ⟨o.o, 0, none⟩)) := Blk.cell hA 2
  have c3 : (w.alloc (.cells #[.int .i64 ev.k, .string ev.t, .string ev.v] 38)).cell? ⟨L, 3, none⟩ = some o.ot := Blk.cell hA 3
  have x0 : (w.alloc (.cells #[.int .i64 ev.k, .string ev.t, .string ev.v] 38)).cell? ⟨w.heap.size, 0, none⟩ = some (.int .i64 ev.k) := hX.cell 0
  have x1 : (w.alloc (.cells #[.int .i64 ev.k, .string ev.t, .string ev.v] 38)).cell? ⟨w.heap.size, 1, none⟩ = some (.string ev.t) := hX.cell 1
  have x2 : (w.alloc (.cells #[.int .i64 ev.k, .string ev.t, .string ev.v] 38)).cell? ⟨w.heap.size, 2, none⟩ = some (.string ev.v) := hX.cell 2
  have hlt := Blk.lt h
  clear h hA hX al hT
  go_enter Tryz.func174, Tryz.ntmps174
  go_wp2
  refine region_gp [] (S := (fun W => W.cell? ⟨L, 2, none⟩ = some (.pointer (some ⟨o.o, 0, none⟩)) ∧ W.cell? ⟨L, 3, none⟩ = some o.ot ∧ W.cell? ⟨w.heap.size, 0, none⟩ = some (.int .i64 ev.k) ∧ W.cell? ⟨w.heap.size, 1, none⟩ = some (.string ev.t) ∧ W.cell? ⟨w.heap.size, 2, none⟩ = some (.string ev.v))) (fun c w' => ∃ k, MustE k (.panicked c) ∧ Q k w') (by kernel_rfl) ⟨c2, c3, x0, x1, x2⟩ (fun c a' w' hd hR => ⟨hd, hR⟩) (fun hH => ?_)
  refine g_take (i := 0) (v := .pointer (some ⟨L, 0, none⟩)) (by rfl) (by kernel_rfl) (by kernel_rfl) (by kernel_rfl) (by kernel_rfl) (fun _ _ _ h => pan_put h) (Or.inl ⟨by kernel_rfl, fun W hS => (by obtain ⟨s2, s3, b0, b1, b2⟩ := hS; go_simp)⟩) hH ?_
  simp only [Act.put, List.setIfInBounds_toArray, List.set_cons_zero, List.set_cons_succ]
  refine g_take (i := 1) (v := .pointer (some ⟨L, 0, none⟩)) (by rfl) (by kernel_rfl) (by kernel_rfl) (by kernel_rfl) (by kernel_rfl) (fun _ _ _ h => pan_put h) (Or.inl ⟨by kernel_rfl, fun W hS => (by obtain ⟨s2, s3, b0, b1, b2⟩ := hS; go_simp)⟩) hH ?_
  simp only [Act.put, List.setIfInBounds_toArray, List.set_cons_zero, List.set_cons_succ]
  refine g_take (i := 2) (v := .pointer (some ⟨L, 0, none⟩)) (by rfl) (by kernel_rfl) (by kernel_rfl) (by kernel_rfl) (by kernel_rfl) (fun _ _ _ h => pan_put h) (Or.inl ⟨by kernel_rfl, fun W hS => (by obtain ⟨s2, s3, b0, b1, b2⟩ := hS; go_simp)⟩) hH ?_
  simp only [Act.put, List.setIfInBounds_toArray, List.set_cons_zero, List.set_cons_succ]
  refine g_take (i := 3) (v := .pointer (some ⟨L, 2, none⟩)) (by rfl) (by kernel_rfl) (by kernel_rfl) (by kernel_rfl) (by kernel_rfl) (fun _ _ _ h => pan_put h) (Or.inl ⟨by kernel_rfl, fun W hS => (by obtain ⟨s2, s3, b0, b1, b2⟩ := hS; go_simp)⟩) hH ?_
  simp only [Act.put, List.setIfInBounds_toArray, List.set_cons_zero, List.set_cons_succ]
  refine g_take (i := 4) (v := .pointer (some ⟨o.o, 0, none⟩)) (by rfl) (by kernel_rfl) (by kernel_rfl) (by kernel_rfl) (by kernel_rfl) (fun _ _ _ h => pan_put h) (Or.inl ⟨by kernel_rfl, fun W hS => (by obtain ⟨s2, s3, b0, b1, b2⟩ := hS; go_simp)⟩) hH ?_
  simp only [Act.put, List.setIfInBounds_toArray, List.set_cons_zero, List.set_cons_succ]
  refine g_take (i := 5) (v := .agg #[.int .i64 ev.k, .string ev.t, .string ev.v]) (by rfl) (by kernel_rfl) (by kernel_rfl) (by kernel_rfl) (by kernel_rfl) (fun _ _ _ h => pan_put h) (Or.inl ⟨by kernel_rfl, fun W hS => (by obtain ⟨s2, s3, b0, b1, b2⟩ := hS; go_simp)⟩) hH ?_
  simp only [Act.put, List.setIfInBounds_toArray, List.set_cons_zero, List.set_cons_succ]
  refine g_take (i := 6) (v := .pointer (some ⟨L, 0, none⟩)) (by rfl) (by kernel_rfl) (by kernel_rfl) (by kernel_rfl) (by kernel_rfl) (fun _ _ _ h => pan_put h) (Or.inl ⟨by kernel_rfl, fun W hS => (by obtain ⟨s2, s3, b0, b1, b2⟩ := hS; go_simp)⟩) hH ?_
  simp only [Act.put, List.setIfInBounds_toArray, List.set_cons_zero, List.set_cons_succ]
  refine g_take (i := 7) (v := .pointer (some ⟨L, 0, none⟩)) (by rfl) (by kernel_rfl) (by kernel_rfl) (by kernel_rfl) (by kernel_rfl) (fun _ _ _ h => pan_put h) (Or.inl ⟨by kernel_rfl, fun W hS => (by obtain ⟨s2, s3, b0, b1, b2⟩ := hS; go_simp)⟩) hH ?_
  simp only [Act.put, List.setIfInBounds_toArray, List.set_cons_zero, List.set_cons_succ]
  refine g_take (i := 8) (v := .pointer (some ⟨L, 3, none⟩)) (by rfl) (by kernel_rfl) (by kernel_rfl) (by kernel_rfl) (by kernel_rfl) (fun _ _ _ h => pan_put h) (Or.inl ⟨by kernel_rfl, fun W hS => (by obtain ⟨s2, s3, b0, b1, b2⟩ := hS; go_simp)⟩) hH ?_
  simp only [Act.put, List.setIfInBounds_toArray, List.set_cons_zero, List.set_cons_succ]
  refine g_take (i := 9) (v := o.ot) (by rfl) (by kernel_rfl) (by kernel_rfl) (by kernel_rfl) (by kernel_rfl) (fun _ _ _ h => pan_put h) (Or.inl ⟨by kernel_rfl, fun W hS => (by obtain ⟨s2, s3, b0, b1, b2⟩ := hS; go_simp)⟩) hH ?_
  simp only [Act.put, List.setIfInBounds_toArray, List.set_cons_zero, List.set_cons_succ]
  refine g_one (i := 10) (by kernel_rfl) (by rfl) (fun K hK => ?_)
  go_simp
  refine HT.out.mono ?_
  rintro e w1 ⟨k, rfl, hQ, hL1, hX1⟩
  have HQ := Lib.hid hQ
  have HS := Lib.hid (And.intro (Blk.cell hL1 2) (And.intro (Blk.cell hL1 3) (And.intro (hX1.cell 0) (And.intro (hX1.cell 1) (hX1.cell 2)))))
  clear hQ HT hL1 hX1
  refine hK.out _ _ (fun _ => HS.out) (fun _ => ?_)
  clear hK K
  refine g_one (i := 11) (by kernel_rfl) (by rfl) (fun K hK => ?_)
  go_simp
  refine (must_any _ _ k).mono ?_
  rintro e w2 ⟨⟨hk, rfl⟩ | ⟨hk, rfl⟩, rfl⟩
  case inr => exact .inr ⟨_, rfl, ⟨k, .inr ⟨hk, rfl⟩, HQ.out⟩, rfl⟩
  refine hK.out _ _ (fun _ => HS.out) (fun _ => ?_)
  clear hK K
  refine g_done (by kernel_rfl) (.inl ⟨by first | rfl | trivial, ?_⟩) _
  go_wp2
  go_end0
  exact ⟨k, .inl ⟨hk, rfl⟩, HQ.out⟩
end Go.Proofs.YtalkjgijmceifaaGreatDoor

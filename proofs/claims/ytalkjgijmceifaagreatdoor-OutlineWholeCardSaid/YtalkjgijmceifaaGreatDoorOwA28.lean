/-
  stream: the bytes of a text, its end and Decode, for a machine whose errors are not told apart: it goes on, or there is an error.
  outline: what is known while a line is read; Tell.
  The delim syntax as a plain function on bytes: the machine, its step, its end. No program is read here.
-/
import Derived.Test.YtalkjgijmceifaaGreatDoorOwA13
import Derived.Test.YtalkjgijmceifaaGreatDoorOwA14
import Derived.Test.YtalkjgijmceifaaGreatDoorOwA10
import Derived.Test.YtalkjgijmceifaaGreatDoorOwA19
import Derived.Test.YtalkjgijmceifaaGreatDoorOwA26
import Derived.Test.YtalkjgijmceifaaGreatDoorOwA27
import Derived.Test.YtalkjgijmceifaaGreatDoorOwA11
namespace Go.Proofs.YtalkjgijmceifaaGreatDoor
open Go.RowKit Go.Maps
set_option maxRecDepth 100000
set_option linter.unusedSimpArgs false
set_option linter.unusedVariables false
set_option linter.unusedSectionVars false
variable [Tab] [Fo]

/-- What lies of the Out when a text has ended, or an error was met: the events, how far back the error is; the events are a run. -/
structure OutE (w : World) (base o ck back : Nat) (l : List Ev) : Prop where
  out : ∃ lv, Blk w o 47 #[.pointer (some ⟨ck, 0, none⟩), lv, .int .i64 (back : Int)] ∧ RowT w base lv l
  ok : allOk [topP] l
  sz : ∀ e ∈ l, okE e
  lb : l.length ≤ 1000000
  lo : base ≤ o
  nf : ¬ Fo.F o
/-- What a machine has to be. -/
structure MachI where
  σ : Type
  x0 : σ
  stp : σ → UInt8 → Option σ
  fin : σ → Option (List Ev)
  T : TypeId
  fs : FuncId
  fe : FuncId
  hms : ∀ (a : Addr) (w : World), (method 398 T (.pointer (some a)) "Step").run Tryz.prog w = .ok (fs, .pointer (some a)) w
  hme : ∀ (a : Addr) (w : World), (method 398 T (.pointer (some a)) "End").run Tryz.prog w = .ok (fe, .pointer (some a)) w
  efs : ∀ args w, (callFunc fs args).run Tryz.prog w = .ok (.enter fs args) w
  efe : ∀ args w, (callFunc fe args).run Tryz.prog w = .ok (.enter fe args) w
  raw : World → Nat → Nat → Prop
  At : World → Nat → Nat → Nat → Nat → σ → Prop
  obj : Obj → Prop
  nss : ∀ cs t fr, t = 51 ∨ t = 101 → ¬ obj (.cells cs t fr)
  raw_lim : ∀ {w base m}, raw w base m → Fo.lim ≤ w.heap.size
  start : ∀ {w0 w base b2 m o ck}, raw w0 base m → base ≤ w0.heap.size → Below w0.heap.size w0 w → w0.heap.size ≤ b2 → b2 ≤ w.heap.size → OAt w b2 o ck [topP] [] → SW base w → At w base m o ck x0
  Inv : σ → Nat → Prop
  inv0 : Inv x0 0
  inv_step : ∀ {x n b y}, Inv x n → stp x b = some y → Inv y (n + 1)
  bad : ∀ {w base m o ck x}, At w base m o ck x → ∃ l, OutE w base o ck 0 l
  ss : ∀ {w w' base m o ck x}, At w base m o ck x → Tch base ssObj w w' → At w' base m o ck x
  step_any : ∀ (w : World) (base m o ck : Nat) (x : σ) (b : UInt8) (n : Nat), At w base m o ck x → Inv x n → n ≤ 600 → base ≤ w.heap.size →
    Calls Tryz.prog fs #[.pointer (some ⟨m, 0, none⟩), .int .u8 (b.toNat : Int), .pointer (some ⟨o, 0, none⟩)] w fun e w' => ((∃ y, stp x b = some y ∧ e = .returned (.int .i64 0) ∧ At w' base m o ck y) ∨ (stp x b = none ∧ ∃ k l back, k ≠ 0 ∧ back ≤ n ∧ e = .returned (.int .i64 k) ∧ OutE w' base o ck back l)) ∧ Tch base obj w w'
  end_any : ∀ (w : World) (base m o ck : Nat) (x : σ) (n : Nat), At w base m o ck x → Inv x n → n ≤ 600 → base ≤ w.heap.size →
    Calls Tryz.prog fe #[.pointer (some ⟨m, 0, none⟩), .pointer (some ⟨o, 0, none⟩)] w fun e w' => ((∃ l, fin x = some l ∧ e = .returned (.int .i64 0) ∧ OutE w' base o ck 0 l ∧ doneB (runS [topP] l) = true) ∨ (fin x = none ∧ ∃ k l back, k ≠ 0 ∧ back ≤ n ∧ e = .returned (.int .i64 k) ∧ OutE w' base o ck back l)) ∧ Tch base obj w w'
section
variable (M : MachI)
/-- A text that is read, as long as no error was met. -/
structure Si where
  b : M.σ
  sl : Int
  slo : Int
  shi : Int
def si0 : Si M := ⟨M.x0, 0, 128, 191⟩
variable {M}
def stI (x : Si M) (c : UInt8) : Option (Si M) :=
  if stOk x.sl x.slo x.shi (c.toNat : Int) = true then (M.stp x.b c).map fun y => ⟨y, stL x.sl (c.toNat : Int), stLo x.sl (c.toNat : Int), stHi x.sl (c.toNat : Int)⟩ else none
def feedI : Si M → List UInt8 → Option (Si M)
  | x, [] => some x
  | x, c :: r => (stI x c).bind fun y => feedI y r
def endI (x : Si M) : Option (List Ev) := if x.sl = 0 then M.fin x.b else none
def runI (bs : List UInt8) : Option (List Ev) := (feedI (si0 M) bs).bind endI
structure SiInv (x : Si M) (n : Nat) : Prop where
  b : M.Inv x.b n
  sl : 0 ≤ x.sl ∧ x.sl ≤ 3
theorem siInv_step {x y : Si M} {n : Nat} {c : UInt8} (h : SiInv x n) (hs : stI x c = some y) : SiInv y (n + 1) := by
  unfold stI at hs
  split at hs
  · cases hm : M.stp x.b c with
    | none => rw [hm] at hs; cases hs
    | some z =>
      rw [hm] at hs
      have e := Option.some.inj hs
      subst e
      exact ⟨M.inv_step h.b hm, stL_range h.sl.1 h.sl.2⟩
  · cases hs
/-- The Stream, as long as no error was met. -/
structure StG (w : World) (base s m sc o ck : Nat) (x : Si M) (rd : Nat) (cl : Bool) : Prop where
  blk : Blk w s 51 (sCells M.T m sc o 0 rd cl false)
  scan : ScanAt w sc x.sl x.slo x.shi
  d : M.At w base m o ck x.b
  p : base ≤ s ∧ base ≤ sc ∧ base ≤ w.heap.size ∧ ¬ Fo.F s ∧ ¬ Fo.F sc
/-- The Stream when the text has ended, or an error was met. -/
structure StF (T : TypeId) (w : World) (base s m sc o ck : Nat) (k : Int) (rd : Nat) (cl : Bool) (back : Nat) (l : List Ev) : Prop where
  blk : Blk w s 51 (sCells T m sc o k rd cl false)
  out : OutE w base o ck back l
  le : back ≤ rd
  p : base ≤ s ∧ base ≤ w.heap.size ∧ ¬ Fo.F s
theorem OutE.tch {w w' : World} {base o ck back : Nat} {l : List Ev} {p : Obj → Prop} (h : OutE w base o ck back l) (ht : Tch base p w w') (h1 : ∀ cs t fr, t = 47 ∨ t = 38 → ¬ p (.cells cs t fr)) : OutE w' base o ck back l := by
  obtain ⟨⟨lv, hB, hR⟩, h2, h3, h4, h5, h6⟩ := h
  exact ⟨⟨lv, hB.tch ht (.inr (h1 _ _ _ (.inl rfl))), hR.tch ht (fun _ _ => h1 _ _ _ (.inr rfl))⟩, h2, h3, h4, h5, h6⟩
theorem OutE.ss {w w' : World} {base o ck back : Nat} {l : List Ev} (h : OutE w base o ck back l) (ht : Tch base ssObj w w') : OutE w' base o ck back l :=
  h.tch ht (fun cs t fr hh hc => by simp only [ssObj] at hc; rcases hh with rfl | rfl <;> exact absurd hc (by decide))
theorem StF.set {T : TypeId} {w : World} {base s m sc o ck : Nat} {k : Int} {rd : Nat} {cl : Bool} {back : Nat} {l : List Ev} (h : StF T w base s m sc o ck k rd cl back l) (i : Nat) (u : Value) (k' : Int) (rd' : Nat) (cl' : Bool) (hle : back ≤ rd') (hc : (sCells T m sc o k rd cl false).setIfInBounds i u = sCells T m sc o k' rd' cl' false) :
    StF T (w.setCell ⟨s, i, none⟩ u) base s m sc o ck k' rd' cl' back l ∧ Tch base ssObj w (w.setCell ⟨s, i, none⟩ u) := by
  have ht : Tch base ssObj w (w.setCell ⟨s, i, none⟩ u) := (Tch.refl _ _ _).set h.blk h.p.1 h.p.2.2 (show ssObj (.cells _ _ _) from .inl rfl) i u
  exact ⟨⟨by rw [← hc]; exact h.blk.set_ i u, h.out.ss ht, hle, h.p.1, Nat.le_trans h.p.2.1 ht.size, h.p.2.2⟩, ht⟩
theorem StG.set {w : World} {base s m sc o ck : Nat} {x : Si M} {rd : Nat} {cl : Bool} (h : StG w base s m sc o ck x rd cl) (i : Nat) (u : Value) (rd' : Nat) (cl' : Bool) (hc : (sCells M.T m sc o 0 rd cl false).setIfInBounds i u = sCells M.T m sc o 0 rd' cl' false) :
    StG (w.setCell ⟨s, i, none⟩ u) base s m sc o ck x rd' cl' ∧ Tch base ssObj w (w.setCell ⟨s, i, none⟩ u) := by
  have ht : Tch base ssObj w (w.setCell ⟨s, i, none⟩ u) := (Tch.refl _ _ _).set h.blk h.p.1 h.p.2.2.2.1 (show ssObj (.cells _ _ _) from .inl rfl) i u
  have hne : sc ≠ s := fun e => by
    have k1 := h.scan
    have k2 := h.blk
    unfold ScanAt Blk at k1
    unfold Blk at k2
    rw [e, k2] at k1
    injection k1 with k1
    injection k1 with _ k1
    exact absurd k1 (by decide)
  exact ⟨⟨by rw [← hc]; exact h.blk.set_ i u, Blk.far h.scan (p := ⟨s, i, none⟩) hne u, M.ss h.d ht, h.p.1, h.p.2.1, Nat.le_trans h.p.2.2.1 ht.size, h.p.2.2.2⟩, ht⟩
def ssM (M : MachI) (q : Obj) : Prop := ssObj q ∨ M.obj q

set_option maxHeartbeats 8000000 in
theorem stepI_any (w : World) (base s m sc o ck : Nat) (x : Si M) (rd : Nat) (cl : Bool) (b : UInt8) (h : StG w base s m sc o ck x rd cl) (hi : SiInv x rd) (hn : rd ≤ 600) :
    Calls Tryz.prog 36 #[.pointer (some ⟨s, 0, none⟩), .int .u8 (b.toNat : Int)] w fun e w' => e = .returned (.tuple #[]) ∧ ((∃ y, stI x b = some y ∧ StG w' base s m sc o ck y (rd + 1) cl) ∨ (stI x b = none ∧ ∃ k back l, k ≠ 0 ∧ StF M.T w' base s m sc o ck k rd cl back l)) ∧ Tch base (ssM M) w w' := by
  have hb255 : (b.toNat : Int) ≤ 255 := by have := b.toNat_lt; omega
  have hSc := step_any w sc x.sl x.slo x.shi (b.toNat : Int) h.scan hi.sl.1 hi.sl.2 (by omega) hb255
  have c0 := h.blk.cell 0
  have c1 := h.blk.cell 1
  have c2 := h.blk.cell 2
  unfold sCells at c0 c1 c2
  have hlt := h.blk.lt
  unfold Stepped at hSc
  obtain ⟨R, hR⟩ : ∃ R, stI x b = R := ⟨_, rfl⟩
  rw [hR]
  unfold stI at hR
  have HR := Lib.hid hR
  have hafter : ∀ w1, w.grownBy w1 (some sc) → ∀ l lo hi, ScanAt w1 sc l lo hi → StG w1 base s m sc o ck { x with sl := l, slo := lo, shi := hi } rd cl ∧ Tch base (ssM M) w w1 := fun w1 hg l lo hi hsc => by
    have ht : Tch base ssObj w w1 := Tch.of_grown hg h.p.2.1 h.p.2.2.2.2 h.scan (show ssObj (.cells _ _ _) from .inr rfl)
    refine ⟨⟨h.blk.grown hg ?_, hsc, M.ss h.d ht, h.p.1, h.p.2.1, Nat.le_trans h.p.2.2.1 hg.size, h.p.2.2.2⟩, ht.wide fun _ => .inl⟩
    intro e
    injection e with e
    have k1 := h.scan
    have k2 := h.blk
    unfold ScanAt Blk at k1
    unfold Blk at k2
    rw [← e, k2] at k1
    injection k1 with k1
    injection k1 with _ k1
    exact absurd k1 (by decide)
  have HA := Lib.hid hafter
  have HInv := Lib.hid hi
  clear hafter h hR hi
  cases hk : stOk x.sl x.slo x.shi (b.toNat : Int) with
  | false =>
    rw [hk] at hSc
    rw [hk, if_neg (by decide)] at HR
    clear hk
    go_enter Tryz.func36, Tryz.ntmps36
    go_wp2_with fail
    refine hSc.mono ?_
    rintro e w1 ⟨rfl, hg1, hsc1⟩
    rw [if_neg (by decide)] at hsc1
    obtain ⟨hA, hT⟩ := HA.out w1 hg1 _ _ _ hsc1
    obtain ⟨l, hO⟩ := M.bad hA.d
    have hF0 : StF M.T w1 base s m sc o ck 0 rd cl 0 l := ⟨hA.blk, hO, Nat.zero_le _, hA.p.1, hA.p.2.2.1, hA.p.2.2.2.1⟩
    obtain ⟨hF3, ht3⟩ := hF0.set 3 (.int .i64 3) 3 rd cl (Nat.zero_le _) rfl
    have HF := Lib.hid (And.intro hF3 (hT.trans (ht3.wide fun _ => .inl)))
    have d3 := hA.blk.cell 3
    have f3 := hA.blk.frozen 3
    have hl1 := hA.blk.lt
    unfold sCells at d3
    clear hsc1 hg1 hA hT hO hF0 hF3 ht3 HA
    go_wp2
    go_end0
    exact ⟨rfl, .inr ⟨HR.out.symm, 3, 0, l, by decide, HF.out.1⟩, HF.out.2⟩
  | true =>
    rw [hk] at hSc
    rw [hk, if_pos rfl] at HR
    clear hk
    go_enter Tryz.func36, Tryz.ntmps36
    go_wp2_with fail
    refine hSc.mono ?_
    rintro e w1 ⟨rfl, hg1, hsc1⟩
    rw [if_pos trivial] at hsc1
    obtain ⟨hA, hT⟩ := HA.out w1 hg1 _ _ _ hsc1
    have d0 := hA.blk.cell 0
    have d2 := hA.blk.cell 2
    unfold sCells at d0 d2
    have HA1 := Lib.hid hA
    have HT1 := Lib.hid hT
    clear hsc1 hg1 hA hT HA c0 c1 c2
    go_wp2
    refine region_g [15] (S := (fun W => W.cell? ⟨s, 0, none⟩ = some (.iface M.T (.pointer (some ⟨m, 0, none⟩))) ∧ W.cell? ⟨s, 2, none⟩ = some (.pointer (some ⟨o, 0, none⟩)))) (by kernel_rfl) ⟨d0, d2⟩ (fun hH => ?_)
    refine g_take (i := 0) (v := .pointer (some ⟨s, 0, none⟩)) (by rfl) (by kernel_rfl) (by kernel_rfl) (by kernel_rfl) (by kernel_rfl) (fun _ _ _ h => (by cases h.1)) (Or.inl ⟨by kernel_rfl, fun W hS => (by obtain ⟨s0, s2⟩ := hS; go_simp)⟩) hH ?_
    simp only [Act.put, List.setIfInBounds_toArray, List.set_cons_zero, List.set_cons_succ]
    refine g_take (i := 1) (v := .pointer (some ⟨s, 0, none⟩)) (by rfl) (by kernel_rfl) (by kernel_rfl) (by kernel_rfl) (by kernel_rfl) (fun _ _ _ h => (by cases h.1)) (Or.inl ⟨by kernel_rfl, fun W hS => (by obtain ⟨s0, s2⟩ := hS; go_simp)⟩) hH ?_
    simp only [Act.put, List.setIfInBounds_toArray, List.set_cons_zero, List.set_cons_succ]
    refine g_take (i := 2) (v := .pointer (some ⟨s, 0, none⟩)) (by rfl) (by kernel_rfl) (by kernel_rfl) (by kernel_rfl) (by kernel_rfl) (fun _ _ _ h => (by cases h.1)) (Or.inl ⟨by kernel_rfl, fun W hS => (by obtain ⟨s0, s2⟩ := hS; go_simp)⟩) hH ?_
    simp only [Act.put, List.setIfInBounds_toArray, List.set_cons_zero, List.set_cons_succ]
    refine g_take (i := 3) (v := .pointer (some ⟨s, 0, none⟩)) (by rfl) (by kernel_rfl) (by kernel_rfl) (by kernel_rfl) (by kernel_rfl) (fun _ _ _ h => (by cases h.1)) (Or.inl ⟨by kernel_rfl, fun W hS => (by obtain ⟨s0, s2⟩ := hS; go_simp)⟩) hH ?_
    simp only [Act.put, List.setIfInBounds_toArray, List.set_cons_zero, List.set_cons_succ]
    refine g_take (i := 4) (v := .iface M.T (.pointer (some ⟨m, 0, none⟩))) (by rfl) (by kernel_rfl) (by kernel_rfl) (by kernel_rfl) (by kernel_rfl) (fun _ _ _ h => (by cases h.1)) (Or.inl ⟨by kernel_rfl, fun W hS => (by obtain ⟨s0, s2⟩ := hS; go_simp)⟩) hH ?_
    simp only [Act.put, List.setIfInBounds_toArray, List.set_cons_zero, List.set_cons_succ]
    refine g_take (i := 5) (v := .int .u8 (b.toNat : Int)) (by rfl) (by kernel_rfl) (by kernel_rfl) (by kernel_rfl) (by kernel_rfl) (fun _ _ _ h => (by cases h.1)) (Or.inl ⟨by kernel_rfl, fun W hS => (by obtain ⟨s0, s2⟩ := hS; go_simp)⟩) hH ?_
    simp only [Act.put, List.setIfInBounds_toArray, List.set_cons_zero, List.set_cons_succ]
    refine g_take (i := 6) (v := .pointer (some ⟨s, 0, none⟩)) (by rfl) (by kernel_rfl) (by kernel_rfl) (by kernel_rfl) (by kernel_rfl) (fun _ _ _ h => (by cases h.1)) (Or.inl ⟨by kernel_rfl, fun W hS => (by obtain ⟨s0, s2⟩ := hS; go_simp)⟩) hH ?_
    simp only [Act.put, List.setIfInBounds_toArray, List.set_cons_zero, List.set_cons_succ]
    refine g_take (i := 7) (v := .pointer (some ⟨s, 0, none⟩)) (by rfl) (by kernel_rfl) (by kernel_rfl) (by kernel_rfl) (by kernel_rfl) (fun _ _ _ h => (by cases h.1)) (Or.inl ⟨by kernel_rfl, fun W hS => (by obtain ⟨s0, s2⟩ := hS; go_simp)⟩) hH ?_
    simp only [Act.put, List.setIfInBounds_toArray, List.set_cons_zero, List.set_cons_succ]
    refine g_take (i := 8) (v := .pointer (some ⟨s, 2, none⟩)) (by rfl) (by kernel_rfl) (by kernel_rfl) (by kernel_rfl) (by kernel_rfl) (fun _ _ _ h => (by cases h.1)) (Or.inl ⟨by kernel_rfl, fun W hS => (by obtain ⟨s0, s2⟩ := hS; go_simp)⟩) hH ?_
    simp only [Act.put, List.setIfInBounds_toArray, List.set_cons_zero, List.set_cons_succ]
    refine g_take (i := 9) (v := .pointer (some ⟨o, 0, none⟩)) (by rfl) (by kernel_rfl) (by kernel_rfl) (by kernel_rfl) (by kernel_rfl) (fun _ _ _ h => (by cases h.1)) (Or.inl ⟨by kernel_rfl, fun W hS => (by obtain ⟨s0, s2⟩ := hS; go_simp)⟩) hH ?_
    simp only [Act.put, List.setIfInBounds_toArray, List.set_cons_zero, List.set_cons_succ]
    refine g_take (i := 10) (v := .iface M.T (.pointer (some ⟨m, 0, none⟩))) (by rfl) (by kernel_rfl) (by kernel_rfl) (by kernel_rfl) (by kernel_rfl) (fun _ _ _ h => (by cases h.1)) (Or.inl ⟨by kernel_rfl, fun W hS => (by obtain ⟨s0, s2⟩ := hS; go_simp)⟩) hH ?_
    simp only [Act.put, List.setIfInBounds_toArray, List.set_cons_zero, List.set_cons_succ]
    refine g_take (i := 11) (v := .iface M.T (.pointer (some ⟨m, 0, none⟩))) (by rfl) (by kernel_rfl) (by kernel_rfl) (by kernel_rfl) (by kernel_rfl) (fun _ _ _ h => (by cases h.1)) (Or.inl ⟨by kernel_rfl, fun W hS => (by obtain ⟨s0, s2⟩ := hS; go_simp)⟩) hH ?_
    simp only [Act.put, List.setIfInBounds_toArray, List.set_cons_zero, List.set_cons_succ]
    refine g_one (i := 12) (by kernel_rfl) (by rfl) (fun K hK => ?_)
    have hm := M.hms ⟨m, 0, none⟩ w1.drew
    have he := M.efs
    go_simp
    try rw [hm]
    try simp only [Result.andThen_ok]
    try rw [M.efs]
    try go_simp
    have hdd : M.At w1.drew base m o ck x.b := M.ss HA1.out.d (Tch.refl base ssObj w1).drew
    refine (M.step_any w1.drew base m o ck x.b b rd hdd HInv.out.b hn HA1.out.p.2.2.1).mono ?_
    rintro e w2 ⟨hq, hT2⟩
    have hBs : Blk w2 s 51 (sCells M.T m sc o 0 rd cl false) := Blk.tch (w := w1.drew) HA1.out.blk hT2 (.inr (M.nss _ _ _ (.inl rfl)))
    have hSc2 : ScanAt w2 sc (stL x.sl (b.toNat : Int)) (stLo x.sl (b.toNat : Int)) (stHi x.sl (b.toNat : Int)) := Blk.tch (w := w1.drew) HA1.out.scan hT2 (.inr (M.nss _ _ _ (.inr rfl)))
    have hb2 : base ≤ w2.heap.size := Nat.le_trans HA1.out.p.2.2.1 hT2.size
    have HT2 := Lib.hid (HT1.out.trans ((Tch.refl base (ssM M) w1).drew.trans (hT2.wide fun _ => .inr)))
    have s0 := hBs.cell 0
    have s2 := hBs.cell 2
    have s3 := hBs.cell 3
    have f3 := hBs.frozen 3
    have hl2 := hBs.lt
    unfold sCells at s0 s2 s3
    have HP := Lib.hid HA1.out.p
    have HBs := Lib.hid (And.intro hBs (And.intro hSc2 hb2))
    clear hT2 hdd hm hSc HA1 HT1 d0 d2 hH hlt hBs hSc2 hb2
    rcases hq with ⟨y, hr, rfl, hD2⟩ | ⟨hr, k, l, back, hk0, hle, rfl, hO2⟩
    · have HD := Lib.hid hD2
      have HRr := Lib.hid hr
      refine hK.out _ _ (fun _ => ⟨s0, s2⟩) (fun _ => ?_)
      clear hK K hr hD2
      refine g_one (i := 13) (by kernel_rfl) (by rfl) (fun K hK => ?_)
      go_simp
      refine hK.out _ _ (fun _ => ⟨s0, s2⟩) (fun _ => ?_)
      clear hK K
      refine g_one (i := 14) (by kernel_rfl) (by rfl) (fun K hK => ?_)
      go_simp
      refine hK.out _ _ (fun _ => ⟨s0, s2⟩) (fun _ => ?_)
      clear hK K
      refine g_one (i := 15) (by kernel_rfl) (by rfl) (fun K hK => ?_)
      go_simp
      refine hK.out _ _ (fun h => absurd (List.mem_singleton.2 rfl) h) (fun _ => ?_)
      clear hK K
      refine g_done (by kernel_rfl) ⟨by first | rfl | trivial, ?_⟩ _
      have hG : StG w2 base s m sc o ck ⟨y, stL x.sl (b.toNat : Int), stLo x.sl (b.toNat : Int), stHi x.sl (b.toNat : Int)⟩ rd cl := ⟨HBs.out.1, HBs.out.2.1, HD.out, HP.out.1, HP.out.2.1, HBs.out.2.2, HP.out.2.2.2⟩
      obtain ⟨hG3, ht3⟩ := hG.set 3 (.int .i64 0) rd cl rfl
      have hT3 := HT2.out.trans (ht3.wide fun _ => .inl)
      generalize hW3 : w2.setCell ⟨s, 3, none⟩ (.int .i64 0) = w3 at *
      clear hW3 s0 s2 s3 f3 hl2 hG ht3 HD HBs HP HT2
      have t3 := hG3.blk.cell 3
      have t4 := hG3.blk.cell 4
      have f4 := hG3.blk.frozen 4
      have hl3 := hG3.blk.lt
      unfold sCells at t3 t4
      obtain ⟨r1, hr1⟩ : ∃ r1 : Nat, (rd : Int) + 1 = r1 := ⟨rd + 1, rfl⟩
      have hr1n : rd + 1 = r1 := by omega
      obtain ⟨hG4, ht4⟩ := hG3.set 4 (.int .i64 (r1 : Int)) r1 cl rfl
      have HF := Lib.hid (And.intro hG4 (hT3.trans (ht4.wide fun _ => .inl)))
      have HN := Lib.hid hr1n
      clear hG3 hG4 ht4 hT3 hr1n
      go_wp2
      go_end0
      refine ⟨rfl, .inl ⟨_, by rw [← HR.out, HRr.out]; rfl, ?_⟩, HF.out.2⟩
      rw [HN.out]
      exact HF.out.1
    · have HO := Lib.hid hO2
      have HRr := Lib.hid hr
      refine hK.out _ _ (fun _ => ⟨s0, s2⟩) (fun _ => ?_)
      clear hK K hr hO2
      refine g_one (i := 13) (by kernel_rfl) (by rfl) (fun K hK => ?_)
      go_simp
      refine hK.out _ _ (fun _ => ⟨s0, s2⟩) (fun _ => ?_)
      clear hK K
      refine g_one (i := 14) (by kernel_rfl) (by rfl) (fun K hK => ?_)
      go_simp
      refine hK.out _ _ (fun _ => ⟨s0, s2⟩) (fun _ => ?_)
      clear hK K
      refine g_one (i := 15) (by kernel_rfl) (by rfl) (fun K hK => ?_)
      go_simp
      refine hK.out _ _ (fun h => absurd (List.mem_singleton.2 rfl) h) (fun _ => ?_)
      clear hK K
      refine g_done (by kernel_rfl) ⟨by first | rfl | trivial, ?_⟩ _
      have hF0 : StF M.T w2 base s m sc o ck 0 rd cl back l := ⟨HBs.out.1, HO.out, hle, HP.out.1, HBs.out.2.2, HP.out.2.2.2.1⟩
      obtain ⟨hF3, ht3⟩ := hF0.set 3 (.int .i64 k) k rd cl hle rfl
      have hT3 := HT2.out.trans (ht3.wide fun _ => .inl)
      generalize hW3 : w2.setCell ⟨s, 3, none⟩ (.int .i64 k) = w3 at *
      clear hW3 s0 s2 s3 f3 hl2 hF0 ht3 HO HBs HP HT2
      have t3 := hF3.blk.cell 3
      have hl3 := hF3.blk.lt
      unfold sCells at t3
      have e1 : (k == 0) = false := by rw [beq_eq_false_iff_ne]; exact hk0
      have HF := Lib.hid (And.intro hF3 hT3)
      have HZ := Lib.hid hk0
      clear hF3 hT3 hk0
      go_wp2
      go_end0
      exact ⟨rfl, .inr ⟨by rw [← HR.out, HRr.out]; rfl, k, back, l, HZ.out, HF.out.1⟩, HF.out.2⟩
end
end Go.Proofs.YtalkjgijmceifaaGreatDoor
namespace Go.Proofs.YtalkjgijmceifaaGreatDoor
open Go.RowKit Go.Maps
set_option maxRecDepth 100000
set_option linter.unusedSimpArgs false
set_option linter.unusedVariables false
set_option linter.unusedSectionVars false
set_option linter.unusedSectionVars false
variable [Tab] [Fo]

section
variable {w w1 w' : World} {base o ck a : Nat} {st : List Pt} {l : List Ev} {s : Am} {T : Nat → Prop}
theorem oa_since [fo : Fo] (h : OA w base o ck a st l s T) (hb : Below w.heap.size w w1) (hl : fo.lim ≤ w1.heap.size) : @OA _ (Fo.since fo w w1 hl) w1 base o ck a st l s T := by
  have hA := h.an.below hb
  have hk : ∀ k r, T k → w.heap[k]? = some r → w1.heap[k]? = some r := fun k r hs hr => (hb.block k (h.an.1 k hs)).trans hr
  have hkd := h.kd.keep h.an.1 hk
  refine @OA.mk _ (Fo.since fo w w1 hl) w1 base o ck a st l s T hA (fun k hs => ⟨(hkd k hs).1, ?_, (hkd k hs).2.2⟩) (Nat.le_refl _) ?_
  · rintro (h1 | h1)
    · exact (h.kd k hs).2.1 h1
    · have := h.an.1 k hs; omega
  · refine oat_mv (f1 := fo.pl T w.heap.size h.lim h.an.1) (f2 := Fo.pl (Fo.since fo w w1 hl) T w1.heap.size (Nat.le_refl _) hA.1) (fun k hk hc => ?_) rfl (fun k r hr _ _ => (hb.block k (Array.getElem?_eq_some_iff.1 hr).1).trans hr) (Nat.le_refl _) h.out
    rcases hc with (h1 | h1) | h1
    · exact .inl h1
    · omega
    · exact .inr h1
theorem oa_unsince [fo : Fo] {hl : fo.lim ≤ w1.heap.size} (h : @OA _ (Fo.since fo w w1 hl) w' base o ck a st l s T) (hz : w1.heap.size ≤ w'.heap.size) : OA w' base o ck a st l s T := by
  obtain ⟨hA, hkd, hlim, hO⟩ := h
  refine ⟨hA, fun k hs => ⟨(hkd k hs).1, fun hc => (hkd k hs).2.1 (.inl hc), (hkd k hs).2.2⟩, Nat.le_trans hl hz, ?_⟩
  refine oat_mv (w := w') (w' := w') (f1 := Fo.pl (Fo.since fo w w1 hl) T w'.heap.size hlim hA.1) (f2 := fo.pl T w'.heap.size (Nat.le_trans hl hz) hA.1) (fun k hk hc => ?_) rfl (fun k r hr _ _ => hr) (Nat.le_refl _) hO
  rcases hc with h1 | h1
  · exact .inl (.inl h1)
  · exact .inr h1
/-- How a telling ends. -/
def TlP [Fo] (base o ck a : Nat) (st : List Pt) (l : List Ev) (s : Am) (x : Ev) (w w' : World) (k : Int) : Prop :=
  ∃ st' l' s' S', OA w' base o ck a st' l' s' S' ∧ Tch base tA w w' ∧ ((k = 0 ∧ stepE st x = 0 ∧ stepAE s x = 0 ∧ st' = stepS st x ∧ l' = l ++ [x] ∧ s' = stepAM s x) ∨ (k ≠ 0 ∧ (stepE st x ≠ 0 ∨ stepAE s x ≠ 0) ∧ l' = l))
theorem oa_tell_new [fo : Fo] (x : Ev) (g : Nat) (h : OA w base o ck a st l s T) (hb1 : Below w.heap.size w w1) (hgB : Blk w g 39 #[othV a]) (hg : Good st) (hI : AInv s) (hx : x.t.size ≤ 1000) (hw : SWB base w) (hl : l.length ≤ 1000000) (hb : base ≤ w.heap.size) :
    Calls Tryz.prog 149 #[.pointer (some ⟨o, 0, none⟩), .agg #[.int .i64 x.k, .string x.t, .string x.v], .slice (some ⟨g, 0, none⟩) 1 1] w1 fun e w' =>
      ∃ k, e = .returned (.int .i64 k) ∧ TlP base o ck a st l s x w w' k ∧ ∀ k q, w.heap.size ≤ k → w1.heap[k]? = some q → w'.heap[k]? = some q := by
  have hl1 : fo.lim ≤ w1.heap.size := Nat.le_trans h.lim hb1.size
  refine (@oa_tell _ (Fo.since fo w w1 hl1) w1 base o ck a st l s T x g (oa_since h hb1 hl1) (hgB.below hb1 hgB.lt) hg hI hx (hw.below (hb1.mono hb)) hl (Nat.le_trans hb hb1.size)).mono ?_
  rintro e w' ⟨k, st', l', s', S', rfl, hO, hT, hc⟩
  have hT1 : Tch base tA w1 w' := tch_wk (f1 := Fo.since fo w w1 hl1) (f2 := fo) (fun k hk => .inl hk) hT
  refine ⟨k, rfl, ⟨st', l', s', S', oa_unsince hO hT1.size, (Tch.of_below hb1).trans hT1, hc⟩, fun k q hk hq => ?_⟩
  exact @Tch.block (Fo.since fo w w1 hl1) _ _ _ _ hT k q hq (.inr (.inr (.inr ⟨hk, (Array.getElem?_eq_some_iff.1 hq).1⟩)))
end
def lnOo : Obj → Prop
  | .cells _ t _ => t = 213
  | _ => False
/-- What telling and reading turn. -/
def oxObj (q : Obj) : Prop := tA q ∨ lnOo q
def opO : Obj → Prop
  | .cells _ t _ => t = 72 ∨ t = 3
  | _ => False
/-- What the parsing of a line turns. -/
def olObj (q : Obj) : Prop := oxObj q ∨ opO q
theorem tA_no (cs : Array Value) (t : TypeId) (fr : Nat × Nat) (h : t = 213 ∨ t = 72 ∨ t = 3 ∨ t = 39 ∨ t = 221 ∨ t = 94 ∨ t = 5 ∨ t = 51 ∨ t = 101 ∨ t = 25) : ¬ tA (.cells cs t fr) := by
  intro hc
  simp only [tA, tObj, aK, kA, kM, kO, kP, kE] at hc
  rcases h with rfl | rfl | rfl | rfl | rfl | rfl | rfl | rfl | rfl | rfl <;> exact absurd hc (by decide)
/-- The others that are asked. -/
def oL (o g : Nat) : LO := ⟨o, .slice (some ⟨g, 0, none⟩) 1 1⟩
/-- What is known of a text while a line is read. -/
structure OlI (base L p o ck an g : Nat) (S : List UInt8) (x : Ox) (a : Nat) (w : World) : Prop where
  ln : LAt w L (oL o g) S a
  al : a ≤ S.length
  s9 : S.length ≤ 160
  oth : Blk w g 39 #[othV an]
  blk : ∃ bv, Blk w p 72 #[.pointer (some ⟨an, 0, none⟩), bv, .bool x.lk, .bool x.en] ∧ ORow w base 3 bv (x.bk.map (.int .i64)) ∧ NF bv
  oa : ∃ T, OA w base o ck an x.st x.l x.am T
  std : SW base w
  pl : base ≤ w.heap.size ∧ base ≤ L ∧ base ≤ p ∧ Fo.lim ≤ w.heap.size ∧ ¬ Fo.F L ∧ ¬ Fo.F p
  tk : TkO x
  bn : x.bk.length ≤ 1000
  lb : x.l.length ≤ 1000000
/-- What lies when the parsing has failed. -/
structure OlX (base L p o ck an g : Nat) (S : List UInt8) (w : World) : Prop where
  ln : ∃ a, LAt w L (oL o g) S a ∧ a ≤ S.length
  s9 : S.length ≤ 160
  oa : ∃ st l s T, OA w base o ck an st l s T ∧ allOk [topP] l ∧ (∀ e ∈ l, okE e) ∧ l.length ≤ 1000000
  pl : base ≤ w.heap.size ∧ base ≤ L ∧ base ≤ p ∧ Fo.lim ≤ w.heap.size ∧ ¬ Fo.F L ∧ ¬ Fo.F p
section
variable {base L p o ck an g : Nat} {S : List UInt8} {x : Ox} {a : Nat} {w w' : World}
theorem OlI.lim' (h : OlI base L p o ck an g S x a w) : Fo.lim ≤ w.heap.size := h.pl.2.2.2.1
theorem OlI.pl' (h : OlI base L p o ck an g S x a w) (hs : w.heap.size ≤ w'.heap.size) : base ≤ w'.heap.size ∧ base ≤ L ∧ base ≤ p ∧ Fo.lim ≤ w'.heap.size ∧ ¬ Fo.F L ∧ ¬ Fo.F p :=
  ⟨Nat.le_trans h.pl.1 hs, h.pl.2.1, h.pl.2.2.1, Nat.le_trans h.pl.2.2.2.1 hs, h.pl.2.2.2.2⟩
theorem OlI.loose (h : OlI base L p o ck an g S x a w) : OlX base L p o ck an g S w := by
  obtain ⟨T, hT⟩ := h.oa
  exact ⟨⟨a, h.ln, h.al⟩, h.s9, ⟨_, _, _, T, hT, h.tk.ok, h.tk.sz, h.lb⟩, h.pl⟩
theorem OlI.blk_tch (h : OlI base L p o ck an g S x a w) {q : Obj → Prop} (ht : Tch base q w w') (hq : ∀ cs t fr, t = 72 ∨ t = 3 → ¬ q (.cells cs t fr)) :
    ∃ bv, Blk w' p 72 #[.pointer (some ⟨an, 0, none⟩), bv, .bool x.lk, .bool x.en] ∧ ORow w' base 3 bv (x.bk.map (.int .i64)) ∧ NF bv := by
  obtain ⟨bv, h1, h2, h3⟩ := h.blk
  exact ⟨bv, h1.tch ht (.inr (hq _ _ _ (.inl rfl))), row_tch h2 ht (fun _ _ => hq _ _ _ (.inr rfl)), h3⟩
/-- Where what is told, the parser and the line are not turned. -/
theorem OlI.other (h : OlI base L p o ck an g S x a w) {q : Obj → Prop} (ht : Tch base q w w') (hq : ∀ cs t fr, t = 72 ∨ t = 3 ∨ t = 213 ∨ t = 39 → ¬ q (.cells cs t fr)) (hA : ∀ r, tA r → ¬ q r) : OlI base L p o ck an g S x a w' := by
  obtain ⟨T, hT⟩ := h.oa
  exact ⟨Blk.tch h.ln ht (.inr (hq _ _ _ (.inr (.inr (.inl rfl))))), h.al, h.s9, h.oth.tch ht (.inr (hq _ _ _ (.inr (.inr (.inr rfl))))), h.blk_tch ht (fun cs t fr hh => hq cs t fr (hh.imp id (fun h => .inl h))), ⟨T, hT.tch ht hA⟩, h.std.tch ht h.pl.1, h.pl' ht.size, h.tk, h.bn, h.lb⟩
theorem OlI.belowO (h : OlI base L p o ck an g S x a w) (hb : Below w.heap.size w w') : OlI base L p o ck an g S x a w' := h.other (q := fun _ => False) (Tch.of_below hb) (fun _ _ _ _ h => h) (fun _ _ h => h)
theorem OlI.line_tch (h : OlI base L p o ck an g S x a w) (hf : LnF L w w') : Tch base lnOo w w' := Tch.of_grown hf h.pl.2.1 h.pl.2.2.2.2.1 h.ln rfl
theorem OlI.go (h : OlI base L p o ck an g S x a w) {a' : Nat} (hl : LAt w' L (oL o g) S a') (ha : a' ≤ S.length) (hf : LnF L w w') : OlI base L p o ck an g S x a' w' := by
  have ht := h.line_tch hf
  obtain ⟨T, hT⟩ := h.oa
  have hno : ∀ cs t fr, t ≠ 213 → ¬ lnOo (.cells cs t fr) := fun cs t fr hh hc => hh (by simpa only [lnOo] using hc)
  refine ⟨hl, ha, h.s9, h.oth.tch ht (.inr (hno _ _ _ (by decide))), h.blk_tch ht (fun cs t fr hh => hno _ _ _ (by rcases hh with rfl | rfl <;> decide)), ⟨T, hT.tch ht (fun r hr hc => ?_)⟩, h.std.tch ht h.pl.1, h.pl' hf.size, h.tk, h.bn, h.lb⟩
  cases r with
  | cells cs t fr => simp only [lnOo] at hc; subst hc; exact tA_no _ _ _ (.inl rfl) hr
  | _ => exact hc
theorem ol_tell (ev : Ev) (h : OlI base L p o ck an g S x a w) (hl : x.l.length ≤ 900000) (hs : ev.t.size ≤ 1000) :
    Calls Tryz.prog 174 #[.pointer (some ⟨L, 0, none⟩), .agg #[.int .i64 ev.k, .string ev.t, .string ev.v]] w fun e w' =>
      ((∃ x', tellO x ev = some x' ∧ e = .returned (.tuple #[]) ∧ OlI base L p o ck an g S x' a w') ∨ (tellO x ev = none ∧ ∃ k, k ≠ 0 ∧ e = .panicked (failP k) ∧ OlX base L p o ck an g S w')) ∧ Tch base tA w w' := by
  obtain ⟨T, hT⟩ := h.oa
  have hC := ltell_any w L (oL o g) S a ev h.ln (fun k w' => TlP base o ck an x.st x.l x.am ev w w' k) (fun w1 hb1 hx1 => by
    refine (oa_tell_new ev g hT hb1 h.oth h.tk.good h.tk.an hs h.std (by omega) h.pl.1).mono ?_
    rintro e w' ⟨k, rfl, hO, hK⟩
    obtain ⟨_, _, _, _, _, hT', _⟩ := id hO
    exact ⟨k, rfl, hO, Blk.tch h.ln hT' (.inr (tA_no _ _ _ (.inl rfl))), hK _ _ (Nat.le_refl _) hx1⟩)
  refine hC.mono ?_
  rintro e w' ⟨k, hm, st', l', s', S', hO, hT', hc⟩
  refine ⟨?_, hT'⟩
  have hln := Blk.tch h.ln hT' (.inr (tA_no _ _ _ (.inl rfl)))
  have hbk := h.blk_tch hT' (fun cs t fr hh => tA_no _ _ _ (by rcases hh with rfl | rfl <;> simp))
  have hstd := h.std.tch hT' h.pl.1
  have hpl := h.pl' hT'.size
  have hoth := h.oth.tch hT' (.inr (tA_no _ _ _ (by simp)))
  rcases hc with ⟨rfl, h1, h2, rfl, rfl, rfl⟩ | ⟨hk, h1, rfl⟩
  · rcases hm with ⟨_, rfl⟩ | ⟨h0, _⟩
    · have ht : tellO x ev = some { x with st := stepS x.st ev, l := x.l ++ [ev], am := stepAM x.am ev } := by unfold tellO; rw [if_pos ⟨h1, h2⟩]
      exact .inl ⟨_, ht, rfl, ⟨hln, h.al, h.s9, hoth, hbk, ⟨_, hO⟩, hstd, hpl, tkO_tell h.tk (okE_of h1 hs) ht, h.bn, by simp only [List.length_append, List.length_singleton]; omega⟩⟩
    · exact absurd rfl h0
  · rcases hm with ⟨h0, _⟩ | ⟨h0, rfl⟩
    · exact absurd h0 hk
    · have ht : tellO x ev = none := by unfold tellO; rw [if_neg (fun hh => h1.elim (fun h => h hh.1) (fun h => h hh.2))]
      exact .inr ⟨ht, k, h0, rfl, ⟨⟨a, hln, h.al⟩, h.s9, ⟨_, _, _, _, hO, h.tk.ok, h.tk.sz, by omega⟩, hpl⟩⟩
end
end Go.Proofs.YtalkjgijmceifaaGreatDoor
namespace Go.Proofs.YtalkjgijmceifaaGreatDoor
set_option maxRecDepth 100000
set_option linter.unusedSectionVars false
variable [Tab]

/-- The machine: where the next byte stands; the names of the columns; whether the header has ended; the cells of the open row that were told; what the open cell says up to now. -/
structure Dm where
  a : Int
  cols : List (List UInt8)
  hd : Bool
  n : Nat
  c : List UInt8
def dm0 : Dm := ⟨0, [], false, 0, []⟩
structure Ds where
  m : Dm
  st : List Pt
  l : List Ev
structure Dr where
  b : Ds
  e : Int
def ds0 : Ds := ⟨dm0, [topP], []⟩
def tellD (m : Dm) (st : List Pt) (l : List Ev) (x : Ev) : Dr := ⟨⟨m, stepS st x, tellL st l x⟩, stepE st x⟩
def addD (s : Ds) (b : UInt8) : Dr := if 48 ≤ s.m.c.length then ⟨s, 4⟩ else ⟨{ s with m := { s.m with c := s.m.c ++ [b] } }, 0⟩
def addColD (s : Ds) (t : List UInt8) (last : Bool) : Dr :=
  if t ∈ s.m.cols then ⟨s, 6⟩
  else ⟨{ s with m := { s.m with cols := s.m.cols ++ [t] } }, if last = false ∧ s.m.cols.length + 1 = 8 then 16 else 0⟩
/-- The Map ahead of a row's first cell. -/
def rowD (s : Ds) : Dr := if s.m.n = 0 then tellD s.m s.st s.l (bare 7) else ⟨s, 0⟩
def colD (s : Ds) : List UInt8 := s.m.cols.getD s.m.n []
def keyD (s : Ds) : Dr := tellD s.m s.st s.l ⟨8, ⟨(colD s).toArray⟩, ⟨#[]⟩⟩
def textD (s : Ds) (t : List UInt8) : Dr := tellD { s.m with n := s.m.n + 1 } s.st s.l ⟨4, ⟨t.toArray⟩, ⟨#[]⟩⟩
def tellCellD (s : Ds) (t : List UInt8) : Dr :=
  if (rowD s).e ≠ 0 then rowD s
  else if (keyD (rowD s).b).e ≠ 0 then keyD (rowD s).b
  else textD (keyD (rowD s).b).b t
def countD (s : Ds) (last : Bool) : Dr :=
  if last ≠ decide (s.m.n = s.m.cols.length) then ⟨s, 17⟩
  else if last = false then ⟨s, 0⟩ else tellD { s.m with n := 0 } s.st s.l (bare 9)
def emptyD (s : Ds) : Ds := { s with m := { s.m with c := [] } }
def endCellD (s : Ds) (last : Bool) : Dr :=
  if s.m.hd = false then addColD { s with m := { s.m with c := [], hd := last } } s.m.c last
  else if (tellCellD (emptyD s) s.m.c).e ≠ 0 then tellCellD (emptyD s) s.m.c
  else countD (tellCellD (emptyD s) s.m.c).b last
def setA (s : Ds) (a : Int) : Ds := { s with m := { s.m with a := a } }
def outD (s : Ds) (b : UInt8) : Dr :=
  if b.toNat = 44 then endCellD (setA s 2) false
  else if b.toNat = 10 then endCellD (setA s 1) true
  else if b.toNat < 32 ∨ b.toNat = 34 ∨ s.m.a = 5 then ⟨s, 2⟩ else addD s b
def cellD (s : Ds) (b : UInt8) : Dr := if b.toNat = 34 then ⟨setA s 4, 0⟩ else outD (setA s 3) b
def listD (s : Ds) : Dr := tellD s.m s.st s.l (bare 5)
def stepD (s : Ds) (b : UInt8) : Dr :=
  if s.m.a = 0 then (if (listD s).e ≠ 0 then listD s else cellD (listD s).b b)
  else if s.m.a = 1 ∨ s.m.a = 2 then cellD s b
  else if s.m.a = 4 then (if b.toNat = 34 then ⟨setA s 5, 0⟩ else addD s b)
  else if s.m.a = 5 ∧ b.toNat = 34 then addD (setA s 4) b
  else outD s b
def endD (s : Ds) : Dr :=
  if s.m.a = 0 then listD s else if s.m.a = 4 then ⟨s, 2⟩ else if s.m.a = 1 then ⟨s, 0⟩ else endCellD s true
def finD (s : Ds) : Dr := if (endD s).e ≠ 0 then endD s else tellD (endD s).b.m (endD s).b.st (endD s).b.l (bare 6)
end Go.Proofs.YtalkjgijmceifaaGreatDoor

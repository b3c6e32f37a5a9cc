/-
  A Stream as plain functions on bytes, for any machine. No program is read here.
  stream: what a machine has to be, for a Stream to drive it: how it lies, what its calls do and leave.
  delim: the machine as it lies, and what its calls may turn.
-/
import Derived.Test.YtalkjgijmceifaaGreatDoorDwA05
import Derived.Test.YtalkjgijmceifaaGreatDoorDwA23
import Derived.Test.YtalkjgijmceifaaGreatDoorDwA07
import Derived.Test.YtalkjgijmceifaaGreatDoorDwA26
import Derived.OwnWalk
import Derived.IntWalk
namespace Go.Proofs.YtalkjgijmceifaaGreatDoor
set_option maxRecDepth 100000
set_option linter.unusedSimpArgs false
set_option linter.unusedVariables false
set_option linter.unusedSectionVars false
variable [Tab]

/-- A machine, as plain functions: its state, its step and its end, with what holds ahead of each byte. -/
structure MachP where
  σ : Type
  x0 : σ
  stp : σ → UInt8 → σ
  ste : σ → UInt8 → Int
  fin : σ → σ
  fne : σ → Int
  st : σ → List Pt
  l : σ → List Ev
  Inv : σ → Nat → Prop
  inv0 : Inv x0 0
  inv_step : ∀ {x n} b, Inv x n → ste x b = 0 → Inv (stp x b) (n + 2)
  len_step : ∀ {x n} b, Inv x n → (l (stp x b)).length ≤ 2 * (n + 2)
  inv_mono : ∀ {x n k}, Inv x n → n ≤ k → Inv x k
  inv_len : ∀ {x n}, Inv x n → (l x).length ≤ 2 * n
section
variable (M : MachP)
/-- A text that is read: the machine with its Check and events; the Scan; the error, and how many bytes were read. -/
structure Ss where
  b : M.σ
  sl : Int
  slo : Int
  shi : Int
  e : Int
  rd : Nat
def ss0 : Ss M := ⟨M.x0, 0, 128, 191, 0, 0⟩
variable {M}
def feed1 (x : Ss M) (c : UInt8) : Ss M :=
  if x.e ≠ 0 then x
  else if stOk x.sl x.slo x.shi (c.toNat : Int) = true then
    ⟨M.stp x.b c, stL x.sl (c.toNat : Int), stLo x.sl (c.toNat : Int), stHi x.sl (c.toNat : Int), M.ste x.b c, if M.ste x.b c = 0 then x.rd + 1 else x.rd⟩
  else { x with e := 3 }
def feedG (x : Ss M) (l : List UInt8) : Ss M := l.foldl feed1 x
theorem feedG_cons (x : Ss M) (c : UInt8) (l : List UInt8) : feedG x (c :: l) = feedG (feed1 x c) l := rfl
theorem feed1_stop {x : Ss M} (h : x.e ≠ 0) (c : UInt8) : feed1 x c = x := by unfold feed1; rw [if_pos h]
theorem feedG_stop {x : Ss M} (h : x.e ≠ 0) : ∀ l, feedG x l = x
  | [] => rfl
  | c :: l => by rw [feedG_cons, feed1_stop h]; exact feedG_stop h l
structure SInv (x : Ss M) (k : Nat) : Prop where
  b : x.e = 0 → M.Inv x.b (2 * k)
  ln : (M.l x.b).length ≤ 2 * (2 * k)
  rd : x.rd ≤ k
  sl : 0 ≤ x.sl ∧ x.sl ≤ 3
theorem sinv_feed1 {x : Ss M} {k : Nat} (h : SInv x k) (c : UInt8) : SInv (feed1 x c) (k + 1) := by
  unfold feed1
  split
  · rename_i he
    exact ⟨fun e => absurd e he, by have := h.ln; omega, by have := h.rd; omega, h.sl⟩
  · rename_i he
    have he' : x.e = 0 := by simpa using he
    split
    · exact ⟨fun e => M.inv_step c (h.b he') e, M.len_step c (h.b he'), by have := h.rd; simp only; split <;> omega, stL_range h.sl.1 h.sl.2⟩
    · exact ⟨fun e => absurd (show (3 : Int) = 0 from e) (by decide), by have := h.ln; simp only; omega, by have := h.rd; simp only; omega, h.sl⟩
theorem sinv0 : SInv (ss0 M) 0 := ⟨fun _ => M.inv0, M.inv_len M.inv0, by simp [ss0], by simp [ss0]⟩
theorem sinv_feedG : ∀ (l : List UInt8) (x : Ss M) (k : Nat), SInv x k → SInv (feedG x l) (k + l.length)
  | [], _, _, h => h
  | c :: l, x, k, h => by
    have := sinv_feedG l (feed1 x c) (k + 1) (sinv_feed1 h c)
    rw [feedG_cons, List.length_cons]
    rwa [show k + (l.length + 1) = k + 1 + l.length from by omega]

def endE (x : Ss M) : Int := if x.sl = 0 then M.fne x.b else 3
def endBs (x : Ss M) : M.σ := if x.sl = 0 then M.fin x.b else x.b
def closeE (x : Ss M) : Int := if x.e ≠ 0 then x.e else endE x
def closeBs (x : Ss M) : M.σ := if x.e ≠ 0 then x.b else endBs x
end
end Go.Proofs.YtalkjgijmceifaaGreatDoor
namespace Go.Proofs.YtalkjgijmceifaaGreatDoor
open Go.RowKit Go.Maps
set_option maxRecDepth 100000
set_option linter.unusedSimpArgs false
set_option linter.unusedVariables false
set_option linter.unusedSectionVars false
variable [Tab] [Fo]

/-- The variables of the library, below base. -/
def SW (base : Nat) (w : World) : Prop := ∃ w0, Nm.StdW w0 ∧ w0.heap.size ≤ base ∧ Below w0.heap.size w0 w
theorem SW.std {base : Nat} {w : World} (h : SW base w) : Nm.StdW w := by obtain ⟨w0, h1, _, h3⟩ := h; exact h1.below h3
theorem SW.below {base : Nat} {w w' : World} (h : SW base w) (hb : Below base w w') : SW base w' := by
  obtain ⟨w0, h1, h2, h3⟩ := h
  exact ⟨w0, h1, h2, h3.trans (hb.mono h2)⟩
theorem SW.tch {base : Nat} {w w' : World} {p : Obj → Prop} (h : SW base w) (ht : Tch base p w w') (hb : base ≤ w.heap.size) : SW base w' := h.below (ht.below hb)

/-- The same, of a machine that tells numbers. -/
def SN (n : Prop) (base : Nat) (w : World) : Prop := n → SW base w
theorem SN.of {n : Prop} {base : Nat} {w : World} (h : SW base w) : SN n base w := fun _ => h
theorem SN.below {n : Prop} {base : Nat} {w w' : World} (h : SN n base w) (hb : Below base w w') : SN n base w' := fun e => (h e).below hb
theorem SN.tch {n : Prop} {base : Nat} {w w' : World} {p : Obj → Prop} (h : SN n base w) (ht : Tch base p w w') (hb : base ≤ w.heap.size) : SN n base w' := fun e => (h e).tch ht hb

def ssObj : Obj → Prop
  | .cells _ t _ => t = 51 ∨ t = 101
  | _ => False
/-- What a step leaves of what it does not know. -/
structure FrG (obj : Obj → Prop) (base B : Nat) (w w' : World) : Prop where
  low : Below base w w'
  keep : ∀ k o, w.heap[k]? = some o → k < B → ¬ obj o → w'.heap[k]? = some o
  fo : ∀ k o, w.heap[k]? = some o → Fo.F k → w'.heap[k]? = some o
theorem FrG.refl (obj : Obj → Prop) (base B : Nat) (w : World) : FrG obj base B w w := ⟨Below.refl _ _, fun k o h _ _ => h, fun k o h _ => h⟩
section
variable {obj : Obj → Prop} {base B : Nat} {w w' w'' : World}
theorem FrG.trans (h : FrG obj base B w w') (k : FrG obj base B w' w'') : FrG obj base B w w'' := ⟨h.low.trans k.low, fun i o ho hi hn => k.keep i o (h.keep i o ho hi hn) hi hn, fun i o ho hf => k.fo i o (h.fo i o ho hf) hf⟩
theorem FrG.of_tch (h : Tch base obj w w') (hb : base ≤ w.heap.size) : FrG obj base B w w' := ⟨h.below hb, fun k o ho _ hn => h.block k o ho (.inr (.inl hn)), fun k o ho hf => h.block k o ho (.inr (.inr hf))⟩
end
/-- Below base, and of the foreign blocks, nothing has turned. -/
structure LowF (base : Nat) (w w' : World) : Prop where
  low : Below base w w'
  fo : ∀ k o, w.heap[k]? = some o → Fo.F k → w'.heap[k]? = some o
section
variable {obj : Obj → Prop} {base B : Nat} {w w' w'' : World}
theorem LowF.refl (base : Nat) (w : World) : LowF base w w := ⟨Below.refl _ _, fun k o h _ => h⟩
theorem LowF.trans (h : LowF base w w') (k : LowF base w' w'') : LowF base w w'' := ⟨h.low.trans k.low, fun i o ho hf => k.fo i o (h.fo i o ho hf) hf⟩
theorem LowF.of_tch {p : Obj → Prop} (h : Tch base p w w') (hb : base ≤ w.heap.size) : LowF base w w' := ⟨h.below hb, fun k o ho hf => h.block k o ho (.inr (.inr hf))⟩
theorem LowF.of_below (h : Below w.heap.size w w') (hb : base ≤ w.heap.size) : LowF base w w' := ⟨h.mono hb, fun k o ho _ => (h.block k (Array.getElem?_eq_some_iff.1 ho).1).trans ho⟩
theorem LowF.drew (base : Nat) (w : World) : LowF base w w.drew := ⟨below_drew (Below.refl _ _), fun k o h _ => h⟩
theorem FrG.lowF (h : FrG obj base B w w') : LowF base w w' := ⟨h.low, h.fo⟩
end
/-- A row, a Check, events that wait: they lie as they lay where no block of theirs has turned. -/
theorem row_up {w w' : World} {b : Nat} {e : TypeId} {size n : Nat} {v : Value} {xs : List Value} (h : w.ownsRow b e size v n xs) (hk : ∀ k o, b ≤ k → w.heap[k]? = some o → w'.heap[k]? = some o) : w'.ownsRow b e size v n xs := by
  refine ⟨h.1, ?_⟩
  rcases h.2 with hn | ⟨g, cap, cur, hv, hg, hh, r⟩
  · exact .inl hn
  · exact .inr ⟨g, cap, cur, hv, hg, hk _ _ hg hh, r⟩

theorem OAt.tch {w w' : World} {base o ck : Nat} {st : List Pt} {l : List Ev} {p : Obj → Prop} (h : OAt w base o ck st l) (ht : Tch base p w w') (h1 : ∀ cs t fr, t = 62 ∨ t = 59 ∨ t = 47 ∨ t = 38 → ¬ p (.cells cs t fr)) (h2 : ∀ es c, ¬ p (.map es c)) : OAt w' base o ck st l := by
  obtain ⟨⟨lv, hB, hR, hf⟩, hC, hb, ho⟩ := h
  exact ⟨⟨lv, hB.tch ht (.inr (h1 _ _ _ (.inr (.inr (.inl rfl))))), hR.tch ht (fun _ _ => h1 _ _ _ (.inr (.inr (.inr rfl)))), hf⟩, hC.tch ht (fun cs t fr h => h1 cs t fr (by rcases h with h | h; exact .inl h; exact .inr (.inl h))) h2, hb, ho⟩
theorem OAt.of_ss {w w' : World} {base o ck : Nat} {st : List Pt} {l : List Ev} (h : OAt w base o ck st l) (ht : Tch base ssObj w w') : OAt w' base o ck st l :=
  h.tch ht (fun cs t fr h hc => by simp only [ssObj] at hc; rcases h with rfl | rfl | rfl | rfl <;> exact absurd hc (by decide)) (fun _ _ hc => hc)
structure Mach extends MachP where
  T : TypeId
  fs : FuncId
  fe : FuncId
  hms : ∀ (a : Addr) (w : World), (method 398 T (.pointer (some a)) "Step").run Tryz.prog w = .ok (fs, .pointer (some a)) w
  hme : ∀ (a : Addr) (w : World), (method 398 T (.pointer (some a)) "End").run Tryz.prog w = .ok (fe, .pointer (some a)) w
  efs : ∀ args w, (callFunc fs args).run Tryz.prog w = .ok (.enter fs args) w
  efe : ∀ args w, (callFunc fe args).run Tryz.prog w = .ok (.enter fe args) w
  num : Prop
  raw : World → Nat → Nat → Prop
  At : World → Nat → Nat → Nat → Nat → Nat → σ → Prop
  obj : Obj → Prop
  nss : ∀ cs t fr, t = 51 ∨ t = 101 → ¬ obj (.cells cs t fr)
  raw_below : ∀ {w w' base m}, raw w base m → Below w.heap.size w w' → raw w' base m
  raw_lim : ∀ {w base m}, raw w base m → Fo.lim ≤ w.heap.size
  start : ∀ {w0 w base b2 B m o ck}, raw w0 base m → base ≤ w0.heap.size → Below w0.heap.size w0 w → w0.heap.size ≤ b2 → b2 ≤ w.heap.size → OAt w b2 o ck [topP] [] → At w base B m o ck x0
  out : ∀ {w base B m o ck x}, At w base B m o ck x → OAt w base o ck (st x) (l x)
  ss : ∀ {w w' base B m o ck x}, At w base B m o ck x → Tch base ssObj w w' → (∀ k o, B ≤ k → w.heap[k]? = some o → w'.heap[k]? = some o) → At w' base B m o ck x
  step_any : ∀ (w : World) (base B m o ck : Nat) (x : σ) (b : UInt8) (n : Nat), At w base B m o ck x → Inv x n → n ≤ 100000 → B ≤ w.heap.size → SN num base w → base ≤ w.heap.size →
    Calls Tryz.prog fs #[.pointer (some ⟨m, 0, none⟩), .int .u8 (b.toNat : Int), .pointer (some ⟨o, 0, none⟩)] w fun e w' => e = .returned (.int .i64 (ste x b)) ∧ At w' base B m o ck (stp x b) ∧ FrG obj base B w w'
  end_any : ∀ (w : World) (base B m o ck : Nat) (x : σ) (n : Nat), At w base B m o ck x → Inv x n → n ≤ 100000 → SN num base w → base ≤ w.heap.size →
    Calls Tryz.prog fe #[.pointer (some ⟨m, 0, none⟩), .pointer (some ⟨o, 0, none⟩)] w fun e w' => e = .returned (.int .i64 (fne x)) ∧ OAt w' base o ck (st (fin x)) (l (fin x)) ∧ FrG obj base B w w'
end Go.Proofs.YtalkjgijmceifaaGreatDoor
namespace Go.Proofs.YtalkjgijmceifaaGreatDoor
open Go.RowKit Go.Maps
set_option maxRecDepth 100000
set_option linter.unusedSimpArgs false
set_option linter.unusedVariables false
set_option linter.unusedSectionVars false
variable [Tab] [Fo]

def strV (t : List UInt8) : Value := .string ⟨t.toArray⟩
def dCells (M : Dm) (cv kv : Value) : Array Value := #[.int .i64 M.a, cv, .bool M.hd, .int .i64 (M.n : Int), kv]
/-- The row of the open cell: its block and capacity stay. -/
def kVal (g n : Nat) : Value := .slice (some ⟨g, 0, none⟩) n 48
structure DmAt (w : World) (base m : Nat) (M : Dm) (cv : Value) (g : Nat) : Prop where
  blk : Blk w m 56 (dCells M cv (kVal g M.c.length))
  cols : ORow w base 9 cv (M.cols.map strV)
  cell : w.ownsRow base 5 1 (kVal g M.c.length) M.c.length (M.c.map bV)
  nfc : NF cv
  nfg : ¬ Fo.F g
  bm : base ≤ m
  nf : ¬ Fo.F m
  lim : Fo.lim ≤ w.heap.size
/-- What turns the machine alone: its block, its rows. -/
def dmObj : Obj → Prop
  | .cells _ t _ => t = 56 ∨ t = 9 ∨ t = 5
  | _ => False
def dmOnly : Obj → Prop
  | .cells _ t _ => t = 56
  | _ => False
theorem dm_of {o : Obj} (h : dmOnly o) : dmObj o := by cases o <;> simp only [dmOnly, dmObj] at h ⊢; exact .inl h
section
variable {w w' : World} {base m : Nat} {M : Dm} {cv : Value} {g : Nat}
theorem DmAt.lt (h : DmAt w base m M cv g) : m < w.heap.size := h.blk.lt
theorem DmAt.hb (h : DmAt w base m M cv g) : base ≤ w.heap.size := Nat.le_trans h.bm (Nat.le_of_lt h.blk.lt)
theorem DmAt.tch {p : Obj → Prop} (h : DmAt w base m M cv g) (ht : Tch base p w w') (hp : ∀ cs t fr, t = 56 ∨ t = 9 ∨ t = 5 → ¬ p (.cells cs t fr)) : DmAt w' base m M cv g :=
  ⟨h.blk.tch ht (.inr (hp _ _ _ (.inl rfl))), row_tch h.cols ht (fun _ _ => hp _ _ _ (.inr (.inl rfl))), row_tch h.cell ht (fun _ _ => hp _ _ _ (.inr (.inr rfl))), h.nfc, h.nfg, h.bm, h.nf, Nat.le_trans h.lim ht.size⟩
theorem DmAt.below (h : DmAt w base m M cv g) (hb : Below w.heap.size w w') : DmAt w' base m M cv g := h.tch (p := fun _ => False) (Tch.of_below hb) (fun _ _ _ _ => id)
theorem DmAt.touch (h : DmAt w base m M cv g) (i : Nat) (u : Value) : Tch base dmOnly w (w.setCell ⟨m, i, none⟩ u) :=
  (Tch.refl _ _ _).set h.blk h.bm h.nf (show dmOnly (.cells _ _ _) from rfl) i u
/-- A store into a cell of the machine's block that is not a row. -/
theorem DmAt.set (h : DmAt w base m M cv g) (i : Nat) (u : Value) {M' : Dm} (hc : (dCells M cv (kVal g M.c.length)).setIfInBounds i u = dCells M' cv (kVal g M'.c.length)) (ho : M'.cols = M.cols) (hk : M'.c = M.c) : DmAt (w.setCell ⟨m, i, none⟩ u) base m M' cv g := by
  have ht := h.touch i u
  refine ⟨by rw [← hc]; exact h.blk.set_ i u, ?_, ?_, h.nfc, h.nfg, h.bm, h.nf, Nat.le_trans h.lim ht.size⟩
  · rw [ho]; exact row_tch h.cols ht (fun _ _ => by simp only [dmOnly]; decide)
  · rw [hk]; exact row_tch h.cell ht (fun _ _ => by simp only [dmOnly]; decide)
theorem DmAt.drewN (h : DmAt w base m M cv g) (n : Nat) : DmAt (w.drewN n) base m M cv g := ⟨h.blk, h.cols, h.cell, h.nfc, h.nfg, h.bm, h.nf, h.lim⟩
theorem DmAt.cells (h : DmAt w base m M cv g) : w.cell? ⟨m, 0, none⟩ = some (.int .i64 M.a) ∧ w.cell? ⟨m, 1, none⟩ = some cv ∧ w.cell? ⟨m, 2, none⟩ = some (.bool M.hd) ∧ w.cell? ⟨m, 3, none⟩ = some (.int .i64 (M.n : Int)) ∧ w.cell? ⟨m, 4, none⟩ = some (.slice (some ⟨g, 0, none⟩) M.c.length 48) :=
  ⟨h.blk.cell 0, h.blk.cell 1, h.blk.cell 2, h.blk.cell 3, h.blk.cell 4⟩
theorem DmAt.frz (h : DmAt w base m M cv g) (i : Nat) : w.frozen? ⟨m, i, none⟩ = false := h.blk.frozen i
/-- The open cell's row, emptied: its block and capacity stay. -/
theorem DmAt.empty (h : DmAt w base m M cv g) : DmAt (w.setCell ⟨m, 4, none⟩ (.slice (some ⟨g, 0, none⟩) 0 48)) base m { M with c := [] } cv g := by
  have ht := h.touch 4 (.slice (some ⟨g, 0, none⟩) 0 48)
  refine ⟨h.blk.set_ 4 _, row_tch h.cols ht (fun _ _ => by simp only [dmOnly]; decide), ?_, h.nfc, h.nfg, h.bm, h.nf, Nat.le_trans h.lim ht.size⟩
  exact row_tch (rowN_cut h.cell (Nat.zero_le _)) ht (fun _ _ => by simp only [dmOnly]; decide)
end

/-- The machine, and the events that wait. -/
structure DX (w : World) (base m o ck : Nat) (s : Ds) : Prop where
  mc : ∃ cv g, DmAt w base m s.m cv g
  out : OAt w base o ck s.st s.l
def dObj (o : Obj) : Prop := tObj o ∨ dmObj o
theorem d_t {o : Obj} (h : tObj o) : dObj o := .inl h
theorem d_m {o : Obj} (h : dmObj o) : dObj o := .inr h
theorem d_mo {o : Obj} (h : dmOnly o) : dObj o := .inr (dm_of h)
/-- What a call of the machine leaves. -/
def DPo (w : World) (base m o ck : Nat) (r : Dr) (e : Ending) (w' : World) : Prop :=
  e = .returned (.int .i64 r.e) ∧ DX w' base m o ck r.b ∧ Tch base dObj w w'
section
variable {w w' : World} {base m o ck : Nat} {s : Ds}
theorem DX.hb (h : DX w base m o ck s) : base ≤ w.heap.size := by obtain ⟨_, _, h⟩ := h.mc; exact h.hb
theorem OAt.of_dm {st : List Pt} {l : List Ev} (h : OAt w base o ck st l) (ht : Tch base dmObj w w') : OAt w' base o ck st l :=
  h.tch ht (fun cs t fr h hc => by simp only [dmObj] at hc; rcases h with rfl | rfl | rfl | rfl <;> exact absurd hc (by decide)) (fun _ _ hc => hc)
theorem DmAt.of_t {M : Dm} {cv : Value} {g : Nat} (h : DmAt w base m M cv g) (ht : Tch base tObj w w') : DmAt w' base m M cv g :=
  h.tch ht (fun cs t fr h hc => by simp only [tObj] at hc; rcases h with rfl | rfl | rfl <;> exact absurd hc (by decide))
theorem DX.below (h : DX w base m o ck s) (hb : Below w.heap.size w w') : DX w' base m o ck s := by
  obtain ⟨cv, g, hM⟩ := h.mc
  exact ⟨⟨cv, g, hM.below hb⟩, h.out.of_dm (Tch.of_below hb)⟩
/-- The machine's own cells have turned. -/
theorem DX.dm (h : DX w base m o ck s) {M' : Dm} {cv : Value} {g : Nat} (ht : Tch base dmObj w w') (hM : DmAt w' base m M' cv g) : DX w' base m o ck { s with m := M' } := ⟨⟨cv, g, hM⟩, h.out.of_dm ht⟩
/-- What telling an event leaves. -/
def DTell (w : World) (base m o ck : Nat) (s : Ds) (x : Ev) (e : Ending) (w' : World) : Prop :=
  e = .returned (.int .i64 (stepE s.st x)) ∧ DX w' base m o ck (tellD s.m s.st s.l x).b ∧ Tch base tObj w w'
theorem DX.tell (h : DX w base m o ck s) (x : Ev) (hg : Good s.st) (hk : x.k ≠ 3) (hs : x.t.size ≤ 140737488355328) (hl : s.l.length ≤ 1000000) :
    Calls Tryz.prog 149 #[.pointer (some ⟨o, 0, none⟩), .agg #[.int .i64 x.k, .string x.t, .string x.v], .slice none 0 0] w (DTell w base m o ck s x) := by
  obtain ⟨cv, g, hM⟩ := h.mc
  refine (tell_any w base o ck s.st s.l x h.out hg (NumW.no hk) hs hl h.hb).mono ?_
  rintro e w' ⟨rfl, hO, ht⟩
  exact ⟨rfl, ⟨⟨cv, g, hM.of_t ht⟩, hO⟩, ht⟩
theorem DTell.p {w0 : World} {x : Ev} {e : Ending} (h : DTell w base m o ck s x e w') (ht : Tch base dObj w0 w) : DPo w0 base m o ck (tellD s.m s.st s.l x) e w' :=
  ⟨h.1, h.2.1, ht.trans (h.2.2.wide fun _ => d_t)⟩
theorem DPo.pre {w0 : World} {r : Dr} {e : Ending} (h : DPo w base m o ck r e w') (ht : Tch base dObj w0 w) : DPo w0 base m o ck r e w' := ⟨h.1, h.2.1, ht.trans h.2.2⟩
end
theorem Tryz.infoU8 : (Tryz.prog.info? 5).map (fun i => (i.zero, i.size, i.bytes)) = some (some (.int .u8 0), 1, 1) := by kernel_rfl
theorem Tryz.infoStr : (Tryz.prog.info? 9).map (fun i => (i.zero, i.size, i.bytes)) = some (some (.string ⟨#[]⟩), 1, 16) := by kernel_rfl
end Go.Proofs.YtalkjgijmceifaaGreatDoor

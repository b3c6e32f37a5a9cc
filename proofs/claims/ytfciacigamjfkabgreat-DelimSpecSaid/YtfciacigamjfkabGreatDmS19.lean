/-
  stream: what a machine has to be, for a Stream to drive it: how it lies, what its calls do and leave.
  delim: the machine as it lies, and what its calls may turn.
  delim: add, slices.Contains, addColumn.
-/
import Derived.Test.YtfciacigamjfkabGreatDmS18
import Derived.Test.YtfciacigamjfkabGreatDmS04
import Derived.OwnWalk
import Derived.IntWalk
namespace Go.Proofs.YtfciacigamjfkabGreat
open Go.RowKit Go.Maps
set_option maxRecDepth 100000
set_option linter.unusedSimpArgs false
set_option linter.unusedVariables false
set_option linter.unusedSectionVars false
variable [Tab] [Fo]

/-- The variables of the library, below base. -/
def SW (base : Nat) (w : World) : Prop := ∃ w0, Nm.StdW w0 ∧ w0.heap.size ≤ base ∧ Below w0.heap.size w0 w
theorem SW.std {base : Nat} {w : World} (h : SW base w) : Nm.StdW w := by obtain ⟨w0, h1, _, h3⟩ := h; exact h1.below h3
theorem SW.below {base : Nat} {w w' : World} (h : SW base w) (hb : Below base w w') : SW base w' := by
  obtain ⟨w0, h1, h2, h3⟩ := h
  exact ⟨w0, h1, h2, h3.trans (hb.mono h2)⟩
theorem SW.tch {base : Nat} {w w' : World} {p : Obj → Prop} (h : SW base w) (ht : Tch base p w w') (hb : base ≤ w.heap.size) : SW base w' := h.below (ht.below hb)

/-- The same, of a machine that tells numbers. -/
def SN (n : Prop) (base : Nat) (w : World) : Prop := n → SW base w
theorem SN.of {n : Prop} {base : Nat} {w : World} (h : SW base w) : SN n base w := fun _ => h
theorem SN.below {n : Prop} {base : Nat} {w w' : World} (h : SN n base w) (hb : Below base w w') : SN n base w' := fun e => (h e).below hb
theorem SN.tch {n : Prop} {base : Nat} {w w' : World} {p : Obj → Prop} (h : SN n base w) (ht : Tch base p w w') (hb : base ≤ w.heap.size) : SN n base w' := fun e => (h e).tch ht hb

def ssObj : Obj → Prop
  | .cells _ t _ => t = 83 ∨ t = 138
  | _ => False
/-- What a step leaves of what it does not know. -/
structure FrG (obj : Obj → Prop) (base B : Nat) (w w' : World) : Prop where
  low : Below base w w'
  keep : ∀ k o, w.heap[k]? = some o → k < B → ¬ obj o → w'.heap[k]? = some o
  fo : ∀ k o, w.heap[k]? = some o → Fo.F k → w'.heap[k]? = some o
theorem FrG.refl (obj : Obj → Prop) (base B : Nat) (w : World) : FrG obj base B w w := ⟨Below.refl _ _, fun k o h _ _ => h, fun k o h _ => h⟩
section
variable {obj : Obj → Prop} {base B : Nat} {w w' w'' : World}
theorem FrG.trans (h : FrG obj base B w w') (k : FrG obj base B w' w'') : FrG obj base B w w'' := ⟨h.low.trans k.low, fun i o ho hi hn => k.keep i o (h.keep i o ho hi hn) hi hn, fun i o ho hf => k.fo i o (h.fo i o ho hf) hf⟩
theorem FrG.of_tch (h : Tch base obj w w') (hb : base ≤ w.heap.size) : FrG obj base B w w' := ⟨h.below hb, fun k o ho _ hn => h.block k o ho (.inr (.inl hn)), fun k o ho hf => h.block k o ho (.inr (.inr hf))⟩
end
/-- Below base, and of the foreign blocks, nothing has turned. -/
structure LowF (base : Nat) (w w' : World) : Prop where
  low : Below base w w'
  fo : ∀ k o, w.heap[k]? = some o → Fo.F k → w'.heap[k]? = some o
section
variable {obj : Obj → Prop} {base B : Nat} {w w' w'' : World}
theorem LowF.refl (base : Nat) (w : World) : LowF base w w := ⟨Below.refl _ _, fun k o h _ => h⟩
theorem LowF.trans (h : LowF base w w') (k : LowF base w' w'') : LowF base w w'' := ⟨h.low.trans k.low, fun i o ho hf => k.fo i o (h.fo i o ho hf) hf⟩
theorem LowF.of_tch {p : Obj → Prop} (h : Tch base p w w') (hb : base ≤ w.heap.size) : LowF base w w' := ⟨h.below hb, fun k o ho hf => h.block k o ho (.inr (.inr hf))⟩
theorem LowF.of_below (h : Below w.heap.size w w') (hb : base ≤ w.heap.size) : LowF base w w' := ⟨h.mono hb, fun k o ho _ => (h.block k (Array.getElem?_eq_some_iff.1 ho).1).trans ho⟩
theorem LowF.drew (base : Nat) (w : World) : LowF base w w.drew := ⟨below_drew (Below.refl _ _), fun k o h _ => h⟩
theorem FrG.lowF (h : FrG obj base B w w') : LowF base w w' := ⟨h.low, h.fo⟩
end
/-- A row, a Check, events that wait: they lie as they lay where no block of theirs has turned. -/
theorem row_up {w w' : World} {b : Nat} {e : TypeId} {size n : Nat} {v : Value} {xs : List Value} (h : w.ownsRow b e size v n xs) (hk : ∀ k o, b ≤ k → w.heap[k]? = some o → w'.heap[k]? = some o) : w'.ownsRow b e size v n xs := by
  refine ⟨h.1, ?_⟩
  rcases h.2 with hn | ⟨g, cap, cur, hv, hg, hh, r⟩
  · exact .inl hn
  · exact .inr ⟨g, cap, cur, hv, hg, hk _ _ hg hh, r⟩

theorem OAt.tch {w w' : World} {base o ck : Nat} {st : List Pt} {l : List Ev} {p : Obj → Prop} (h : OAt w base o ck st l) (ht : Tch base p w w') (h1 : ∀ cs t fr, t = 144 ∨ t = 141 ∨ t = 110 ∨ t = 46 → ¬ p (.cells cs t fr)) (h2 : ∀ es c, ¬ p (.map es c)) : OAt w' base o ck st l := by
  obtain ⟨⟨lv, hB, hR, hf⟩, hC, hb, ho⟩ := h
  exact ⟨⟨lv, hB.tch ht (.inr (h1 _ _ _ (.inr (.inr (.inl rfl))))), hR.tch ht (fun _ _ => h1 _ _ _ (.inr (.inr (.inr rfl)))), hf⟩, hC.tch ht (fun cs t fr h => h1 cs t fr (by rcases h with h | h; exact .inl h; exact .inr (.inl h))) h2, hb, ho⟩
theorem OAt.of_ss {w w' : World} {base o ck : Nat} {st : List Pt} {l : List Ev} (h : OAt w base o ck st l) (ht : Tch base ssObj w w') : OAt w' base o ck st l :=
  h.tch ht (fun cs t fr h hc => by simp only [ssObj] at hc; rcases h with rfl | rfl | rfl | rfl <;> exact absurd hc (by decide)) (fun _ _ hc => hc)
structure Mach extends MachP where
  T : TypeId
  fs : FuncId
  fe : FuncId
  hms : ∀ (a : Addr) (w : World), (method 448 T (.pointer (some a)) "Step").run Tryz.prog w = .ok (fs, .pointer (some a)) w
  hme : ∀ (a : Addr) (w : World), (method 448 T (.pointer (some a)) "End").run Tryz.prog w = .ok (fe, .pointer (some a)) w
  efs : ∀ args w, (callFunc fs args).run Tryz.prog w = .ok (.enter fs args) w
  efe : ∀ args w, (callFunc fe args).run Tryz.prog w = .ok (.enter fe args) w
  num : Prop
  raw : World → Nat → Nat → Prop
  At : World → Nat → Nat → Nat → Nat → Nat → σ → Prop
  obj : Obj → Prop
  nss : ∀ cs t fr, t = 83 ∨ t = 138 → ¬ obj (.cells cs t fr)
  raw_below : ∀ {w w' base m}, raw w base m → Below w.heap.size w w' → raw w' base m
  raw_lim : ∀ {w base m}, raw w base m → Fo.lim ≤ w.heap.size
  start : ∀ {w0 w base b2 B m o ck}, raw w0 base m → base ≤ w0.heap.size → Below w0.heap.size w0 w → w0.heap.size ≤ b2 → b2 ≤ w.heap.size → OAt w b2 o ck [topP] [] → At w base B m o ck x0
  out : ∀ {w base B m o ck x}, At w base B m o ck x → OAt w base o ck (st x) (l x)
  ss : ∀ {w w' base B m o ck x}, At w base B m o ck x → Tch base ssObj w w' → (∀ k o, B ≤ k → w.heap[k]? = some o → w'.heap[k]? = some o) → At w' base B m o ck x
  step_any : ∀ (w : World) (base B m o ck : Nat) (x : σ) (b : UInt8) (n : Nat), At w base B m o ck x → Inv x n → n ≤ 100000 → B ≤ w.heap.size → SN num base w → base ≤ w.heap.size →
    Calls Tryz.prog fs #[.pointer (some ⟨m, 0, none⟩), .int .u8 (b.toNat : Int), .pointer (some ⟨o, 0, none⟩)] w fun e w' => e = .returned (.int .i64 (ste x b)) ∧ At w' base B m o ck (stp x b) ∧ FrG obj base B w w'
  end_any : ∀ (w : World) (base B m o ck : Nat) (x : σ) (n : Nat), At w base B m o ck x → Inv x n → n ≤ 100000 → SN num base w → base ≤ w.heap.size →
    Calls Tryz.prog fe #[.pointer (some ⟨m, 0, none⟩), .pointer (some ⟨o, 0, none⟩)] w fun e w' => e = .returned (.int .i64 (fne x)) ∧ OAt w' base o ck (st (fin x)) (l (fin x)) ∧ FrG obj base B w w'
end Go.Proofs.YtfciacigamjfkabGreat
namespace Go.Proofs.YtfciacigamjfkabGreat
open Go.RowKit Go.Maps
set_option maxRecDepth 100000
set_option linter.unusedSimpArgs false
set_option linter.unusedVariables false
set_option linter.unusedSectionVars false
variable [Tab] [Fo]

def strV (t : List UInt8) : Value := .string ⟨t.toArray⟩
def dCells (M : Dm) (cv kv : Value) : Array Value := #[.int .i64 M.a, cv, .bool M.hd, .int .i64 (M.n : Int), kv]
/-- The row of the open cell: its block and capacity stay. -/
def kVal (g n : Nat) : Value := .slice (some ⟨g, 0, none⟩) n 48
structure DmAt (w : World) (base m : Nat) (M : Dm) (cv : Value) (g : Nat) : Prop where
  blk : Blk w m 113 (dCells M cv (kVal g M.c.length))
  cols : ORow w base 9 cv (M.cols.map strV)
  cell : w.ownsRow base 5 1 (kVal g M.c.length) M.c.length (M.c.map bV)
  nfc : NF cv
  nfg : ¬ Fo.F g
  bm : base ≤ m
  nf : ¬ Fo.F m
  lim : Fo.lim ≤ w.heap.size
/-- What turns the machine alone: its block, its rows. -/
def dmObj : Obj → Prop
  | .cells _ t _ => t = 113 ∨ t = 9 ∨ t = 5
  | _ => False
def dmOnly : Obj → Prop
  | .cells _ t _ => t = 113
  | _ => False
theorem dm_of {o : Obj} (h : dmOnly o) : dmObj o := by cases o <;> simp only [dmOnly, dmObj] at h ⊢; exact .inl h
section
variable {w w' : World} {base m : Nat} {M : Dm} {cv : Value} {g : Nat}
theorem DmAt.lt (h : DmAt w base m M cv g) : m < w.heap.size := h.blk.lt
theorem DmAt.hb (h : DmAt w base m M cv g) : base ≤ w.heap.size := Nat.le_trans h.bm (Nat.le_of_lt h.blk.lt)
theorem DmAt.tch {p : Obj → Prop} (h : DmAt w base m M cv g) (ht : Tch base p w w') (hp : ∀ cs t fr, t = 113 ∨ t = 9 ∨ t = 5 → ¬ p (.cells cs t fr)) : DmAt w' base m M cv g :=
  ⟨h.blk.tch ht (.inr (hp _ _ _ (.inl rfl))), row_tch h.cols ht (fun _ _ => hp _ _ _ (.inr (.inl rfl))), row_tch h.cell ht (fun _ _ => hp _ _ _ (.inr (.inr rfl))), h.nfc, h.nfg, h.bm, h.nf, Nat.le_trans h.lim ht.size⟩
theorem DmAt.below (h : DmAt w base m M cv g) (hb : Below w.heap.size w w') : DmAt w' base m M cv g := h.tch (p := fun _ => False) (Tch.of_below hb) (fun _ _ _ _ => id)
theorem DmAt.touch (h : DmAt w base m M cv g) (i : Nat) (u : Value) : Tch base dmOnly w (w.setCell ⟨m, i, none⟩ u) :=
  (Tch.refl _ _ _).set h.blk h.bm h.nf (show dmOnly (.cells _ _ _) from rfl) i u
/-- A store into a cell of the machine's block that is not a row. -/
theorem DmAt.set (h : DmAt w base m M cv g) (i : Nat) (u : Value) {M' : Dm} (hc : (dCells M cv (kVal g M.c.length)).setIfInBounds i u = dCells M' cv (kVal g M'.c.length)) (ho : M'.cols = M.cols) (hk : M'.c = M.c) : DmAt (w.setCell ⟨m, i, none⟩ u) base m M' cv g := by
  have ht := h.touch i u
  refine ⟨by rw [← hc]; exact h.blk.set_ i u, ?_, ?_, h.nfc, h.nfg, h.bm, h.nf, Nat.le_trans h.lim ht.size⟩
  · rw [ho]; exact row_tch h.cols ht (fun _ _ => by simp only [dmOnly]; decide)
  · rw [hk]; exact row_tch h.cell ht (fun _ _ => by simp only [dmOnly]; decide)
theorem DmAt.drewN (h : DmAt w base m M cv g) (n : Nat) : DmAt (w.drewN n) base m M cv g := ⟨h.blk, h.cols, h.cell, h.nfc, h.nfg, h.bm, h.nf, h.lim⟩
theorem DmAt.cells (h : DmAt w base m M cv g) : w.cell? ⟨m, 0, none⟩ = some (.int .i64 M.a) ∧ w.cell? ⟨m, 1, none⟩ = some cv ∧ w.cell? ⟨m, 2, none⟩ = some (.bool M.hd) ∧ w.cell? ⟨m, 3, none⟩ = some (.int .i64 (M.n : Int)) ∧ w.cell? ⟨m, 4, none⟩ = some (.slice (some ⟨g, 0, none⟩) M.c.length 48) :=
  ⟨h.blk.cell 0, h.blk.cell 1, h.blk.cell 2, h.blk.cell 3, h.blk.cell 4⟩
theorem DmAt.frz (h : DmAt w base m M cv g) (i : Nat) : w.frozen? ⟨m, i, none⟩ = false := h.blk.frozen i
/-- The open cell's row, emptied: its block and capacity stay. -/
theorem DmAt.empty (h : DmAt w base m M cv g) : DmAt (w.setCell ⟨m, 4, none⟩ (.slice (some ⟨g, 0, none⟩) 0 48)) base m { M with c := [] } cv g := by
  have ht := h.touch 4 (.slice (some ⟨g, 0, none⟩) 0 48)
  refine ⟨h.blk.set_ 4 _, row_tch h.cols ht (fun _ _ => by simp only [dmOnly]; decide), ?_, h.nfc, h.nfg, h.bm, h.nf, Nat.le_trans h.lim ht.size⟩
  exact row_tch (rowN_cut h.cell (Nat.zero_le _)) ht (fun _ _ => by simp only [dmOnly]; decide)
end

/-- The machine, and the events that wait. -/
structure DX (w : World) (base m o ck : Nat) (s : Ds) : Prop where
  mc : ∃ cv g, DmAt w base m s.m cv g
  out : OAt w base o ck s.st s.l
def dObj (o : Obj) : Prop := tObj o ∨ dmObj o
theorem d_t {o : Obj} (h : tObj o) : dObj o := .inl h
theorem d_m {o : Obj} (h : dmObj o) : dObj o := .inr h
theorem d_mo {o : Obj} (h : dmOnly o) : dObj o := .inr (dm_of h)
/-- What a call of the machine leaves. -/
def DPo (w : World) (base m o ck : Nat) (r : Dr) (e : Ending) (w' : World) : Prop :=
  e = .returned (.int .i64 r.e) ∧ DX w' base m o ck r.b ∧ Tch base dObj w w'
section
variable {w w' : World} {base m o ck : Nat} {s : Ds}
theorem DX.hb (h : DX w base m o ck s) : base ≤ w.heap.size := by obtain ⟨_, _, h⟩ := h.mc; exact h.hb
theorem OAt.of_dm {st : List Pt} {l : List Ev} (h : OAt w base o ck st l) (ht : Tch base dmObj w w') : OAt w' base o ck st l :=
  h.tch ht (fun cs t fr h hc => by simp only [dmObj] at hc; rcases h with rfl | rfl | rfl | rfl <;> exact absurd hc (by decide)) (fun _ _ hc => hc)
theorem DmAt.of_t {M : Dm} {cv : Value} {g : Nat} (h : DmAt w base m M cv g) (ht : Tch base tObj w w') : DmAt w' base m M cv g :=
  h.tch ht (fun cs t fr h hc => by simp only [tObj] at hc; rcases h with rfl | rfl | rfl <;> exact absurd hc (by decide))
theorem DX.below (h : DX w base m o ck s) (hb : Below w.heap.size w w') : DX w' base m o ck s := by
  obtain ⟨cv, g, hM⟩ := h.mc
  exact ⟨⟨cv, g, hM.below hb⟩, h.out.of_dm (Tch.of_below hb)⟩
/-- The machine's own cells have turned. -/
theorem DX.dm (h : DX w base m o ck s) {M' : Dm} {cv : Value} {g : Nat} (ht : Tch base dmObj w w') (hM : DmAt w' base m M' cv g) : DX w' base m o ck { s with m := M' } := ⟨⟨cv, g, hM⟩, h.out.of_dm ht⟩
/-- What telling an event leaves. -/
def DTell (w : World) (base m o ck : Nat) (s : Ds) (x : Ev) (e : Ending) (w' : World) : Prop :=
  e = .returned (.int .i64 (stepE s.st x)) ∧ DX w' base m o ck (tellD s.m s.st s.l x).b ∧ Tch base tObj w w'
theorem DX.tell (h : DX w base m o ck s) (x : Ev) (hg : Good s.st) (hk : x.k ≠ 3) (hs : x.t.size ≤ 140737488355328) (hl : s.l.length ≤ 1000000) :
    Calls Tryz.prog 138 #[.pointer (some ⟨o, 0, none⟩), .agg #[.int .i64 x.k, .string x.t, .string x.v], .slice none 0 0] w (DTell w base m o ck s x) := by
  obtain ⟨cv, g, hM⟩ := h.mc
  refine (tell_any w base o ck s.st s.l x h.out hg (NumW.no hk) hs hl h.hb).mono ?_
  rintro e w' ⟨rfl, hO, ht⟩
  exact ⟨rfl, ⟨⟨cv, g, hM.of_t ht⟩, hO⟩, ht⟩
theorem DTell.p {w0 : World} {x : Ev} {e : Ending} (h : DTell w base m o ck s x e w') (ht : Tch base dObj w0 w) : DPo w0 base m o ck (tellD s.m s.st s.l x) e w' :=
  ⟨h.1, h.2.1, ht.trans (h.2.2.wide fun _ => d_t)⟩
theorem DPo.pre {w0 : World} {r : Dr} {e : Ending} (h : DPo w base m o ck r e w') (ht : Tch base dObj w0 w) : DPo w0 base m o ck r e w' := ⟨h.1, h.2.1, ht.trans h.2.2⟩
end
theorem Tryz.infoU8 : (Tryz.prog.info? 5).map (fun i => (i.zero, i.size, i.bytes)) = some (some (.int .u8 0), 1, 1) := by kernel_rfl
theorem Tryz.infoStr : (Tryz.prog.info? 9).map (fun i => (i.zero, i.size, i.bytes)) = some (some (.string ⟨#[]⟩), 1, 16) := by kernel_rfl
end Go.Proofs.YtfciacigamjfkabGreat
namespace Go.Proofs.YtfciacigamjfkabGreat
open Go.RowKit Go.Maps
set_option maxRecDepth 100000
set_option linter.unusedSimpArgs false
set_option linter.unusedVariables false
set_option linter.unusedSectionVars false
variable [Tab] [Fo]

set_option maxHeartbeats 4000000 in
theorem dadd_any (w : World) (base m o ck : Nat) (s : Ds) (b : UInt8) (h : DX w base m o ck s) (h48 : s.m.c.length ≤ 48) :
    Calls Tryz.prog 137 #[.pointer (some ⟨m, 0, none⟩), .int .u8 (b.toNat : Int)] w (DPo w base m o ck (addD s b)) := by
  obtain ⟨cv, g, hM⟩ := h.mc
  have hb := hM.hb
  obtain ⟨_, _, _, _, c4⟩ := hM.cells
  have hlt := hM.lt
  unfold addD
  by_cases hf : 48 ≤ s.m.c.length
  · rw [if_pos hf]
    have e48 : s.m.c.length = 48 := by omega
    rw [e48] at c4
    have HF : Hid (DPo w base m o ck ⟨s, 4⟩ (.returned (.int .i64 4)) w.drew) := Lib.hid ⟨rfl, h.below (below_drew (Below.refl _ _)), (Tch.refl _ _ _).drew⟩
    clear h hM hf e48 h48
    go_enter Tryz.func137, Tryz.ntmps137
    go_wp2
    go_region
    go_wp2
    go_ret
    exact HF.out
  · rw [if_neg hf]
    have z : ((s.m.c.length : Int) == 48) = false := by rw [beq_eq_false_iff_ne]; omega
    have hdd : Below w.heap.size w w.drew := below_drew (Below.refl _ _)
    have al : Below w.heap.size w (w.drew.alloc (.cells #[.int .u8 (b.toNat : Int)] 5)) := hdd.alloc (Nat.le_refl _) _
    have hM0 := hM.below al
    have hcell := hM0.cell
    have H : Hid (∀ w1, w1.ownsRow base 5 1 (.slice (some ⟨g, 0, none⟩) (s.m.c.length + 1) 48) (s.m.c.length + 1) (s.m.c.map bV ++ [.int .u8 (b.toNat : Int)]) → (w.drew.alloc (.cells #[.int .u8 (b.toNat : Int)] 5)).grownBy w1 (some g) →
        w1.frozen? ⟨m, 4, none⟩ = false ∧ w1.cell? ⟨m, 4, none⟩ = some (.slice (some ⟨g, 0, none⟩) s.m.c.length 48) ∧ m < w1.heap.size ∧
        (∀ W, W = w1.setCell ⟨m, 4, none⟩ (.slice (some ⟨g, 0, none⟩) (s.m.c.length + 1) 48) → DPo w base m o ck ⟨{ s with m := { s.m with c := s.m.c ++ [b] } }, 0⟩ (.returned (.int .i64 0)) W)) := by
      refine Lib.hid fun w1 hown hgr => ?_
      have hob : (kVal g s.m.c.length).ownBlock = some g := rfl
      have ht1 : Tch base dmObj (w.drew.alloc (.cells #[.int .u8 (b.toNat : Int)] 5)) w1 := Tch.of_row hM0.cell (by rw [hob]; exact hgr) (Nat.le_refl _) (fun g' hg' => by rw [hob] at hg'; injection hg' with hg'; subst hg'; exact hM0.nfg) (fun cur => .inr (.inr rfl))
      have hne : m ≠ g := by
        rintro rfl
        have k1 := hM0.blk
        obtain ⟨cur, hc⟩ := row_obj hM0.cell (g := m) rfl
        unfold Blk at k1
        rw [k1] at hc
        injection hc with hc
        injection hc with _ hc
        exact absurd hc (by decide)
      have hB1 : Blk w1 m 113 (dCells s.m cv (kVal g s.m.c.length)) := hM0.blk.grown hgr (fun e => hne (Option.some.inj e))
      have hC1 : ORow w1 base 9 cv (s.m.cols.map strV) := by
        refine hM0.cols.kept hgr ?_
        cases hcv : cv.ownBlock with
        | none => exact .inl rfl
        | some k =>
          refine .inr fun e => ?_
          have e' := Option.some.inj e
          subst e'
          obtain ⟨c1, h1⟩ := row_obj hM0.cols hcv
          obtain ⟨c2, h2⟩ := row_obj hM0.cell (g := k) rfl
          rw [h1] at h2
          injection h2 with h2
          injection h2 with _ h2
          exact absurd h2 (by decide)
      refine ⟨hB1.frozen 4, hB1.cell 4, hB1.lt, fun W e => ?_⟩
      subst e
      have ht2 : Tch base dmOnly w1 (w1.setCell ⟨m, 4, none⟩ (.slice (some ⟨g, 0, none⟩) (s.m.c.length + 1) 48)) := (Tch.refl _ _ _).set hB1 hM.bm hM.nf (show dmOnly (.cells _ _ _) from rfl) 4 _
      have ht : Tch base dmObj w (w1.setCell ⟨m, 4, none⟩ (.slice (some ⟨g, 0, none⟩) (s.m.c.length + 1) 48)) := ((Tch.of_below al).trans ht1).trans (ht2.wide fun _ => dm_of)
      have hlen : (s.m.c ++ [b]).length = s.m.c.length + 1 := by simp
      have hMM : DmAt (w1.setCell ⟨m, 4, none⟩ (.slice (some ⟨g, 0, none⟩) (s.m.c.length + 1) 48)) base m { s.m with c := s.m.c ++ [b] } cv g := by
        refine ⟨?_, row_tch hC1 ht2 (fun _ _ => by simp only [dmOnly]; decide), ?_, hM.nfc, hM.nfg, hM.bm, hM.nf, Nat.le_trans hM.lim ht.size⟩
        · show Blk _ m _ (dCells _ cv (kVal g (s.m.c ++ [b]).length))
          rw [hlen]
          exact hB1.set_ 4 _
        · show World.ownsRow _ base 5 1 (kVal g (s.m.c ++ [b]).length) (s.m.c ++ [b]).length ((s.m.c ++ [b]).map bV)
          rw [hlen, List.map_append]
          exact row_tch hown ht2 (fun _ _ => by simp only [dmOnly]; decide)
      exact ⟨rfl, h.dm ht hMM, ht.wide fun _ => d_m⟩
    obtain ⟨i8, hi8, hz80, hz81, hz82⟩ := info_parts Tryz.infoU8
    obtain ⟨n, hn⟩ : ∃ n, s.m.c.length = n := ⟨_, rfl⟩
    have hr48 : n + 1 ≤ 48 := by omega
    have hcell' : (w.drew.alloc (.cells #[.int .u8 (b.toNat : Int)] 5)).ownsRow base 5 1 (.slice (some ⟨g, 0, none⟩) n 48) n (s.m.c.map bV) := by rw [← hn]; exact hcell
    rw [hn] at H c4 z
    clear h hM hf h48 hM0 hcell hdd al hn hz80 hz82
    go_enter Tryz.func137, Tryz.ntmps137
    go_wp2
    go_region
    go_wp2_with (first
      | (at_builtin; refine wpList_append_fits _ rfl _ _ 22 rfl base 5 i8 1 Tryz.underlying22 hi8 hz81 g n 48 _ rfl hcell' ⟨w.drew.heap.size, 0, none⟩ 1 1 [.int .u8 (b.toNat : Int)] rfl rfl (cell_one_new _ _ _) (fun u hu => by simp at hu; subst hu; rfl) hr48 ?_; intro w1 hown1 hgr1; obtain ⟨f4, d4, dl, HN⟩ := H.out w1 hown1 hgr1; clear hown1 hgr1 H c4 hcell'))
    have HF := Lib.hid (HN _ rfl)
    clear HN
    go_ret
    exact HF.out

/-- Index and Contains. -/
theorem str_neq {x y : List UInt8} (h : ¬ x = y) : ((⟨x.toArray⟩ : ByteArray).toList == (⟨y.toArray⟩ : ByteArray).toList) = false ∧ ¬ (⟨x.toArray⟩ : ByteArray).toList = (⟨y.toArray⟩ : ByteArray).toList := str_diff (fun e => h (by have := congrArg (fun z : ByteArray => z.data.toList) e; simpa using this))
def SRead (w : World) (cv : Value) (l : List (List UInt8)) : Prop := ∃ A c, cv = .slice A l.length c ∧ (0 < l.length → ∃ ad : Addr, A = some ad ∧ ∀ j (h : j < l.length), w.cell? (ad.add j) = some (.string ⟨l[j].toArray⟩))
theorem ORow.sread {w : World} {base : Nat} {cv : Value} {l : List (List UInt8)} (h : ORow w base 9 cv (l.map strV)) : SRead w cv l := by
  rcases h.form with ⟨rfl, h0⟩ | ⟨g, cap, rfl, _⟩
  · have : l = [] := by simpa using h0
    subst this
    exact ⟨none, 0, rfl, fun h => absurd h (by simp)⟩
  · refine ⟨some ⟨g, 0, none⟩, cap, by rw [List.length_map], fun _ => ⟨_, rfl, fun j hj => ?_⟩⟩
    obtain ⟨ad, e, _, _, hc⟩ := h.cell (k := j) (by simpa using hj)
    injection e with e
    injection e with e
    subst e
    rw [addr_add0, hc]
    simp [strV]

set_option maxHeartbeats 4000000 in
theorem sindex_any (w : World) (cv : Value) (l : List (List UInt8)) (t : List UInt8) (hv : SRead w cv l) (hl : l.length ≤ 1000000) :
    Calls Tryz.prog 157 #[cv, .string ⟨t.toArray⟩] w fun e w' => (∃ i : Int, e = .returned (.int .i64 i) ∧ (t ∈ l → 0 ≤ i) ∧ (t ∉ l → i = -1)) ∧ ∃ n, w' = w.drewN n := by
  obtain ⟨A, c, rfl, hr⟩ := hv
  go_enter Tryz.func157, Tryz.ntmps157
  go_wp2
  go_loopw [8] (fun i wr => ∃ k : Nat, k ≤ l.length ∧ i = .int .i64 k ∧ Hid (t ∉ l.take k) ∧ ∃ n, wr = w.drewN n) (fun i _ => l.length - (intOf i).toNat)
  case atStart => exact ⟨0, Nat.zero_le _, rfl, Lib.hid (by simp), 0, rfl⟩
  case round =>
    obtain ⟨k, hk, rfl, HT, n, rfl⟩ := hrel
    by_cases hlt : k < l.length
    · obtain ⟨ad, rfl, hc⟩ := hr (by omega)
      have hck : (w.drewN n).cell? (ad.add k) = some (.string ⟨l[k].toArray⟩) := hc k hlt
      by_cases he : t = l[k]
      · have hm : t ∈ l := by rw [he]; exact List.getElem_mem hlt
        have HM := Lib.hid hm
        rw [← he] at hck
        clear he hc hr hm
        go_wp2
        go_ret
        exact ⟨⟨k, rfl, fun _ => by omega, fun h => absurd HM.out h⟩, n, rfl⟩
      · have n1 : (t == l[k]) = false := by rw [beq_eq_false_iff_ne]; exact he
        have HT2 : Hid (t ∉ l.take (k + 1)) := Lib.hid (by
          rw [List.take_succ_eq_append_getElem hlt, List.mem_append]
          rintro (h | h)
          · exact HT.out h
          · simp at h; exact he h)
        generalize l[k] = y at *
        clear he hc hr
        go_wp2
        go_roundw
        case rel => exact ⟨k + 1, hlt, by go_num, HT2, n, rfl⟩
        case measure => first | (simp [intOf]; done) | (simp [intOf]; omega)
    · have hke : k = l.length := by omega
      have h2 := HT.out
      rw [List.take_of_length_le (by omega)] at h2
      have HN := Lib.hid h2
      subst hke
      clear h2 HT hr
      go_wp2
      go_ret
      exact ⟨⟨-1, rfl, fun h => absurd h HN.out, fun _ => rfl⟩, n, rfl⟩
theorem scontains_any (w : World) (cv : Value) (l : List (List UInt8)) (t : List UInt8) (hv : SRead w cv l) (hl : l.length ≤ 1000000) :
    Calls Tryz.prog 149 #[cv, .string ⟨t.toArray⟩] w fun e w' => e = .returned (.bool (decide (t ∈ l))) ∧ ∃ n, w' = w.drewN n := by
  have hC := Lib.hid (sindex_any w cv l t hv hl)
  obtain ⟨q, hq⟩ : ∃ q, decide (t ∈ l) = q := ⟨_, rfl⟩
  rw [hq]
  clear hv
  go_enter Tryz.func149, Tryz.ntmps149
  go_wp2_with fail
  refine hC.out.mono ?_
  rintro e w' ⟨⟨i, rfl, h1, h2⟩, n, rfl⟩
  by_cases hm : t ∈ l
  · have h0 := h1 hm
    have z : decide (0 ≤ i) = true := by simpa using h0
    have hd : decide (t ∈ l) = true := by simpa using hm
    rw [hd] at hq
    subst hq
    clear h1 h2 hm hC hd
    go_wp2
    go_ret
    exact ⟨rfl, n, rfl⟩
  · have h0 := h2 hm
    have hd : decide (t ∈ l) = false := by simpa using hm
    rw [hd] at hq
    subst hq
    clear hd
    subst h0
    clear h1 h2 hm hC
    go_wp2
    go_ret
    exact ⟨rfl, n, rfl⟩
end Go.Proofs.YtfciacigamjfkabGreat

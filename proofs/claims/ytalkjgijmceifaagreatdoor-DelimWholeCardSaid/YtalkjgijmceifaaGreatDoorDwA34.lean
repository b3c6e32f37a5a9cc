/-
  stream: what was told is a run of the events' machine; when the end is OK it is a document: for any machine of which it holds step by step. No program is read here.
  delim: its machine as plain functions that a Stream drives; what Decode tells. No program is read here.
  stream: a byte, for any machine.
-/
import Derived.Test.YtalkjgijmceifaaGreatDoorDwA27
import Derived.Test.YtalkjgijmceifaaGreatDoorDwA22
import Derived.Test.YtalkjgijmceifaaGreatDoorDwA33
import Derived.Test.YtalkjgijmceifaaGreatDoorDwA07
namespace Go.Proofs.YtalkjgijmceifaaGreatDoor
set_option maxRecDepth 100000
set_option linter.unusedSimpArgs false
set_option linter.unusedVariables false
set_option linter.unusedSectionVars false
variable [Tab] [Fo]

/-- What was told is a run. -/
structure TkM (M : MachP) (x : M.σ) : Prop where
  ok : allOk [topP] (M.l x)
  run : M.st x = runS [topP] (M.l x)
  sz : ∀ e ∈ M.l x, okE e
structure MachW (M : MachP) where
  PI : M.σ → Prop
  tk : ∀ {x}, PI x → TkM M x
  pi0 : PI M.x0
  step : ∀ {x n} b, PI x → M.Inv x n → TkM M (M.stp x b) ∧ (M.ste x b = 0 → PI (M.stp x b))
  fin : ∀ {x n}, PI x → M.Inv x n → TkM M (M.fin x) ∧ (M.fne x = 0 → doneB (M.st (M.fin x)) = true)
  len : ∀ {x n}, M.Inv x n → (M.l (M.fin x)).length ≤ 2 * n + 8
variable {M : MachP} (F : MachW M)
structure FI (x : Ss M) (k : Nat) : Prop where
  tk : TkM M x.b
  pi : x.e = 0 → F.PI x.b
  rd : x.e = 0 → x.rd = k
theorem fi_feed1 {x : Ss M} {k : Nat} (h : FI F x k) (hi : SInv x k) (c : UInt8) : FI F (feed1 x c) (k + 1) := by
  unfold feed1
  split
  · rename_i he; exact ⟨h.tk, fun h0 => absurd h0 he, fun h0 => absurd h0 he⟩
  · rename_i he
    have he' : x.e = 0 := by simpa using he
    split
    · have hp := F.step c (h.pi he') (hi.b he')
      exact ⟨hp.1, hp.2, fun h0 => by have h0' : M.ste x.b c = 0 := h0; simp only [if_pos h0']; rw [h.rd he']⟩
    · exact ⟨h.tk, fun h0 => absurd (show (3 : Int) = 0 from h0) (by decide), fun h0 => absurd (show (3 : Int) = 0 from h0) (by decide)⟩
theorem fi_feedG : ∀ (l : List UInt8) (x : Ss M) (k : Nat), FI F x k → SInv x k → FI F (feedG x l) (k + l.length)
  | [], _, _, h, _ => h
  | c :: l, x, k, h, hi => by
    have := fi_feedG l (feed1 x c) (k + 1) (fi_feed1 F h hi c) (sinv_feed1 hi c)
    rw [feedG_cons, List.length_cons]
    rwa [show k + (l.length + 1) = k + 1 + l.length from by omega]
theorem fi0 : FI F (ss0 M) 0 := ⟨F.tk F.pi0, fun _ => F.pi0, fun _ => rfl⟩
/-- All of a text. -/
theorem text_facts (F : MachW M) (bs : List UInt8) : (M.l (closeBs (feedG (ss0 M) bs))).length ≤ 4 * bs.length + 8 ∧ (feedG (ss0 M) bs).rd ≤ bs.length ∧ (closeE (feedG (ss0 M) bs) = 0 → (feedG (ss0 M) bs).rd = bs.length)
    ∧ (∀ x ∈ (M.l (closeBs (feedG (ss0 M) bs))), okE x)
    ∧ wholeGo 0 [topP] (M.l (closeBs (feedG (ss0 M) bs))) = ((M.l (closeBs (feedG (ss0 M) bs))).length, if doneB (M.st (closeBs (feedG (ss0 M) bs))) then 0 else 19)
    ∧ (closeE (feedG (ss0 M) bs) = 0 → doneB (M.st (closeBs (feedG (ss0 M) bs))) = true) := by
  have hf := fi_feedG F bs (ss0 M) 0 (fi0 F) sinv0
  have hs := sinv_feedG bs (ss0 M) 0 sinv0
  rw [Nat.zero_add] at hf hs
  generalize feedG (ss0 M) bs = y at *
  have hE : TkM M (closeBs y) ∧ (closeE y = 0 → y.e = 0 ∧ doneB (M.st (closeBs y)) = true) := by
    unfold closeE closeBs endE endBs
    by_cases he : y.e = 0
    · by_cases hz : y.sl = 0
      · simp only [he, hz, ne_eq, not_true_eq_false, if_false, if_true, true_and]
        have := F.fin (hf.pi he) (hs.b he)
        exact ⟨this.1, fun h => this.2 h⟩
      · simp only [he, hz, ne_eq, not_true_eq_false, if_false, true_and]
        exact ⟨hf.tk, fun h => absurd h (by decide)⟩
    · simp only [he, ne_eq, not_false_eq_true, if_true, false_and]
      exact ⟨hf.tk, fun h => h⟩
  have hlen : (M.l (closeBs y)).length ≤ 4 * bs.length + 8 := by
    have h2 := hs.ln
    unfold closeBs endBs
    split
    · omega
    · rename_i he
      have h1 := F.len (hs.b (by simpa using he))
      split <;> omega
  refine ⟨hlen, hs.rd, fun h => hf.rd (hE.2 h).1, hE.1.sz, ?_, fun h => (hE.2 h).2⟩
  rw [whole_of hE.1.ok, ← hE.1.run]
end Go.Proofs.YtalkjgijmceifaaGreatDoor
namespace Go.Proofs.YtalkjgijmceifaaGreatDoor
set_option maxRecDepth 100000
set_option linter.unusedSimpArgs false
set_option linter.unusedVariables false
set_option linter.unusedSectionVars false
variable [Tab] [Fo]

@[reducible] def dlP : MachP where
  σ := Ds
  x0 := ds0
  stp := fun s b => (stepD s b).b
  ste := fun s b => (stepD s b).e
  fin := fun s => (finD s).b
  fne := fun s => (finD s).e
  st := fun s => s.st
  l := fun s => s.l
  Inv := DIn
  inv0 := din0
  inv_step := fun b h he => (do_step h b).2.2 he
  len_step := fun b h => (do_step h b).2.1
  inv_mono := fun h hk => din_mono h hk
  inv_len := fun h => h.ln
def dlW : MachW dlP where
  PI := fun s => TkD s
  tk := fun h => ⟨h.ok, h.run, h.sz⟩
  pi0 := din0.tk
  step := fun b _ hi => by
    have := (do_step hi b).1
    exact ⟨⟨this.ok, this.run, this.sz⟩, fun _ => this⟩
  fin := fun _ hi => by
    have := do_fin hi
    exact ⟨⟨this.1.ok, this.1.run, this.1.sz⟩, this.2.2⟩
  len := fun hi => (do_fin hi).2.1

/-- What delim.Decode tells: the events, the error, how many bytes were read. -/
def dEv (bs : List UInt8) : List Ev := (closeBs (feedG (ss0 dlP) bs)).l
def dEr (bs : List UInt8) : Int := closeE (feedG (ss0 dlP) bs)
def dRd (bs : List UInt8) : Nat := (feedG (ss0 dlP) bs).rd

end Go.Proofs.YtalkjgijmceifaaGreatDoor
namespace Go.Proofs.YtalkjgijmceifaaGreatDoor
open Go.RowKit Go.Maps
set_option maxRecDepth 100000
set_option linter.unusedSimpArgs false
set_option linter.unusedVariables false
set_option linter.unusedSectionVars false
variable [Tab] [Fo]
variable {M : Mach}
def sCells (T : TypeId) (m sc o : Nat) (e : Int) (rd : Nat) (cl en : Bool) : Array Value :=
  #[.iface T (.pointer (some ⟨m, 0, none⟩)), .pointer (some ⟨sc, 0, none⟩), .pointer (some ⟨o, 0, none⟩), .int .i64 e, .int .i64 (rd : Int), .bool cl, .bool en]
structure Pl (base B s m sc o ck : Nat) (w : World) : Prop where
  sB : s < B
  cB : sc < B
  bs : base ≤ s
  bc : base ≤ sc
  hB : B ≤ w.heap.size
  hb : base ≤ w.heap.size
structure StA (w : World) (base B s m sc o ck : Nat) (x : Ss M.toMachP) (cl en : Bool) : Prop where
  blk : Blk w s 51 (sCells M.T m sc o x.e x.rd cl en)
  scan : ScanAt w sc x.sl x.slo x.shi
  d : M.At w base B m o ck x.b
  ns : ¬ Fo.F s ∧ ¬ Fo.F sc
  p : Pl base B s m sc o ck w
/-- A store into the Stream's block. -/
theorem StA.set {w : World} {base B s m sc o ck : Nat} {x : Ss M.toMachP} {cl en : Bool} (h : StA w base B s m sc o ck x cl en) (i : Nat) (u : Value) (x' : Ss M.toMachP) (cl' en' : Bool) (hc : (sCells M.T m sc o x.e x.rd cl en).setIfInBounds i u = sCells M.T m sc o x'.e x'.rd cl' en')
    (hx : x'.b = x.b ∧ x'.sl = x.sl ∧ x'.slo = x.slo ∧ x'.shi = x.shi) : StA (w.setCell ⟨s, i, none⟩ u) base B s m sc o ck x' cl' en' := by
  obtain ⟨h1, h2, h3, h4⟩ := hx
  have ht : Tch base ssObj w (w.setCell ⟨s, i, none⟩ u) := (Tch.refl _ _ _).set h.blk h.p.bs h.ns.1 (show ssObj (.cells _ _ _) from .inl rfl) i u
  have hne : sc ≠ s := fun e => by
    have k1 := h.scan
    have k2 := h.blk
    unfold ScanAt Blk at k1
    unfold Blk at k2
    rw [e, k2] at k1
    injection k1 with k1
    injection k1 with _ k1
    exact absurd k1 (by decide)
  refine ⟨by rw [← hc]; exact h.blk.set_ i u, ?_, ?_, h.ns, ?_⟩
  · rw [h2, h3, h4]; exact Blk.far h.scan (p := ⟨s, i, none⟩) hne u
  · rw [h1]; exact M.ss h.d ht (fun k o hk ho => (Below.heap_setCell w ⟨s, i, none⟩ u k (by have := h.p.sB; show k ≠ s; omega)).trans ho)
  · have hs : (w.setCell ⟨s, i, none⟩ u).heap.size = w.heap.size := by simp [World.setCell]
    exact ⟨h.p.sB, h.p.cB, h.p.bs, h.p.bc, by rw [hs]; exact h.p.hB, by rw [hs]; exact h.p.hb⟩
theorem StA.low {w : World} {base B s m sc o ck : Nat} {x : Ss M.toMachP} {cl en : Bool} (h : StA w base B s m sc o ck x cl en) (i : Nat) (u : Value) : LowF base w (w.setCell ⟨s, i, none⟩ u) := LowF.of_tch (p := ssObj) ((Tch.refl _ _ _).set h.blk h.p.bs h.ns.1 (show ssObj (.cells _ _ _) from .inl rfl) i u) h.p.hb

set_option maxHeartbeats 8000000 in
theorem sstep_any (w : World) (base B s m sc o ck : Nat) (x : Ss M.toMachP) (cl en : Bool) (b : UInt8) (n : Nat) (h : StA w base B s m sc o ck x cl en) (he : x.e = 0) (hi : M.Inv x.b n) (hn : n ≤ 100000) (hr : x.rd ≤ 1000000) (hs0 : 0 ≤ x.sl ∧ x.sl ≤ 3) (hw : SN M.num base w) :
    Calls Tryz.prog 36 #[.pointer (some ⟨s, 0, none⟩), .int .u8 (b.toNat : Int)] w fun e w' => e = .returned (.tuple #[]) ∧ StA w' base B s m sc o ck (feed1 x b) cl en ∧ LowF base w w' := by
  have hb255 : (b.toNat : Int) ≤ 255 := by have := b.toNat_lt; omega
  have hSc := step_any w sc x.sl x.slo x.shi (b.toNat : Int) h.scan hs0.1 hs0.2 (by omega) hb255
  have c0 := h.blk.cell 0
  have c1 := h.blk.cell 1
  have c2 := h.blk.cell 2
  unfold sCells at c0 c1 c2
  have hlt := h.blk.lt
  have HH := Lib.hid h
  unfold Stepped at hSc
  unfold feed1
  rw [if_neg (by simp [he])]
  -- what a step of the Scan leaves
  have hafter : ∀ w1, w.grownBy w1 (some sc) → ∀ l lo hi, ScanAt w1 sc l lo hi → StA w1 base B s m sc o ck { x with sl := l, slo := lo, shi := hi } cl en ∧ LowF base w w1 := fun w1 hg l lo hi hsc => by
    have ht : Tch base ssObj w w1 := Tch.of_grown hg h.p.bc h.ns.2 h.scan (show ssObj (.cells _ _ _) from .inr rfl)
    have hz := hg.size
    refine ⟨⟨h.blk.grown hg ?_, hsc, M.ss h.d ht ?_, h.ns, ⟨h.p.sB, h.p.cB, h.p.bs, h.p.bc, Nat.le_trans h.p.hB hz, Nat.le_trans h.p.hb hz⟩⟩, LowF.of_tch ht h.p.hb⟩
    · intro e
      injection e with e
      have k1 := h.scan
      have k2 := h.blk
      unfold ScanAt Blk at k1
      unfold Blk at k2
      rw [← e, k2] at k1
      injection k1 with k1
      injection k1 with _ k1
      exact absurd k1 (by decide)
    · intro k o hk ho
      refine (hg.block k (Array.getElem?_eq_some_iff.1 ho).1 ?_).trans ho
      intro e
      injection e with e
      have := h.p.cB
      omega
  have HA := Lib.hid hafter
  have HW := Lib.hid hw
  clear hafter h hw
  cases hk : stOk x.sl x.slo x.shi (b.toNat : Int) with
  | false =>
    rw [if_neg (by decide)]
    rw [hk] at hSc
    clear hk
    go_enter Tryz.func36, Tryz.ntmps36
    go_wp2_with fail
    refine hSc.mono ?_
    rintro e w1 ⟨rfl, hg1, hsc1⟩
    rw [if_neg (by decide)] at hsc1
    obtain ⟨hA, hlow⟩ := HA.out w1 hg1 _ _ _ hsc1
    have hA3 := hA.set 3 (.int .i64 3) { x with e := 3 } cl en rfl ⟨rfl, rfl, rfl, rfl⟩
    have HF := Lib.hid (And.intro hA3 (hlow.trans (hA.low 3 (.int .i64 3))))
    have d3 := hA.blk.cell 3
    have f3 := hA.blk.frozen 3
    have hl1 := hA.blk.lt
    unfold sCells at d3
    clear hsc1 hg1 hA hA3 hlow HA HH
    go_wp2
    go_end0
    exact ⟨rfl, HF.out.1, HF.out.2⟩
  | true =>
    rw [if_pos rfl]
    rw [hk] at hSc
    obtain ⟨E, hE⟩ : ∃ E, M.ste x.b b = E := ⟨_, rfl⟩
    obtain ⟨Bb, hBb⟩ : ∃ Bb, M.stp x.b b = Bb := ⟨_, rfl⟩
    rw [hE, hBb]
    have HE := Lib.hid hE
    have HBb := Lib.hid hBb
    clear hE hBb
    clear hk
    go_enter Tryz.func36, Tryz.ntmps36
    go_wp2_with fail
    refine hSc.mono ?_
    rintro e w1 ⟨rfl, hg1, hsc1⟩
    rw [if_pos trivial] at hsc1
    obtain ⟨hA, hlow⟩ := HA.out w1 hg1 _ _ _ hsc1
    have d0 := hA.blk.cell 0
    have d2 := hA.blk.cell 2
    unfold sCells at d0 d2
    have HA1 := Lib.hid hA
    have HL1 := Lib.hid hlow
    clear hsc1 hg1 hA hlow HA HH c0 c1 c2
    go_wp2
    refine region_g [15] (S := (fun W => W.cell? ⟨s, 0, none⟩ = some (.iface M.T (.pointer (some ⟨m, 0, none⟩))) ∧ W.cell? ⟨s, 2, none⟩ = some (.pointer (some ⟨o, 0, none⟩)))) (by kernel_rfl) ⟨d0, d2⟩ (fun hH => ?_)
    refine g_take (i := 0) (v := .pointer (some ⟨s, 0, none⟩)) (by rfl) (by kernel_rfl) (by kernel_rfl) (by kernel_rfl) (by kernel_rfl) (fun _ _ _ h => (by cases h.1)) (Or.inl ⟨by rfl, fun W hS => (by obtain ⟨s0, s2⟩ := hS; go_simp)⟩) hH ?_
    simp only [Act.put, List.setIfInBounds_toArray, List.set_cons_zero, List.set_cons_succ]
    refine g_take (i := 1) (v := .pointer (some ⟨s, 0, none⟩)) (by rfl) (by kernel_rfl) (by kernel_rfl) (by kernel_rfl) (by kernel_rfl) (fun _ _ _ h => (by cases h.1)) (Or.inl ⟨by rfl, fun W hS => (by obtain ⟨s0, s2⟩ := hS; go_simp)⟩) hH ?_
    simp only [Act.put, List.setIfInBounds_toArray, List.set_cons_zero, List.set_cons_succ]
    refine g_take (i := 2) (v := .pointer (some ⟨s, 0, none⟩)) (by rfl) (by kernel_rfl) (by kernel_rfl) (by kernel_rfl) (by kernel_rfl) (fun _ _ _ h => (by cases h.1)) (Or.inl ⟨by rfl, fun W hS => (by obtain ⟨s0, s2⟩ := hS; go_simp)⟩) hH ?_
    simp only [Act.put, List.setIfInBounds_toArray, List.set_cons_zero, List.set_cons_succ]
    refine g_take (i := 3) (v := .pointer (some ⟨s, 0, none⟩)) (by rfl) (by kernel_rfl) (by kernel_rfl) (by kernel_rfl) (by kernel_rfl) (fun _ _ _ h => (by cases h.1)) (Or.inl ⟨by rfl, fun W hS => (by obtain ⟨s0, s2⟩ := hS; go_simp)⟩) hH ?_
    simp only [Act.put, List.setIfInBounds_toArray, List.set_cons_zero, List.set_cons_succ]
    refine g_take (i := 4) (v := .iface M.T (.pointer (some ⟨m, 0, none⟩))) (by rfl) (by kernel_rfl) (by kernel_rfl) (by kernel_rfl) (by kernel_rfl) (fun _ _ _ h => (by cases h.1)) (Or.inl ⟨by rfl, fun W hS => (by obtain ⟨s0, s2⟩ := hS; go_simp)⟩) hH ?_
    simp only [Act.put, List.setIfInBounds_toArray, List.set_cons_zero, List.set_cons_succ]
    refine g_take (i := 5) (v := .int .u8 (b.toNat : Int)) (by rfl) (by kernel_rfl) (by kernel_rfl) (by kernel_rfl) (by kernel_rfl) (fun _ _ _ h => (by cases h.1)) (Or.inl ⟨by rfl, fun W hS => (by obtain ⟨s0, s2⟩ := hS; go_simp)⟩) hH ?_
    simp only [Act.put, List.setIfInBounds_toArray, List.set_cons_zero, List.set_cons_succ]
    refine g_take (i := 6) (v := .pointer (some ⟨s, 0, none⟩)) (by rfl) (by kernel_rfl) (by kernel_rfl) (by kernel_rfl) (by kernel_rfl) (fun _ _ _ h => (by cases h.1)) (Or.inl ⟨by rfl, fun W hS => (by obtain ⟨s0, s2⟩ := hS; go_simp)⟩) hH ?_
    simp only [Act.put, List.setIfInBounds_toArray, List.set_cons_zero, List.set_cons_succ]
    refine g_take (i := 7) (v := .pointer (some ⟨s, 0, none⟩)) (by rfl) (by kernel_rfl) (by kernel_rfl) (by kernel_rfl) (by kernel_rfl) (fun _ _ _ h => (by cases h.1)) (Or.inl ⟨by rfl, fun W hS => (by obtain ⟨s0, s2⟩ := hS; go_simp)⟩) hH ?_
    simp only [Act.put, List.setIfInBounds_toArray, List.set_cons_zero, List.set_cons_succ]
    refine g_take (i := 8) (v := .pointer (some ⟨s, 2, none⟩)) (by rfl) (by kernel_rfl) (by kernel_rfl) (by kernel_rfl) (by kernel_rfl) (fun _ _ _ h => (by cases h.1)) (Or.inl ⟨by rfl, fun W hS => (by obtain ⟨s0, s2⟩ := hS; go_simp)⟩) hH ?_
    simp only [Act.put, List.setIfInBounds_toArray, List.set_cons_zero, List.set_cons_succ]
    refine g_take (i := 9) (v := .pointer (some ⟨o, 0, none⟩)) (by rfl) (by kernel_rfl) (by kernel_rfl) (by kernel_rfl) (by kernel_rfl) (fun _ _ _ h => (by cases h.1)) (Or.inl ⟨by rfl, fun W hS => (by obtain ⟨s0, s2⟩ := hS; go_simp)⟩) hH ?_
    simp only [Act.put, List.setIfInBounds_toArray, List.set_cons_zero, List.set_cons_succ]
    refine g_take (i := 10) (v := .iface M.T (.pointer (some ⟨m, 0, none⟩))) (by rfl) (by kernel_rfl) (by kernel_rfl) (by kernel_rfl) (by kernel_rfl) (fun _ _ _ h => (by cases h.1)) (Or.inl ⟨by rfl, fun W hS => (by obtain ⟨s0, s2⟩ := hS; go_simp)⟩) hH ?_
    simp only [Act.put, List.setIfInBounds_toArray, List.set_cons_zero, List.set_cons_succ]
    refine g_take (i := 11) (v := .iface M.T (.pointer (some ⟨m, 0, none⟩))) (by rfl) (by kernel_rfl) (by kernel_rfl) (by kernel_rfl) (by kernel_rfl) (fun _ _ _ h => (by cases h.1)) (Or.inl ⟨by rfl, fun W hS => (by obtain ⟨s0, s2⟩ := hS; go_simp)⟩) hH ?_
    simp only [Act.put, List.setIfInBounds_toArray, List.set_cons_zero, List.set_cons_succ]
    refine g_one (i := 12) (by kernel_rfl) (by rfl) (fun K hK => ?_)
    have hm := M.hms ⟨m, 0, none⟩ w1.drew
    have he := M.efs
    go_simp
    try rw [hm]
    try simp only [Result.andThen_ok]
    try rw [M.efs]
    try go_simp
    have hdd : M.At w1.drew base B m o ck x.b := M.ss HA1.out.d (Tch.refl base ssObj w1).drew (fun _ _ _ ho => ho)
    have hB1 : B ≤ w1.drew.heap.size := HA1.out.p.hB
    have hb1 : base ≤ w1.drew.heap.size := HA1.out.p.hb
    have hSW : SN M.num base w1.drew := (HW.out.below HL1.out.low).below (below_drew (Below.refl _ _))
    have hcall := M.step_any w1.drew base B m o ck x.b b n hdd hi hn hB1 hSW hb1
    rw [HE.out, HBb.out] at hcall
    refine hcall.mono ?_
    rintro e w2 ⟨rfl, hD2, hF2⟩
    have hBs : Blk w2 s 51 (sCells M.T m sc o x.e x.rd cl en) := hF2.keep s _ HA1.out.blk HA1.out.p.sB (M.nss _ _ _ (.inl rfl))
    have hSc2 : ScanAt w2 sc (stL x.sl (b.toNat : Int)) (stLo x.sl (b.toNat : Int)) (stHi x.sl (b.toNat : Int)) := hF2.keep sc _ HA1.out.scan HA1.out.p.cB (M.nss _ _ _ (.inr rfl))
    have hz2 := hF2.low.size
    have hA2 : StA w2 base B s m sc o ck ⟨Bb, stL x.sl (b.toNat : Int), stLo x.sl (b.toNat : Int), stHi x.sl (b.toNat : Int), x.e, x.rd⟩ cl en := ⟨hBs, hSc2, hD2, HA1.out.ns, ⟨HA1.out.p.sB, HA1.out.p.cB, HA1.out.p.bs, HA1.out.p.bc, Nat.le_trans hB1 hz2, Nat.le_trans hb1 hz2⟩⟩
    have hL2 : LowF base w w2 := (HL1.out.trans (LowF.drew base w1)).trans hF2.lowF
    clear hcall hD2 hF2 hSc2 hz2 hdd hB1 hb1 hSW hm hSc HA1 HL1 HW d0 d2 hH hlt
    have s0 := hBs.cell 0
    have s2 := hBs.cell 2
    have s3 := hBs.cell 3
    have f3 := hBs.frozen 3
    have hl2 := hBs.lt
    unfold sCells at s0 s2 s3
    have HA2 := Lib.hid hA2
    have HL2 := Lib.hid hL2
    clear hA2 hL2 hBs
    refine hK.out _ _ (fun _ => ⟨s0, s2⟩) (fun _ => ?_)
    clear hK K
    refine g_one (i := 13) (by kernel_rfl) (by rfl) (fun K hK => ?_)
    go_simp
    refine hK.out _ _ (fun _ => ⟨s0, s2⟩) (fun _ => ?_)
    clear hK K
    refine g_one (i := 14) (by kernel_rfl) (by rfl) (fun K hK => ?_)
    go_simp
    refine hK.out _ _ (fun _ => ⟨s0, s2⟩) (fun _ => ?_)
    clear hK K
    refine g_one (i := 15) (by kernel_rfl) (by rfl) (fun K hK => ?_)
    go_simp
    refine hK.out _ _ (fun h => absurd (List.mem_singleton.2 rfl) h) (fun _ => ?_)
    clear hK K
    refine g_done (by kernel_rfl) ⟨by first | rfl | trivial, ?_⟩ _
    have hA3 := HA2.out.set 3 (.int .i64 E) ⟨Bb, stL x.sl (b.toNat : Int), stLo x.sl (b.toNat : Int), stHi x.sl (b.toNat : Int), E, x.rd⟩ cl en rfl ⟨rfl, rfl, rfl, rfl⟩
    have hL3 := HL2.out.trans (HA2.out.low 3 (.int .i64 E))
    generalize hW3 : w2.setCell ⟨s, 3, none⟩ (.int .i64 E) = w3 at *
    clear hW3 s0 s2 s3 f3 hl2 HA2 HL2
    have t3 := hA3.blk.cell 3
    have t4 := hA3.blk.cell 4
    have f4 := hA3.blk.frozen 4
    have hl3 := hA3.blk.lt
    unfold sCells at t3 t4
    obtain ⟨r1, hr1⟩ : ∃ r1 : Nat, (x.rd : Int) + 1 = r1 := ⟨x.rd + 1, rfl⟩
    have hr1n : x.rd + 1 = r1 := by omega
    by_cases hz : E = 0
    · subst hz
      have hA4 := hA3.set 4 (.int .i64 (r1 : Int)) ⟨Bb, stL x.sl (b.toNat : Int), stLo x.sl (b.toNat : Int), stHi x.sl (b.toNat : Int), 0, r1⟩ cl en rfl ⟨rfl, rfl, rfl, rfl⟩
      have HF := Lib.hid (And.intro hA4 (hL3.trans (hA3.low 4 (.int .i64 (r1 : Int)))))
      have HN := Lib.hid hr1n
      clear hA3 hL3 hA4 hr1n
      go_wp2
      go_end0
      refine ⟨rfl, ?_, HF.out.2⟩
      have h1 := HF.out.1
      have h2 := HN.out
      clear HN
      subst h2
      first | exact h1 | simpa only [if_true, if_pos] using h1
    · have e1 : (E == 0) = false := by rw [beq_eq_false_iff_ne]; exact hz
      have HF := Lib.hid (And.intro hA3 hL3)
      have HZ := Lib.hid hz
      clear hA3 hL3 hr1 hr1n hz
      go_wp2
      go_end0
      have h1 := HF.out.1
      refine ⟨rfl, ?_, HF.out.2⟩
      first | exact h1 | (rw [if_neg HZ.out]; exact h1)
end Go.Proofs.YtalkjgijmceifaaGreatDoor

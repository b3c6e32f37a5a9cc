/-
  paren: what holds ahead of each byte holds behind it. No program is read here.
  stream: a byte, for any machine.
-/
import Derived.Test.YtmimadkepflmlaaGreatDoorPaZ31
import Derived.Test.YtmimadkepflmlaaGreatDoorPaZ21
import Derived.Test.YtmimadkepflmlaaGreatDoorPaZ11
namespace Go.Proofs.YtmimadkepflmlaaGreatDoor
set_option maxRecDepth 100000
set_option linter.unusedSimpArgs false
set_option linter.unusedVariables false
set_option linter.unusedSectionVars false
variable [Tab] [Fo]

theorem good_ne {st : List Pt} (h : Good st) : st ≠ [] := by obtain ⟨p, r, rfl⟩ := h.ne; simp
section
variable {s : Ps} {n : Nat}
theorem po2_string (h : PIn s n) : PO2 (stringP s) (n + 1) := by
  have := h.mc.opn
  unfold stringP
  cases hu : usesP (topI s.m.op) s.m.du with
  | none => exact po2_err h (show (2 : Int) ≠ 0 by decide) rfl rfl
  | some p =>
    obtain ⟨a, c⟩ := p
    exact po2_turn h rfl rfl ⟨by simp only; omega, h.mc.hd, by simp, h.mc.du, fun _ => hu, fun e => absurd e (by simp), fun e => absurd e (by simp), h.mc.nml, h.mc.atl, Qt.qInv0, h.mc.sag, h.mc.sae⟩ rfl (fun e => e)
theorem po2_char (h : PIn s n) (h4 : s.m.wi = 4) (b : UInt8) : PO2 (charP s b) (n + 1) := by
  have hopn := h.mc.opn
  have hq := Qt.qInv_step (b := (b.toNat : Int)) h.mc.qi
  have hst := h.mc.str h4
  unfold charP
  simp only
  generalize Qt.qStep s.m.q (b.toNat : Int) = r at *
  split
  · exact po2_turn h rfl rfl ⟨by simp only; omega, h.mc.hd, h.mc.wi, h.mc.du, fun _ => hst, fun e => absurd (show s.m.wi = 2 from e) (by omega), fun e => absurd (show s.m.wi = 3 from e) (by omega), h.mc.nml, h.mc.atl, hq, h.mc.sag, h.mc.sae⟩ rfl (fun e => e)
  · have hts : (⟨r.q.xs.toArray⟩ : ByteArray).size ≤ 48 := by
      show r.q.xs.toArray.size ≤ 48
      rw [List.size_toArray]
      exact hq.1
    generalize (⟨r.q.xs.toArray⟩ : ByteArray) = t at *
    unfold endStringP
    simp only
    rcases uses_facts hst with ⟨e1, e2, e3⟩ | ⟨e1, e2, e3⟩ | ⟨e1, e2, e3⟩ | ⟨e1, e2, e3⟩
    · rw [if_pos e1]
      unfold nameAttrP
      split
      · exact po2_err h (show (18 : Int) ≠ 0 by decide) rfl rfl
      · have hsa := h.mc.sae (by omega)
        have hg : Good s.m.sa := by rcases h.mc.sag with h' | h'; exact absurd h' hsa; exact h'
        have hg2 := good_step hg ⟨11, t, ⟨#[]⟩⟩
        refine po2_turn h rfl rfl (h.mc.idle (by simp only; omega) h.mc.hd rfl (by simp only; omega) h.mc.nml hts hq (.inr hg2) (fun _ => good_ne hg2)) ?_ (fun e => by simp only at e; omega)
        simp only
        rw [pd_n (by omega), pd_n (by omega)]
    · rw [if_neg (by omega), if_pos e1]
      exact po2_scalar h _ _ (by simp) h.mc.atl hts (h.mc.idle (by simp only; omega) h.mc.hd rfl (by simp only; omega) h.mc.nml h.mc.atl hq h.mc.sag (fun _ => h.mc.sae (by omega))) rfl (by omega) (by simp only; omega) (fun e => by simp only at e; omega)
    · rw [if_neg (by omega), if_neg (by omega), if_pos e1]
      unfold nameElemP
      split
      · exact po2_err h (show (18 : Int) ≠ 0 by decide) rfl rfl
      · have hg2 := good_step good_start ⟨10, t, ⟨#[]⟩⟩
        have hdep := h.dep
        rw [e2, pd_2] at hdep
        refine po2_tell h _ _ (okE_p (by simp) hts (by simp [ByteArray.size])) (h.mc.idle (by simp only; omega) h.mc.hd rfl (by simp only; omega) h.mc.nml h.mc.atl hq (.inr hg2) (fun _ => good_ne hg2)) (fun hz => ?_) (fun hz e => by simp only at e; omega)
        rw [pS_open hz (by simp)]
        simp only [e3]
        rw [pd_n (by decide)]
        omega
    · rw [if_neg (by omega), if_neg (by omega), if_neg (by omega)]
      split
      · exact po2_err h (show (2 : Int) ≠ 0 by decide) rfl rfl
      · exact po2_scalar h _ _ (by simp only; omega) hts (by simp [ByteArray.size]) (h.mc.idle (by simp only; omega) h.mc.hd rfl (by simp only; omega) h.mc.nml h.mc.atl hq h.mc.sag (fun e => by simp only at e; omega)) rfl e2 (by simp only; omega) (fun e => by simp only at e; omega)
theorem po2_endNum (h : PIn s n) (h3 : s.m.wi = 3) : PO2 (endNumP s) (n + 1) := by
  have := any_du (h.mc.nb h3)
  unfold endNumP
  split
  · rename_i hc
    exact po2_err h hc rfl rfl
  · exact po2_sc h { s with m := { s.m with nm := ⟨#[]⟩, wi := 0 } } rfl rfl rfl rfl (Nat.zero_le _) rfl rfl rfl (by omega) ⟨3, endS s.m.nm, ⟨#[]⟩⟩ (by simp) (Nat.le_trans (endS_size _) (by decide)) (by simp [ByteArray.size])
theorem pend_wi (h : (endNumP s).e = 0) : (endNumP s).b.m.wi = 0 := by
  unfold endNumP at h ⊢
  split
  · rename_i hc
    rw [if_pos hc] at h
    exact absurd h hc
  · rfl
theorem po2_add (h : PIn s n) (ha : anyP s.m = true) (b : UInt8) (wi : Int) (hw : wi = 3) : PO2 (addP { s with m := { s.m with wi := wi } } b) (n + 1) := by
  have := h.mc.opn
  unfold addP
  split
  · exact po2_err h (show (4 : Int) ≠ 0 by decide) rfl rfl
  · rename_i hlt
    refine po2_turn h rfl rfl ⟨by simp only; omega, h.mc.hd, by simp only; omega, h.mc.du, fun e => by simp only at e; omega, fun e => by simp only at e; omega, fun _ => ha, ?_, h.mc.atl, h.mc.qi, h.mc.sag, h.mc.sae⟩ rfl (fun e => e)
    have h2 : (s.m.nm ++ (⟨#[b]⟩ : ByteArray)).size = s.m.nm.size + 1 := ByteArray.size_append
    show (s.m.nm ++ (⟨#[b]⟩ : ByteArray)).size ≤ 30
    simp only at hlt
    omega
theorem po2_marked (h : PIn s n) (h2 : s.m.wi = 2) (b : UInt8) : PO2 (markedP s b) (n + 1) := by
  have hdu : s.m.du ≠ 2 := by
    rcases h.mc.mrk h2 with h' | ⟨_, h'⟩
    · have := any_du h'; omega
    · have := end_du h'; omega
  unfold markedP
  simp only
  repeat' split
  · exact po2_elem h { s with m := { s.m with wi := 0 } } rfl rfl rfl rfl rfl rfl rfl rfl hdu
  · exact po2_err h (show (2 : Int) ≠ 0 by decide) rfl rfl
  · exact po2_inner h { s with m := { s.m with wi := 0 } } rfl rfl rfl rfl rfl rfl rfl rfl hdu 7 (.inr rfl)
  · exact po2_sc h { s with m := { s.m with wi := 0 } } rfl rfl rfl rfl h.mc.nml rfl rfl rfl hdu ⟨1, ⟨#[]⟩, ⟨#[]⟩⟩ (by simp) (by simp [ByteArray.size]) (by simp [ByteArray.size])
  · exact po2_sc h { s with m := { s.m with wi := 0 } } rfl rfl rfl rfl h.mc.nml rfl rfl rfl hdu ⟨2, tBy, ⟨#[]⟩⟩ (by simp) (by decide) (by simp [ByteArray.size])
  · exact po2_sc h { s with m := { s.m with wi := 0 } } rfl rfl rfl rfl h.mc.nml rfl rfl rfl hdu ⟨2, fBy, ⟨#[]⟩⟩ (by simp) (by decide) (by simp [ByteArray.size])
  · exact po2_err h (show (2 : Int) ≠ 0 by decide) rfl rfl
theorem po2_begin (h : PIn s n) (h0 : s.m.wi = 0) (b : UInt8) : PO2 (beginP s b) (n + 1) := by
  have := h.mc.opn
  unfold beginP
  split
  · exact po2_turn h rfl rfl ⟨by simp only; omega, h.mc.hd, by simp, h.mc.du, fun e => absurd e (by simp), fun e => absurd e (by simp), fun e => absurd e (by simp), h.mc.nml, h.mc.atl, h.mc.qi, h.mc.sag, h.mc.sae⟩ rfl (fun e => e)
  · split
    · exact po2_string h
    · split
      · rename_i hc
        exact po2_close h h0 hc.2
      · split
        · rename_i hc
          have hsa := h.mc.sae (.inl hc.2)
          refine po2_turn h rfl rfl (h.mc.idle (by simp only; omega) h.mc.hd h0 (by simp) h.mc.nml h.mc.atl h.mc.qi h.mc.sag (fun _ => hsa)) ?_ (fun e => by simp only at e; omega)
          simp only [hc.2]
          rw [pd_n (by decide), pd_n (by decide)]
        · split
          · rename_i hc
            exact po2_turn h rfl rfl ⟨by simp only; omega, h.mc.hd, by simp, h.mc.du, fun e => absurd e (by simp), fun _ => hc.2, fun e => absurd e (by simp), h.mc.nml, h.mc.atl, h.mc.qi, h.mc.sag, h.mc.sae⟩ rfl (fun e => e)
          · split
            · rename_i hc
              have := any_du hc.2
              exact po2_inner h _ rfl rfl rfl h0 rfl rfl rfl rfl (by omega) 5 (.inl rfl)
            · split
              · rename_i hc
                exact po2_add h hc.2 b 3 rfl
              · exact po2_err h (show (2 : Int) ≠ 0 by decide) rfl rfl
theorem po2_plain (h : PIn s n) (h0 : s.m.wi = 0) (b : UInt8) : PO2 (plainP s b) (n + 1) := by
  unfold plainP
  split
  · exact po2_turn h rfl rfl (h.mc.mono (Nat.le_succ _)) rfl (fun e => e)
  · exact po2_begin h h0 b
theorem po2_step (h : PIn s n) (b : UInt8) : PO2 (stepP s b) (n + 2) := by
  have := h.mc.opn
  have hwi := h.mc.wi
  unfold stepP
  split
  · split
    · exact (po2_turn h rfl rfl (h.mc.idle (by simp only; omega) h.mc.hd rfl h.mc.du h.mc.nml h.mc.atl h.mc.qi h.mc.sag h.mc.sae) rfl (fun e => e) : PO2 ⟨{ s with m := { s.m with wi := 0 } }, 0⟩ (n + 1)).mono (by omega)
    · exact (po2_turn h rfl rfl (h.mc.mono (Nat.le_succ _)) rfl (fun e => e) : PO2 ⟨s, 0⟩ (n + 1)).mono (by omega)
  · split
    · rename_i h2; exact (po2_marked h h2 b).mono (by omega)
    · split
      · rename_i h4; exact (po2_char h h4 b).mono (by omega)
      · split
        · rename_i h3
          split
          · have := po2_add h (h.mc.nb h3) b s.m.wi h3
            exact PO2.mono this (by omega)
          · have hn := po2_endNum h h3
            split
            · exact hn.mono (by omega)
            · rename_i he
              have he : (endNumP s).e = 0 := by simpa using he
              exact po2_plain (hn.2.2 he) (pend_wi he) b
        · exact (po2_plain h (by omega) b).mono (by omega)
theorem po2_fin (h : PIn s n) : TkQ (finP s).b ∧ (finP s).b.l.length ≤ 2 * (n + 1) ∧ ((finP s).e = 0 → doneB (finP s).b.st = true) := by
  have hr : PO2 (if s.m.wi = 3 then endNumP s else ⟨s, 0⟩) (n + 1) := by
    split
    · rename_i h3; exact po2_endNum h h3
    · exact po2_turn h rfl rfl (h.mc.mono (Nat.le_succ _)) rfl (fun e => e)
  unfold finP
  generalize (if s.m.wi = 3 then endNumP s else ⟨s, 0⟩ : Pr) = r at *
  simp only
  split
  · rename_i he
    exact ⟨hr.1, hr.2.1, fun h0 => absurd h0 he⟩
  · rename_i he
    split
    · exact ⟨hr.1, hr.2.1, fun h0 => absurd (show (2 : Int) = 0 from h0) (by decide)⟩
    · rename_i hc
      exact ⟨hr.1, hr.2.1, fun _ => (hr.2.2 (by simpa using he)).d7 (by simpa using hc)⟩
theorem pin0 : PIn ps0 0 := ⟨good_start, by simp [ps0], ⟨by simp [ps0, pm0], ⟨[], rfl, by simp⟩, by simp [ps0, pm0], by simp [ps0, pm0], fun e => absurd e (by simp [ps0, pm0]), fun e => absurd e (by simp [ps0, pm0]), fun e => absurd e (by simp [ps0, pm0]), by simp [ps0, pm0, ByteArray.size], by simp [ps0, pm0, ByteArray.size], Qt.qInv0, .inl rfl, fun e => by simp [ps0, pm0] at e⟩, rfl, fun e => absurd e (by simp [ps0, pm0]), ⟨trivial, rfl, fun x h => by cases h⟩⟩
end
end Go.Proofs.YtmimadkepflmlaaGreatDoor
namespace Go.Proofs.YtmimadkepflmlaaGreatDoor
open Go.RowKit Go.Maps
set_option maxRecDepth 100000
set_option linter.unusedSimpArgs false
set_option linter.unusedVariables false
set_option linter.unusedSectionVars false
variable [Tab] [Fo]
variable (M : Mach)
/-- A text that is read: the machine with its Check and events; the Scan; the error, and how many bytes were read. -/
structure Ss where
  b : M.σ
  sl : Int
  slo : Int
  shi : Int
  e : Int
  rd : Nat
def ss0 : Ss M := ⟨M.x0, 0, 128, 191, 0, 0⟩
variable {M}
def feed1 (x : Ss M) (c : UInt8) : Ss M :=
  if x.e ≠ 0 then x
  else if stOk x.sl x.slo x.shi (c.toNat : Int) = true then
    ⟨M.stp x.b c, stL x.sl (c.toNat : Int), stLo x.sl (c.toNat : Int), stHi x.sl (c.toNat : Int), M.ste x.b c, if M.ste x.b c = 0 then x.rd + 1 else x.rd⟩
  else { x with e := 3 }
def sCells (T : TypeId) (m sc o : Nat) (e : Int) (rd : Nat) (cl en : Bool) : Array Value :=
  #[.iface T (.pointer (some ⟨m, 0, none⟩)), .pointer (some ⟨sc, 0, none⟩), .pointer (some ⟨o, 0, none⟩), .int .i64 e, .int .i64 (rd : Int), .bool cl, .bool en]
structure Pl (base B s m sc o ck : Nat) (w : World) : Prop where
  sB : s < B
  cB : sc < B
  bs : base ≤ s
  bc : base ≤ sc
  hB : B ≤ w.heap.size
  hb : base ≤ w.heap.size
structure StA (w : World) (base B s m sc o ck : Nat) (x : Ss M) (cl en : Bool) : Prop where
  blk : Blk w s 56 (sCells M.T m sc o x.e x.rd cl en)
  scan : ScanAt w sc x.sl x.slo x.shi
  d : M.At w base B m o ck x.b
  ns : ¬ Fo.F s ∧ ¬ Fo.F sc
  p : Pl base B s m sc o ck w
/-- A store into the Stream's block. -/
theorem StA.set {w : World} {base B s m sc o ck : Nat} {x : Ss M} {cl en : Bool} (h : StA w base B s m sc o ck x cl en) (i : Nat) (u : Value) (x' : Ss M) (cl' en' : Bool) (hc : (sCells M.T m sc o x.e x.rd cl en).setIfInBounds i u = sCells M.T m sc o x'.e x'.rd cl' en')
    (hx : x'.b = x.b ∧ x'.sl = x.sl ∧ x'.slo = x.slo ∧ x'.shi = x.shi) : StA (w.setCell ⟨s, i, none⟩ u) base B s m sc o ck x' cl' en' := by
  obtain ⟨h1, h2, h3, h4⟩ := hx
  have ht : Tch base ssObj w (w.setCell ⟨s, i, none⟩ u) := (Tch.refl _ _ _).set h.blk h.p.bs h.ns.1 (show ssObj (.cells _ _ _) from .inl rfl) i u
  have hne : sc ≠ s := fun e => by
    have k1 := h.scan
    have k2 := h.blk
    unfold ScanAt Blk at k1
    unfold Blk at k2
    rw [e, k2] at k1
    injection k1 with k1
    injection k1 with _ k1
    exact absurd k1 (by decide)
  refine ⟨by rw [← hc]; exact h.blk.set_ i u, ?_, ?_, h.ns, ?_⟩
  · rw [h2, h3, h4]; exact Blk.far h.scan (p := ⟨s, i, none⟩) hne u
  · rw [h1]; exact M.ss h.d ht (fun k o hk ho => (Below.heap_setCell w ⟨s, i, none⟩ u k (by have := h.p.sB; show k ≠ s; omega)).trans ho)
  · have hs : (w.setCell ⟨s, i, none⟩ u).heap.size = w.heap.size := by simp [World.setCell]
    exact ⟨h.p.sB, h.p.cB, h.p.bs, h.p.bc, by rw [hs]; exact h.p.hB, by rw [hs]; exact h.p.hb⟩
theorem StA.low {w : World} {base B s m sc o ck : Nat} {x : Ss M} {cl en : Bool} (h : StA w base B s m sc o ck x cl en) (i : Nat) (u : Value) : LowF base w (w.setCell ⟨s, i, none⟩ u) := LowF.of_tch (p := ssObj) ((Tch.refl _ _ _).set h.blk h.p.bs h.ns.1 (show ssObj (.cells _ _ _) from .inl rfl) i u) h.p.hb

set_option maxHeartbeats 8000000 in
theorem sstep_any (w : World) (base B s m sc o ck : Nat) (x : Ss M) (cl en : Bool) (b : UInt8) (n : Nat) (h : StA w base B s m sc o ck x cl en) (he : x.e = 0) (hi : M.Inv x.b n) (hn : n ≤ 100000) (hr : x.rd ≤ 1000000) (hs0 : 0 ≤ x.sl ∧ x.sl ≤ 3) (hw : SW base w) :
    Calls Tryz.prog 27 #[.pointer (some ⟨s, 0, none⟩), .int .u8 (b.toNat : Int)] w fun e w' => e = .returned (.tuple #[]) ∧ StA w' base B s m sc o ck (feed1 x b) cl en ∧ LowF base w w' := by
  have hb255 : (b.toNat : Int) ≤ 255 := by have := b.toNat_lt; omega
  have hSc := step_any w sc x.sl x.slo x.shi (b.toNat : Int) h.scan hs0.1 hs0.2 (by omega) hb255
  have c0 := h.blk.cell 0
  have c1 := h.blk.cell 1
  have c2 := h.blk.cell 2
  unfold sCells at c0 c1 c2
  have hlt := h.blk.lt
  have HH := Lib.hid h
  unfold Stepped at hSc
  unfold feed1
  rw [if_neg (by simp [he])]
  -- what a step of the Scan leaves
  have hafter : ∀ w1, w.grownBy w1 (some sc) → ∀ l lo hi, ScanAt w1 sc l lo hi → StA w1 base B s m sc o ck { x with sl := l, slo := lo, shi := hi } cl en ∧ LowF base w w1 := fun w1 hg l lo hi hsc => by
    have ht : Tch base ssObj w w1 := Tch.of_grown hg h.p.bc h.ns.2 h.scan (show ssObj (.cells _ _ _) from .inr rfl)
    have hz := hg.size
    refine ⟨⟨h.blk.grown hg ?_, hsc, M.ss h.d ht ?_, h.ns, ⟨h.p.sB, h.p.cB, h.p.bs, h.p.bc, Nat.le_trans h.p.hB hz, Nat.le_trans h.p.hb hz⟩⟩, LowF.of_tch ht h.p.hb⟩
    · intro e
      injection e with e
      have k1 := h.scan
      have k2 := h.blk
      unfold ScanAt Blk at k1
      unfold Blk at k2
      rw [← e, k2] at k1
      injection k1 with k1
      injection k1 with _ k1
      exact absurd k1 (by decide)
    · intro k o hk ho
      refine (hg.block k (Array.getElem?_eq_some_iff.1 ho).1 ?_).trans ho
      intro e
      injection e with e
      have := h.p.cB
      omega
  have HA := Lib.hid hafter
  have HW := Lib.hid hw
  clear hafter h hw
  cases hk : stOk x.sl x.slo x.shi (b.toNat : Int) with
  | false =>
    rw [if_neg (by decide)]
    rw [hk] at hSc
    clear hk
    go_enter Tryz.func27, Tryz.ntmps27
    go_wp2_with fail
    refine hSc.mono ?_
    rintro e w1 ⟨rfl, hg1, hsc1⟩
    rw [if_neg (by decide)] at hsc1
    obtain ⟨hA, hlow⟩ := HA.out w1 hg1 _ _ _ hsc1
    have hA3 := hA.set 3 (.int .i64 3) { x with e := 3 } cl en rfl ⟨rfl, rfl, rfl, rfl⟩
    have HF := Lib.hid (And.intro hA3 (hlow.trans (hA.low 3 (.int .i64 3))))
    have d3 := hA.blk.cell 3
    have f3 := hA.blk.frozen 3
    have hl1 := hA.blk.lt
    unfold sCells at d3
    clear hsc1 hg1 hA hA3 hlow HA HH
    go_wp2
    go_end0
    exact ⟨rfl, HF.out.1, HF.out.2⟩
  | true =>
    rw [if_pos rfl]
    rw [hk] at hSc
    obtain ⟨E, hE⟩ : ∃ E, M.ste x.b b = E := ⟨_, rfl⟩
    obtain ⟨Bb, hBb⟩ : ∃ Bb, M.stp x.b b = Bb := ⟨_, rfl⟩
    rw [hE, hBb]
    have HE := Lib.hid hE
    have HBb := Lib.hid hBb
    clear hE hBb
    clear hk
    go_enter Tryz.func27, Tryz.ntmps27
    go_wp2_with fail
    refine hSc.mono ?_
    rintro e w1 ⟨rfl, hg1, hsc1⟩
    rw [if_pos trivial] at hsc1
    obtain ⟨hA, hlow⟩ := HA.out w1 hg1 _ _ _ hsc1
    have d0 := hA.blk.cell 0
    have d2 := hA.blk.cell 2
    unfold sCells at d0 d2
    have HA1 := Lib.hid hA
    have HL1 := Lib.hid hlow
    clear hsc1 hg1 hA hlow HA HH c0 c1 c2
    go_wp2
    refine region_g [15] (S := (fun W => W.cell? ⟨s, 0, none⟩ = some (.iface M.T (.pointer (some ⟨m, 0, none⟩))) ∧ W.cell? ⟨s, 2, none⟩ = some (.pointer (some ⟨o, 0, none⟩)))) (by kernel_rfl) ⟨d0, d2⟩ (fun hH => ?_)
    refine g_take (i := 0) (v := .pointer (some ⟨s, 0, none⟩)) (by rfl) (by kernel_rfl) (by kernel_rfl) (by kernel_rfl) (by kernel_rfl) (fun _ _ _ h => (by cases h.1)) (Or.inl ⟨by rfl, fun W hS => (by obtain ⟨s0, s2⟩ := hS; go_simp)⟩) hH ?_
    simp only [Act.put, List.setIfInBounds_toArray, List.set_cons_zero, List.set_cons_succ]
    refine g_take (i := 1) (v := .pointer (some ⟨s, 0, none⟩)) (by rfl) (by kernel_rfl) (by kernel_rfl) (by kernel_rfl) (by kernel_rfl) (fun _ _ _ h => (by cases h.1)) (Or.inl ⟨by rfl, fun W hS => (by obtain ⟨s0, s2⟩ := hS; go_simp)⟩) hH ?_
    simp only [Act.put, List.setIfInBounds_toArray, List.set_cons_zero, List.set_cons_succ]
    refine g_take (i := 2) (v := .pointer (some ⟨s, 0, none⟩)) (by rfl) (by kernel_rfl) (by kernel_rfl) (by kernel_rfl) (by kernel_rfl) (fun _ _ _ h => (by cases h.1)) (Or.inl ⟨by rfl, fun W hS => (by obtain ⟨s0, s2⟩ := hS; go_simp)⟩) hH ?_
    simp only [Act.put, List.setIfInBounds_toArray, List.set_cons_zero, List.set_cons_succ]
    refine g_take (i := 3) (v := .pointer (some ⟨s, 0, none⟩)) (by rfl) (by kernel_rfl) (by kernel_rfl) (by kernel_rfl) (by kernel_rfl) (fun _ _ _ h => (by cases h.1)) (Or.inl ⟨by rfl, fun W hS => (by obtain ⟨s0, s2⟩ := hS; go_simp)⟩) hH ?_
    simp only [Act.put, List.setIfInBounds_toArray, List.set_cons_zero, List.set_cons_succ]
    refine g_take (i := 4) (v := .iface M.T (.pointer (some ⟨m, 0, none⟩))) (by rfl) (by kernel_rfl) (by kernel_rfl) (by kernel_rfl) (by kernel_rfl) (fun _ _ _ h => (by cases h.1)) (Or.inl ⟨by rfl, fun W hS => (by obtain ⟨s0, s2⟩ := hS; go_simp)⟩) hH ?_
    simp only [Act.put, List.setIfInBounds_toArray, List.set_cons_zero, List.set_cons_succ]
    refine g_take (i := 5) (v := .int .u8 (b.toNat : Int)) (by rfl) (by kernel_rfl) (by kernel_rfl) (by kernel_rfl) (by kernel_rfl) (fun _ _ _ h => (by cases h.1)) (Or.inl ⟨by rfl, fun W hS => (by obtain ⟨s0, s2⟩ := hS; go_simp)⟩) hH ?_
    simp only [Act.put, List.setIfInBounds_toArray, List.set_cons_zero, List.set_cons_succ]
    refine g_take (i := 6) (v := .pointer (some ⟨s, 0, none⟩)) (by rfl) (by kernel_rfl) (by kernel_rfl) (by kernel_rfl) (by kernel_rfl) (fun _ _ _ h => (by cases h.1)) (Or.inl ⟨by rfl, fun W hS => (by obtain ⟨s0, s2⟩ := hS; go_simp)⟩) hH ?_
    simp only [Act.put, List.setIfInBounds_toArray, List.set_cons_zero, List.set_cons_succ]
    refine g_take (i := 7) (v := .pointer (some ⟨s, 0, none⟩)) (by rfl) (by kernel_rfl) (by kernel_rfl) (by kernel_rfl) (by kernel_rfl) (fun _ _ _ h => (by cases h.1)) (Or.inl ⟨by rfl, fun W hS => (by obtain ⟨s0, s2⟩ := hS; go_simp)⟩) hH ?_
    simp only [Act.put, List.setIfInBounds_toArray, List.set_cons_zero, List.set_cons_succ]
    refine g_take (i := 8) (v := .pointer (some ⟨s, 2, none⟩)) (by rfl) (by kernel_rfl) (by kernel_rfl) (by kernel_rfl) (by kernel_rfl) (fun _ _ _ h => (by cases h.1)) (Or.inl ⟨by rfl, fun W hS => (by obtain ⟨s0, s2⟩ := hS; go_simp)⟩) hH ?_
    simp only [Act.put, List.setIfInBounds_toArray, List.set_cons_zero, List.set_cons_succ]
    refine g_take (i := 9) (v := .pointer (some ⟨o, 0, none⟩)) (by rfl) (by kernel_rfl) (by kernel_rfl) (by kernel_rfl) (by kernel_rfl) (fun _ _ _ h => (by cases h.1)) (Or.inl ⟨by rfl, fun W hS => (by obtain ⟨s0, s2⟩ := hS; go_simp)⟩) hH ?_
    simp only [Act.put, List.setIfInBounds_toArray, List.set_cons_zero, List.set_cons_succ]
    refine g_take (i := 10) (v := .iface M.T (.pointer (some ⟨m, 0, none⟩))) (by rfl) (by kernel_rfl) (by kernel_rfl) (by kernel_rfl) (by kernel_rfl) (fun _ _ _ h => (by cases h.1)) (Or.inl ⟨by rfl, fun W hS => (by obtain ⟨s0, s2⟩ := hS; go_simp)⟩) hH ?_
    simp only [Act.put, List.setIfInBounds_toArray, List.set_cons_zero, List.set_cons_succ]
    refine g_take (i := 11) (v := .iface M.T (.pointer (some ⟨m, 0, none⟩))) (by rfl) (by kernel_rfl) (by kernel_rfl) (by kernel_rfl) (by kernel_rfl) (fun _ _ _ h => (by cases h.1)) (Or.inl ⟨by rfl, fun W hS => (by obtain ⟨s0, s2⟩ := hS; go_simp)⟩) hH ?_
    simp only [Act.put, List.setIfInBounds_toArray, List.set_cons_zero, List.set_cons_succ]
    refine g_one (i := 12) (by kernel_rfl) (by rfl) (fun K hK => ?_)
    have hm := M.hms ⟨m, 0, none⟩ w1.drew
    have he := M.efs
    go_simp
    try rw [hm]
    try simp only [Result.andThen_ok]
    try rw [M.efs]
    try go_simp
    have hdd : M.At w1.drew base B m o ck x.b := M.ss HA1.out.d (Tch.refl base ssObj w1).drew (fun _ _ _ ho => ho)
    have hB1 : B ≤ w1.drew.heap.size := HA1.out.p.hB
    have hb1 : base ≤ w1.drew.heap.size := HA1.out.p.hb
    have hSW : SW base w1.drew := (HW.out.below HL1.out.low).below (below_drew (Below.refl _ _))
    have hcall := M.step_any w1.drew base B m o ck x.b b n hdd hi hn hB1 hSW hb1
    rw [HE.out, HBb.out] at hcall
    refine hcall.mono ?_
    rintro e w2 ⟨rfl, hD2, hF2⟩
    have hBs : Blk w2 s 56 (sCells M.T m sc o x.e x.rd cl en) := hF2.keep s _ HA1.out.blk HA1.out.p.sB (M.nss _ _ _ (.inl rfl))
    have hSc2 : ScanAt w2 sc (stL x.sl (b.toNat : Int)) (stLo x.sl (b.toNat : Int)) (stHi x.sl (b.toNat : Int)) := hF2.keep sc _ HA1.out.scan HA1.out.p.cB (M.nss _ _ _ (.inr rfl))
    have hz2 := hF2.low.size
    have hA2 : StA w2 base B s m sc o ck ⟨Bb, stL x.sl (b.toNat : Int), stLo x.sl (b.toNat : Int), stHi x.sl (b.toNat : Int), x.e, x.rd⟩ cl en := ⟨hBs, hSc2, hD2, HA1.out.ns, ⟨HA1.out.p.sB, HA1.out.p.cB, HA1.out.p.bs, HA1.out.p.bc, Nat.le_trans hB1 hz2, Nat.le_trans hb1 hz2⟩⟩
    have hL2 : LowF base w w2 := (HL1.out.trans (LowF.drew base w1)).trans hF2.lowF
    clear hcall hD2 hF2 hSc2 hz2 hdd hB1 hb1 hSW hm hSc HA1 HL1 HW d0 d2 hH hlt
    have s0 := hBs.cell 0
    have s2 := hBs.cell 2
    have s3 := hBs.cell 3
    have f3 := hBs.frozen 3
    have hl2 := hBs.lt
    unfold sCells at s0 s2 s3
    have HA2 := Lib.hid hA2
    have HL2 := Lib.hid hL2
    clear hA2 hL2 hBs
    refine hK.out _ _ (fun _ => ⟨s0, s2⟩) (fun _ => ?_)
    clear hK K
    refine g_one (i := 13) (by kernel_rfl) (by rfl) (fun K hK => ?_)
    go_simp
    refine hK.out _ _ (fun _ => ⟨s0, s2⟩) (fun _ => ?_)
    clear hK K
    refine g_one (i := 14) (by kernel_rfl) (by rfl) (fun K hK => ?_)
    go_simp
    refine hK.out _ _ (fun _ => ⟨s0, s2⟩) (fun _ => ?_)
    clear hK K
    refine g_one (i := 15) (by kernel_rfl) (by rfl) (fun K hK => ?_)
    go_simp
    refine hK.out _ _ (fun h => absurd (List.mem_singleton.2 rfl) h) (fun _ => ?_)
    clear hK K
    refine g_done (by kernel_rfl) ⟨by first | rfl | trivial, ?_⟩ _
    have hA3 := HA2.out.set 3 (.int .i64 E) ⟨Bb, stL x.sl (b.toNat : Int), stLo x.sl (b.toNat : Int), stHi x.sl (b.toNat : Int), E, x.rd⟩ cl en rfl ⟨rfl, rfl, rfl, rfl⟩
    have hL3 := HL2.out.trans (HA2.out.low 3 (.int .i64 E))
    generalize hW3 : w2.setCell ⟨s, 3, none⟩ (.int .i64 E) = w3 at *
    clear hW3 s0 s2 s3 f3 hl2 HA2 HL2
    have t3 := hA3.blk.cell 3
    have t4 := hA3.blk.cell 4
    have f4 := hA3.blk.frozen 4
    have hl3 := hA3.blk.lt
    unfold sCells at t3 t4
    obtain ⟨r1, hr1⟩ : ∃ r1 : Nat, (x.rd : Int) + 1 = r1 := ⟨x.rd + 1, rfl⟩
    have hr1n : x.rd + 1 = r1 := by omega
    by_cases hz : E = 0
    · subst hz
      have hA4 := hA3.set 4 (.int .i64 (r1 : Int)) ⟨Bb, stL x.sl (b.toNat : Int), stLo x.sl (b.toNat : Int), stHi x.sl (b.toNat : Int), 0, r1⟩ cl en rfl ⟨rfl, rfl, rfl, rfl⟩
      have HF := Lib.hid (And.intro hA4 (hL3.trans (hA3.low 4 (.int .i64 (r1 : Int)))))
      have HN := Lib.hid hr1n
      clear hA3 hL3 hA4 hr1n
      go_wp2
      go_end0
      refine ⟨rfl, ?_, HF.out.2⟩
      have h1 := HF.out.1
      have h2 := HN.out
      clear HN
      subst h2
      first | exact h1 | simpa only [if_true, if_pos] using h1
    · have e1 : (E == 0) = false := by rw [beq_eq_false_iff_ne]; exact hz
      have HF := Lib.hid (And.intro hA3 hL3)
      have HZ := Lib.hid hz
      clear hA3 hL3 hr1 hr1n hz
      go_wp2
      go_end0
      have h1 := HF.out.1
      refine ⟨rfl, ?_, HF.out.2⟩
      first | exact h1 | (rw [if_neg HZ.out]; exact h1)
end Go.Proofs.YtmimadkepflmlaaGreatDoor

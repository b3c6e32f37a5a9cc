/-
  stream: New and Decode, for any machine.
  stream: what was told is a run of the events' machine; when the end is OK it is a document: for any machine of which it holds step by step. No program is read here.
  delim: its machine as one that a Stream drives; Decode.
  Put's contract: the bytes of a character, or none.
-/
import Derived.Test.YtpefblbgbneojaaGreatDoorDlZ36
import Derived.Test.YtpefblbgbneojaaGreatDoorDlZ25
import Derived.Test.YtpefblbgbneojaaGreatDoorDlZ33
import Derived.Test.YtpefblbgbneojaaGreatDoorDlZ34
import Derived.Test.YtpefblbgbneojaaGreatDoorDlZ06
import Derived.Test.YtpefblbgbneojaaGreatDoorDlZ07
namespace Go.Proofs.YtpefblbgbneojaaGreatDoor
open Go.RowKit Go.Maps
set_option maxRecDepth 100000
set_option linter.unusedSimpArgs false
set_option linter.unusedVariables false
set_option linter.unusedSectionVars false
variable [Tab] [Fo]
variable (M : Mach)

set_option maxHeartbeats 4000000 in
theorem snew_any (w : World) (base m : Nat) (hM : M.raw w base m) (hb : base ≤ w.heap.size) :
    Calls Tryz.prog 13 #[.iface M.T (.pointer (some ⟨m, 0, none⟩))] w fun e w' => ∃ B s sc o ck, e = .returned (.pointer (some ⟨s, 0, none⟩)) ∧ StA w' base B s m sc o ck (ss0 M) false false ∧ LowF base w w' := by
  go_enter Tryz.func13, Tryz.ntmps13
  go_wp2_with (first
    | (go_at_call 21; refine (new_any _).mono ?_; rintro e w1 ⟨rfl, rfl⟩))
  have hS1 : ScanAt (w.alloc (.cells #[.int .i64 0, .int .u8 128, .int .u8 191] 75)) w.heap.size 0 128 191 := Blk.new w _ _
  have al1 : Below w.heap.size w (w.alloc (.cells #[.int .i64 0, .int .u8 128, .int .u8 191] 75)) := (Below.refl _ _).alloc (Nat.le_refl _) _
  have hfl := M.raw_lim hM
  obtain ⟨W0, hW0⟩ : ∃ W0, w.alloc (.cells #[.int .i64 0, .int .u8 128, .int .u8 191] 75) = W0 := ⟨_, rfl⟩
  have hz1 : w.heap.size ≤ W0.heap.size := by rw [← hW0]; simp
  have hz0 : base ≤ W0.heap.size := Nat.le_trans hb (by rw [← hW0]; simp)
  rw [hW0] at hS1 al1 ⊢
  go_wp2_with (first
    | (go_at_call 10; refine (cnew_any W0 W0.heap.size (Nat.le_refl _) (Nat.le_trans hfl hz1)).mono ?_; rintro e w2 ⟨ck, rfl, hck, hC2, hb2⟩))
  go_ret
  have hz2 : W0.heap.size ≤ w2.heap.size := hb2.size
  have hS2 := hS1.below hb2 hS1.lt
  have hT : Below w2.heap.size w2 ((w2.alloc (.cells #[.pointer (some ⟨ck, 0, none⟩), .slice none 0 0] 45)).alloc (.cells (sCells M.T m w.heap.size w2.heap.size 0 0 false false) 49)) := ((Below.refl _ _).alloc (Nat.le_refl _) _).alloc (by simp) _
  have hO := Blk.new w2 45 #[.pointer (some ⟨ck, 0, none⟩), .slice none 0 0]
  have hO3 := hO.alloc (.cells (sCells M.T m w.heap.size w2.heap.size 0 0 false false) 49)
  have hSB := Blk.new (w2.alloc (.cells #[.pointer (some ⟨ck, 0, none⟩), .slice none 0 0] 45)) 49 (sCells M.T m w.heap.size w2.heap.size 0 0 false false)
  have hsz : (w2.alloc (.cells #[.pointer (some ⟨ck, 0, none⟩), .slice none 0 0] 45)).heap.size = w2.heap.size + 1 := by simp
  rw [hsz] at hSB
  refine ⟨((w2.alloc (.cells #[.pointer (some ⟨ck, 0, none⟩), .slice none 0 0] 45)).alloc (.cells (sCells M.T m w.heap.size w2.heap.size 0 0 false false) 49)).heap.size, w2.heap.size + 1, w.heap.size, w2.heap.size, ck, rfl, ?_, ?_⟩
  · refine ⟨hSB, hS2.below hT hS2.lt, M.start hM hb ((al1.trans (hb2.mono hz1)).trans (hT.mono (Nat.le_trans hz1 hz2))) hz1 (Nat.le_trans hz2 hT.size) ⟨⟨_, hO3, ERow.nil _ _, NF.nil⟩, hC2.below hT, hz2, nf_new (by omega)⟩, ⟨nf_new (by omega), nf_new hfl⟩, ?_⟩
    have := hS1.lt
    exact ⟨hSB.lt, Nat.lt_of_lt_of_le hS2.lt hT.size, by omega, hb, Nat.le_refl _, Nat.le_trans (Nat.le_trans hz0 hz2) hT.size⟩
  · exact ((LowF.of_below al1 hb).trans (LowF.of_below hb2 hz0)).trans (LowF.of_below hT (Nat.le_trans hz0 hz2))

variable {M}
/-- What a decoder returns. -/
def DEnd (lv : Value) (x : Ss M) : Ending := .returned (.tuple #[lv, .int .i64 (closeE x), .int .i64 (x.rd : Int)])

set_option maxHeartbeats 4000000 in
theorem sdecode_any (w : World) (base m : Nat) (v : Value) (bs : List UInt8) (hM : M.raw w base m) (hb : base ≤ w.heap.size) (hn : bs.length ≤ 50000) (hv : ∀ w', Below base w w' → BRead w' v bs) (hw : SN M.num base w) :
    Calls Tryz.prog 8 #[.iface M.T (.pointer (some ⟨m, 0, none⟩)), v] w fun e w' => ∃ lv, e = DEnd lv (feedG (ss0 M) bs) ∧ ERow w' base lv (M.l (closeBs (feedG (ss0 M) bs))) ∧ Below base w w' := by
  have hx := sinv_feedG bs (ss0 M) 0 sinv0
  rw [Nat.zero_add] at hx
  have HX := Lib.hid hx
  have HV := Lib.hid hv
  have HN := Lib.hid hn
  have HWs := Lib.hid hw
  clear hx hv hw hn
  unfold DEnd
  generalize hy : feedG (ss0 M) bs = y at *
  have HY := Lib.hid hy
  clear hy
  obtain ⟨E, hE⟩ : ∃ E, closeE y = E := ⟨_, rfl⟩
  rw [hE]
  have HE := Lib.hid hE
  clear hE
  go_enter Tryz.func8, Tryz.ntmps8
  go_wp2_with (first
    | (go_at_call 13; refine (snew_any M _ base m hM hb).mono ?_; rintro e w1 ⟨B, s, sc, o, ck, rfl, hA1, hb1⟩))
  have HB1 := Lib.hid hb1.low
  have HC := Lib.hid (feed_any w1 base B s m sc o ck (ss0 M) false 0 v bs hA1 sinv0 (by have := HN.out; omega) (fun w' h => HV.out w' (HB1.out.trans h)) (HWs.out.below hb1.low))
  clear hb1 hA1 hM
  go_wp2_with fail
  refine HC.out.mono ?_
  rintro e w2 ⟨rfl, hA2, hb2⟩
  rw [HY.out] at hA2
  have HB2 := Lib.hid (HB1.out.trans hb2.low)
  have hD := sclose_any w2 base B s m sc o ck y false (2 * bs.length) hA2 HX.out.b (by have := HN.out; omega) (HWs.out.below HB2.out)
  rw [HE.out] at hD
  have HD := Lib.hid hD
  clear hD
  clear hb2 hA2 HC
  go_wp2_with fail
  refine HD.out.mono ?_
  rintro e w3 ⟨rfl, hE3, hb3⟩
  have HB3 := Lib.hid (HB2.out.trans hb3.low)
  have b2 := hE3.blk.cell 2
  have b3 := hE3.blk.cell 3
  have b4 := hE3.blk.cell 4
  unfold sCells at b2 b3 b4
  obtain ⟨⟨lv, hO, hR, _⟩, _, _, _⟩ := hE3.out
  have o1 := hO.cell 1
  have HR := Lib.hid hR
  clear hE3 hb3 hO hR HD
  have b4' : w3.cell? ⟨s, 4, none⟩ = some (.int .i64 (y.rd : Int)) := b4
  go_wp2
  go_region
  go_wp2
  go_ret3
  exact ⟨lv, rfl, HR.out.below (below_drew (Below.refl _ _)), HB3.out.trans (below_drew (Below.refl _ _))⟩

end Go.Proofs.YtpefblbgbneojaaGreatDoor
namespace Go.Proofs.YtpefblbgbneojaaGreatDoor
set_option maxRecDepth 100000
set_option linter.unusedSimpArgs false
set_option linter.unusedVariables false
set_option linter.unusedSectionVars false
variable [Tab] [Fo]

/-- What was told is a run. -/
structure TkM (M : Mach) (x : M.σ) : Prop where
  ok : allOk [topP] (M.l x)
  run : M.st x = runS [topP] (M.l x)
  sz : ∀ e ∈ M.l x, okE e
structure MachW (M : Mach) where
  PI : M.σ → Prop
  tk : ∀ {x}, PI x → TkM M x
  pi0 : PI M.x0
  step : ∀ {x n} b, PI x → M.Inv x n → TkM M (M.stp x b) ∧ (M.ste x b = 0 → PI (M.stp x b))
  fin : ∀ {x n}, PI x → M.Inv x n → TkM M (M.fin x) ∧ (M.fne x = 0 → doneB (M.st (M.fin x)) = true)
  len : ∀ {x n}, M.Inv x n → (M.l (M.fin x)).length ≤ 2 * n + 8
variable {M : Mach} (F : MachW M)
structure FI (x : Ss M) (k : Nat) : Prop where
  tk : TkM M x.b
  pi : x.e = 0 → F.PI x.b
  rd : x.e = 0 → x.rd = k
theorem fi_feed1 {x : Ss M} {k : Nat} (h : FI F x k) (hi : SInv x k) (c : UInt8) : FI F (feed1 x c) (k + 1) := by
  unfold feed1
  split
  · rename_i he; exact ⟨h.tk, fun h0 => absurd h0 he, fun h0 => absurd h0 he⟩
  · rename_i he
    have he' : x.e = 0 := by simpa using he
    split
    · have hp := F.step c (h.pi he') (hi.b he')
      exact ⟨hp.1, hp.2, fun h0 => by have h0' : M.ste x.b c = 0 := h0; simp only [if_pos h0']; rw [h.rd he']⟩
    · exact ⟨h.tk, fun h0 => absurd (show (3 : Int) = 0 from h0) (by decide), fun h0 => absurd (show (3 : Int) = 0 from h0) (by decide)⟩
theorem fi_feedG : ∀ (l : List UInt8) (x : Ss M) (k : Nat), FI F x k → SInv x k → FI F (feedG x l) (k + l.length)
  | [], _, _, h, _ => h
  | c :: l, x, k, h, hi => by
    have := fi_feedG l (feed1 x c) (k + 1) (fi_feed1 F h hi c) (sinv_feed1 hi c)
    rw [feedG_cons, List.length_cons]
    rwa [show k + (l.length + 1) = k + 1 + l.length from by omega]
theorem fi0 : FI F (ss0 M) 0 := ⟨F.tk F.pi0, fun _ => F.pi0, fun _ => rfl⟩
/-- All of a text. -/
theorem text_facts (F : MachW M) (bs : List UInt8) : (M.l (closeBs (feedG (ss0 M) bs))).length ≤ 4 * bs.length + 8 ∧ (feedG (ss0 M) bs).rd ≤ bs.length ∧ (closeE (feedG (ss0 M) bs) = 0 → (feedG (ss0 M) bs).rd = bs.length)
    ∧ (∀ x ∈ (M.l (closeBs (feedG (ss0 M) bs))), okE x)
    ∧ wholeGo 0 [topP] (M.l (closeBs (feedG (ss0 M) bs))) = ((M.l (closeBs (feedG (ss0 M) bs))).length, if doneB (M.st (closeBs (feedG (ss0 M) bs))) then 0 else 19)
    ∧ (closeE (feedG (ss0 M) bs) = 0 → doneB (M.st (closeBs (feedG (ss0 M) bs))) = true) := by
  have hf := fi_feedG F bs (ss0 M) 0 (fi0 F) sinv0
  have hs := sinv_feedG bs (ss0 M) 0 sinv0
  rw [Nat.zero_add] at hf hs
  generalize feedG (ss0 M) bs = y at *
  have hE : TkM M (closeBs y) ∧ (closeE y = 0 → y.e = 0 ∧ doneB (M.st (closeBs y)) = true) := by
    unfold closeE closeBs endE endBs
    by_cases he : y.e = 0
    · by_cases hz : y.sl = 0
      · simp only [he, hz, ne_eq, not_true_eq_false, if_false, if_true, true_and]
        have := F.fin (hf.pi he) (hs.b he)
        exact ⟨this.1, fun h => this.2 h⟩
      · simp only [he, hz, ne_eq, not_true_eq_false, if_false, true_and]
        exact ⟨hf.tk, fun h => absurd h (by decide)⟩
    · simp only [he, ne_eq, not_false_eq_true, if_true, false_and]
      exact ⟨hf.tk, fun h => h⟩
  have hlen : (M.l (closeBs y)).length ≤ 4 * bs.length + 8 := by
    have h2 := hs.ln
    unfold closeBs endBs
    split
    · omega
    · rename_i he
      have h1 := F.len (hs.b (by simpa using he))
      split <;> omega
  refine ⟨hlen, hs.rd, fun h => hf.rd (hE.2 h).1, hE.1.sz, ?_, fun h => (hE.2 h).2⟩
  rw [whole_of hE.1.ok, ← hE.1.run]
end Go.Proofs.YtpefblbgbneojaaGreatDoor
namespace Go.Proofs.YtpefblbgbneojaaGreatDoor
open Go.RowKit Go.Maps
set_option maxRecDepth 100000
set_option linter.unusedSimpArgs false
set_option linter.unusedVariables false
set_option linter.unusedSectionVars false
set_option linter.unusedSectionVars false
variable [Tab] [Fo]

theorem row_dn {w : World} {b b' : Nat} {e : TypeId} {size n : Nat} {v : Value} {xs : List Value} (hR : w.ownsRow b' e size v n xs) (hb : b ≤ b') : w.ownsRow b e size v n xs := by
  refine ⟨hR.1, ?_⟩
  rcases hR.2 with hn | ⟨g', cap', cur, hv, hg', hh, q⟩
  · exact .inl hn
  · exact .inr ⟨g', cap', cur, hv, Nat.le_trans hb hg', hh, q⟩
theorem CRep.mono' {w : World} {b b' g rb cap : Nat} {qs : List PQ} (h : CRep w b' g rb cap qs) (hb : b ≤ b') : CRep w b g rb cap qs := by
  refine ⟨Nat.le_trans hb h.hg, h.blk, ⟨h.row.1, ?_⟩, ?_, h.nf⟩
  · rcases h.row.2 with hn | ⟨g', cap', cur, hv, hg', hh, q⟩
    · exact .inl hn
    · exact .inr ⟨g', cap', cur, hv, Nat.le_trans hb hg', hh, q⟩
  · have : ∀ l : List PQ, MapsOk w b' l → MapsOk w b l := by
      intro l
      induction l with
      | nil => intro h; exact h
      | cons q r ih => intro h; exact ⟨fun c hc => ⟨⟨Nat.le_trans hb (h.1 c hc).1.1, (h.1 c hc).1.2⟩, (h.1 c hc).2⟩, h.2.1, ih h.2.2⟩
    exact this qs h.maps
/-- The attributes' Check takes an event. -/
theorem OAt.dn {w : World} {base b o ck : Nat} {st : List Pt} {l : List Ev} (h : OAt w b o ck st l) (hb : base ≤ b) : OAt w base o ck st l := by
  obtain ⟨⟨lv, hB, hR, hf⟩, ⟨rb, cap, qs, hq, hC⟩, hbo, ho⟩ := h
  exact ⟨⟨lv, hB, row_dn hR hb, hf⟩, ⟨rb, cap, qs, hq, hC.mono' hb⟩, Nat.le_trans hb hbo, ho⟩
theorem DIn.pre {s : Ds} {n : Nat} (h : DIn s n) (hn : n ≤ 100000) : DPre s := by
  have := h.mc.n8
  have := h.ln
  exact ⟨fun e => (h.mc.hy e).1, by omega, h.mc.cz, by omega, h.mc.cl, h.tk.good, by omega⟩
theorem DX.ss {w w' : World} {base m o ck : Nat} {s : Ds} (h : DX w base m o ck s) (ht : Tch base ssObj w w') : DX w' base m o ck s := by
  obtain ⟨cv, g, hM⟩ := h.mc
  exact ⟨⟨cv, g, hM.tch ht (fun cs t fr hh hc => by simp only [ssObj] at hc; rcases hh with rfl | rfl | rfl <;> exact absurd hc (by decide))⟩, h.out.of_ss ht⟩
theorem DPo.fr {w w' : World} {base B m o ck : Nat} {r : Dr} {e : Ending} (h : DPo w base m o ck r e w') (hb : base ≤ w.heap.size) : e = .returned (.int .i64 r.e) ∧ DX w' base m o ck r.b ∧ FrG dObj base B w w' :=
  ⟨h.1, h.2.1, FrG.of_tch h.2.2 hb⟩
def dlM : Mach where
  σ := Ds
  T := 33
  fs := 128
  fe := 127
  hms := fun a w => by kernel_rfl
  hme := fun a w => by kernel_rfl
  efs := fun args w => enters_of Tryz.func128 (by kernel_rfl) rfl args w
  efe := fun args w => enters_of Tryz.func127 (by kernel_rfl) rfl args w
  num := False
  x0 := ds0
  stp := fun s b => (stepD s b).b
  ste := fun s b => (stepD s b).e
  fin := fun s => (finD s).b
  fne := fun s => (finD s).e
  st := fun s => s.st
  l := fun s => s.l
  Inv := DIn
  raw := draw
  At := fun w base _ m o ck s => DX w base m o ck s
  obj := dObj
  nss := fun cs t fr h hc => by
    simp only [dObj, tObj, dmObj] at hc
    rcases h with rfl | rfl <;> exact absurd hc (by decide)
  inv0 := din0
  inv_step := fun b h he => (do_step h b).2.2 he
  len_step := fun b h => (do_step h b).2.1
  inv_mono := fun h hk => din_mono h hk
  inv_len := fun h => h.ln
  raw_below := fun h hb => h.below hb
  raw_lim := fun h => by obtain ⟨_, _, h1⟩ := h; exact h1.lim
  start := fun h hb0 hb h1 h2 ho => by
    obtain ⟨cv, g, k1⟩ := h
    exact ⟨⟨cv, g, k1.below hb⟩, ho.dn (Nat.le_trans hb0 h1)⟩
  out := fun h => h.out
  ss := fun h ht _ => h.ss ht
  step_any := fun w base B m o ck s b n h hi hn _ hw hb => (dstep_all w base m o ck s b h (hi.pre hn) hi.mc.av (by have := hi.ln; omega)).mono fun e w' hp => DPo.fr (B := B) hp hb
  end_any := fun w base B m o ck s n h hi hn hw hb => (dend_all w base m o ck s h (hi.pre hn) hi.mc.av (by have := hi.ln; omega)).mono fun e w' hp => by
    obtain ⟨h1, h2, h3⟩ := DPo.fr (B := B) hp hb
    exact ⟨h1, h2.out, h3⟩
def dlW : MachW dlM where
  PI := fun s => TkD s
  tk := fun h => ⟨h.ok, h.run, h.sz⟩
  pi0 := din0.tk
  step := fun b _ hi => by
    have := (do_step hi b).1
    exact ⟨⟨this.ok, this.run, this.sz⟩, fun _ => this⟩
  fin := fun _ hi => by
    have := do_fin hi
    exact ⟨⟨this.1.ok, this.1.run, this.1.sz⟩, this.2.2⟩
  len := fun hi => (do_fin hi).2.1

/-- What delim.Decode tells: the events, the error, how many bytes were read. -/
def dEv (bs : List UInt8) : List Ev := (closeBs (feedG (ss0 dlM) bs)).l
def dEr (bs : List UInt8) : Int := closeE (feedG (ss0 dlM) bs)
def dRd (bs : List UInt8) : Nat := (feedG (ss0 dlM) bs).rd

set_option maxHeartbeats 4000000 in
theorem ddecode_any (w : World) (v : Value) (bs : List UInt8) (hn : bs.length ≤ 50000) (hv : BRead w v bs) (hfl : Fo.lim ≤ w.heap.size) :
    Calls Tryz.prog 5 #[v] w fun e w' => ∃ lv, e = .returned (.tuple #[lv, .int .i64 (dEr bs), .int .i64 (dRd bs : Int)]) ∧ ERow w' w.heap.size lv (dEv bs) ∧ Below w.heap.size w w' := by
  have hC : ∀ w1 m, draw w1 w.heap.size m → Below w.heap.size w w1 → Calls Tryz.prog 8 #[.iface 33 (.pointer (some ⟨m, 0, none⟩)), v] w1 fun e w' => ∃ lv, e = .returned (.tuple #[lv, .int .i64 (dEr bs), .int .i64 (dRd bs : Int)]) ∧ ERow w' w.heap.size lv (dEv bs) ∧ Below w.heap.size w1 w' := fun w1 m hM hb =>
    sdecode_any (M := dlM) w1 w.heap.size m v bs hM hb.size hn (fun w' h => hv.below (hb.trans h)) (fun h => h.elim)
  have hP := dnew_any w hfl
  generalize dEr bs = E at *
  obtain ⟨R, hR⟩ : ∃ R, (dRd bs : Int) = R := ⟨_, rfl⟩
  rw [hR] at hC ⊢
  generalize dEv bs = L at *
  have HC := Lib.hid hC
  clear hC hv hR
  go_enter Tryz.func5, Tryz.ntmps5
  go_wp2_with fail
  refine hP.mono ?_
  rintro e w0 ⟨m, rfl, hM, hb0⟩
  have HD := Lib.hid (HC.out w0 m hM hb0)
  have HB0 := Lib.hid hb0
  clear hM hb0 HC hP
  go_wp2_with fail
  refine HD.out.mono ?_
  rintro e w1 ⟨lv, rfl, hRow, hb1⟩
  have HR := Lib.hid hRow
  have HB := Lib.hid (HB0.out.trans hb1)
  clear hRow hb1 HD HB0
  go_wp2
  go_ret3
  exact ⟨lv, rfl, HR.out, HB.out⟩
end Go.Proofs.YtpefblbgbneojaaGreatDoor
namespace Go.Proofs.YtpefblbgbneojaaGreatDoor
open Go.RowKit
set_option maxRecDepth 100000
theorem bV_b8 (n : Int) (h0 : 0 ≤ n) (h1 : n < 256) : bV (b8 n) = .int .u8 n := (bV_of n h0 h1).symm
theorem put_str {w : World} {base : Nat} {v : Value} (l : List UInt8) (h : ORow w base 5 v (l.map bV)) : (convert 22 9 v).run Tryz.prog w = .ok (.string ⟨l.toArray⟩) w :=
  run_string_of_row _ _ l Tryz.underlying22 Tryz.underlying5 Tryz.underlying9 h

def putS (r : Int) : ByteArray := if mayB r then ⟨(putL r).toArray⟩ else ⟨#[]⟩
end Go.Proofs.YtpefblbgbneojaaGreatDoor

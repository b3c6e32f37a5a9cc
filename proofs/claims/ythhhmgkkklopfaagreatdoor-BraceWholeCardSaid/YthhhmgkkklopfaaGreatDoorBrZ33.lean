/-
  stream: a byte, for the brace syntax.
  stream: the bytes of a text, for the brace syntax.
-/
import Derived.Test.YthhhmgkkklopfaaGreatDoorBrZ32
import Derived.Test.YthhhmgkkklopfaaGreatDoorBrZ06
namespace Go.Proofs.YthhhmgkkklopfaaGreatDoor
open Go.RowKit Go.Maps
set_option maxRecDepth 100000
set_option linter.unusedSimpArgs false
set_option linter.unusedVariables false

/-- A text that is read: the machine with its Check and events; the Scan; the error, and how many bytes were read. -/
structure Ss where
  b : Bs
  sl : Int
  slo : Int
  shi : Int
  e : Int
  rd : Nat
def ss0 : Ss := ⟨⟨mc0, [topP], []⟩, 0, 128, 191, 0, 0⟩
def feed1 (x : Ss) (c : UInt8) : Ss :=
  if x.e ≠ 0 then x
  else if stOk x.sl x.slo x.shi (c.toNat : Int) = true then
    ⟨(stepB x.b c).b, stL x.sl (c.toNat : Int), stLo x.sl (c.toNat : Int), stHi x.sl (c.toNat : Int), (stepB x.b c).e, if (stepB x.b c).e = 0 then x.rd + 1 else x.rd⟩
  else { x with e := 3 }
def sCells (m sc o : Nat) (e : Int) (rd : Nat) (cl en : Bool) : Array Value :=
  #[.iface 33 (.pointer (some ⟨m, 0, none⟩)), .pointer (some ⟨sc, 0, none⟩), .pointer (some ⟨o, 0, none⟩), .int .i64 e, .int .i64 (rd : Int), .bool cl, .bool en]
theorem method_step (a : Addr) (w : World) : (method 300 33 (.pointer (some a)) "Step").run Tryz.prog w = .ok (127, .pointer (some a)) w := by kernel_rfl
theorem method_end (a : Addr) (w : World) : (method 300 33 (.pointer (some a)) "End").run Tryz.prog w = .ok (126, .pointer (some a)) w := by kernel_rfl
structure Pl (base B s m sc o ck : Nat) (w : World) : Prop where
  sB : s < B
  cB : sc < B
  bs : base ≤ s
  bc : base ≤ sc
  hB : B ≤ w.heap.size
  hb : base ≤ w.heap.size
structure StA (w : World) (base B s m sc o ck : Nat) (x : Ss) (cl en : Bool) : Prop where
  blk : Blk w s 52 (sCells m sc o x.e x.rd cl en)
  scan : ScanAt w sc x.sl x.slo x.shi
  d : DAt w base B m o ck x.b
  p : Pl base B s m sc o ck w
theorem DAt.of_ss {w w' : World} {base B m o ck : Nat} {s : Bs} (h : DAt w base B m o ck s) (ht : Tch base ssObj w w') (hq : ∀ g q, B ≤ g → Qt.QAt w g q → Qt.QAt w' g q) : DAt w' base B m o ck s := by
  rcases h with ⟨ha, w0, g, h1, h2, h3, h4, h5, h6⟩ | ⟨ha, qp, h⟩
  · exact .inl ⟨ha, w0, g, h1, h2, h3, h4.trans ht, hq g _ h6 h5, h6⟩
  · exact .inr ⟨ha, qp, h.mc.of_ss ht, h.out.of_ss ht⟩
/-- A store into the Stream's block. -/
theorem StA.set {w : World} {base B s m sc o ck : Nat} {x : Ss} {cl en : Bool} (h : StA w base B s m sc o ck x cl en) (i : Nat) (u : Value) (x' : Ss) (cl' en' : Bool) (hc : (sCells m sc o x.e x.rd cl en).setIfInBounds i u = sCells m sc o x'.e x'.rd cl' en')
    (hx : x'.b = x.b ∧ x'.sl = x.sl ∧ x'.slo = x.slo ∧ x'.shi = x.shi) : StA (w.setCell ⟨s, i, none⟩ u) base B s m sc o ck x' cl' en' := by
  obtain ⟨h1, h2, h3, h4⟩ := hx
  have ht : Tch base ssObj w (w.setCell ⟨s, i, none⟩ u) := (Tch.refl _ _ _).set h.blk h.p.bs (show ssObj (.cells _ _ _) from .inl rfl) i u
  have hne : sc ≠ s := fun e => by
    have k1 := h.scan
    have k2 := h.blk
    unfold ScanAt Blk at k1
    unfold Blk at k2
    rw [e, k2] at k1
    injection k1 with k1
    injection k1 with _ k1
    exact absurd k1 (by decide)
  refine ⟨by rw [← hc]; exact h.blk.set_ i u, ?_, ?_, ?_⟩
  · rw [h2, h3, h4]; exact Blk.far h.scan (p := ⟨s, i, none⟩) hne u
  · rw [h1]; exact h.d.of_ss ht (fun g q hg hq => qat_far hq (by have := h.p.sB; omega) u)
  · have hs : (w.setCell ⟨s, i, none⟩ u).heap.size = w.heap.size := by simp [World.setCell]
    exact ⟨h.p.sB, h.p.cB, h.p.bs, h.p.bc, by rw [hs]; exact h.p.hB, by rw [hs]; exact h.p.hb⟩
theorem StA.low {w : World} {base B s m sc o ck : Nat} {x : Ss} {cl en : Bool} (h : StA w base B s m sc o ck x cl en) (i : Nat) (u : Value) : Below base w (w.setCell ⟨s, i, none⟩ u) := (Below.refl _ _).setCell (p := ⟨s, i, none⟩) h.p.bs u

set_option maxHeartbeats 8000000 in
theorem sstep_any (w : World) (base B s m sc o ck : Nat) (x : Ss) (cl en : Bool) (b : UInt8) (n : Nat) (h : StA w base B s m sc o ck x cl en) (he : x.e = 0) (hi : BInv x.b n) (hn : n ≤ 100000) (hr : x.rd ≤ 1000000) (hs0 : 0 ≤ x.sl ∧ x.sl ≤ 3) (hw : SW base w) :
    Calls Tryz.prog 21 #[.pointer (some ⟨s, 0, none⟩), .int .u8 (b.toNat : Int)] w fun e w' => e = .returned (.tuple #[]) ∧ StA w' base B s m sc o ck (feed1 x b) cl en ∧ Below base w w' := by
  have hb255 : (b.toNat : Int) ≤ 255 := by have := b.toNat_lt; omega
  have hSc := step_any w sc x.sl x.slo x.shi (b.toNat : Int) h.scan hs0.1 hs0.2 (by omega) hb255
  have c0 := h.blk.cell 0
  have c1 := h.blk.cell 1
  have c2 := h.blk.cell 2
  unfold sCells at c0 c1 c2
  have hlt := h.blk.lt
  have HH := Lib.hid h
  unfold Stepped at hSc
  unfold feed1
  rw [if_neg (by simp [he])]
  -- what a step of the Scan leaves
  have hafter : ∀ w1, w.grownBy w1 (some sc) → ∀ l lo hi, ScanAt w1 sc l lo hi → StA w1 base B s m sc o ck { x with sl := l, slo := lo, shi := hi } cl en ∧ Below base w w1 := fun w1 hg l lo hi hsc => by
    have ht : Tch base ssObj w w1 := Tch.of_grown hg h.p.bc h.scan (show ssObj (.cells _ _ _) from .inr rfl)
    have hz := hg.size
    refine ⟨⟨h.blk.grown hg ?_, hsc, h.d.of_ss ht ?_, ⟨h.p.sB, h.p.cB, h.p.bs, h.p.bc, Nat.le_trans h.p.hB hz, Nat.le_trans h.p.hb hz⟩⟩, ht.below h.p.hb⟩
    · intro e
      injection e with e
      have k1 := h.scan
      have k2 := h.blk
      unfold ScanAt Blk at k1
      unfold Blk at k2
      rw [← e, k2] at k1
      injection k1 with k1
      injection k1 with _ k1
      exact absurd k1 (by decide)
    · rintro g q hgB ⟨d, nn, ⟨v, hBq, hRq⟩, hq⟩
      exact ⟨d, nn, ⟨v, hBq.grown hg (fun e => by injection e with e; have := h.p.cB; omega), hRq.kept_far hg (by have := h.p.cB; omega)⟩, hq⟩
  have HA := Lib.hid hafter
  have HW := Lib.hid hw
  clear hafter h hw
  cases hk : stOk x.sl x.slo x.shi (b.toNat : Int) with
  | false =>
    rw [if_neg (by decide)]
    rw [hk] at hSc
    clear hk
    go_enter Tryz.func21, Tryz.ntmps21
    go_wp2_with fail
    refine hSc.mono ?_
    rintro e w1 ⟨rfl, hg1, hsc1⟩
    rw [if_neg (by decide)] at hsc1
    obtain ⟨hA, hlow⟩ := HA.out w1 hg1 _ _ _ hsc1
    have hA3 := hA.set 3 (.int .i64 3) { x with e := 3 } cl en rfl ⟨rfl, rfl, rfl, rfl⟩
    have HF := Lib.hid (And.intro hA3 (hlow.trans (hA.low 3 (.int .i64 3))))
    have d3 := hA.blk.cell 3
    have f3 := hA.blk.frozen 3
    have hl1 := hA.blk.lt
    unfold sCells at d3
    clear hsc1 hg1 hA hA3 hlow HA HH
    go_wp2
    go_end0
    exact ⟨rfl, HF.out.1, HF.out.2⟩
  | true =>
    rw [if_pos rfl]
    rw [hk] at hSc
    obtain ⟨E, hE⟩ : ∃ E, (stepB x.b b).e = E := ⟨_, rfl⟩
    obtain ⟨Bb, hBb⟩ : ∃ Bb, (stepB x.b b).b = Bb := ⟨_, rfl⟩
    rw [hE, hBb]
    have HE := Lib.hid hE
    have HBb := Lib.hid hBb
    clear hE hBb
    clear hk
    go_enter Tryz.func21, Tryz.ntmps21
    go_wp2_with fail
    refine hSc.mono ?_
    rintro e w1 ⟨rfl, hg1, hsc1⟩
    rw [if_pos trivial] at hsc1
    obtain ⟨hA, hlow⟩ := HA.out w1 hg1 _ _ _ hsc1
    have d0 := hA.blk.cell 0
    have d2 := hA.blk.cell 2
    unfold sCells at d0 d2
    have HA1 := Lib.hid hA
    have HL1 := Lib.hid hlow
    clear hsc1 hg1 hA hlow HA HH c0 c1 c2
    go_wp2
    refine region_g [15] (S := (fun W => W.cell? ⟨s, 0, none⟩ = some (.iface 33 (.pointer (some ⟨m, 0, none⟩))) ∧ W.cell? ⟨s, 2, none⟩ = some (.pointer (some ⟨o, 0, none⟩)))) (by kernel_rfl) ⟨d0, d2⟩ (fun hH => ?_)
    refine g_take (i := 0) (v := .pointer (some ⟨s, 0, none⟩)) (by rfl) (by kernel_rfl) (by kernel_rfl) (by kernel_rfl) (by kernel_rfl) (fun _ _ _ h => (by cases h.1)) (Or.inl ⟨by rfl, fun W hS => (by obtain ⟨s0, s2⟩ := hS; go_simp)⟩) hH ?_
    simp only [Act.put, List.setIfInBounds_toArray, List.set_cons_zero, List.set_cons_succ]
    refine g_take (i := 1) (v := .pointer (some ⟨s, 0, none⟩)) (by rfl) (by kernel_rfl) (by kernel_rfl) (by kernel_rfl) (by kernel_rfl) (fun _ _ _ h => (by cases h.1)) (Or.inl ⟨by rfl, fun W hS => (by obtain ⟨s0, s2⟩ := hS; go_simp)⟩) hH ?_
    simp only [Act.put, List.setIfInBounds_toArray, List.set_cons_zero, List.set_cons_succ]
    refine g_take (i := 2) (v := .pointer (some ⟨s, 0, none⟩)) (by rfl) (by kernel_rfl) (by kernel_rfl) (by kernel_rfl) (by kernel_rfl) (fun _ _ _ h => (by cases h.1)) (Or.inl ⟨by rfl, fun W hS => (by obtain ⟨s0, s2⟩ := hS; go_simp)⟩) hH ?_
    simp only [Act.put, List.setIfInBounds_toArray, List.set_cons_zero, List.set_cons_succ]
    refine g_take (i := 3) (v := .pointer (some ⟨s, 0, none⟩)) (by rfl) (by kernel_rfl) (by kernel_rfl) (by kernel_rfl) (by kernel_rfl) (fun _ _ _ h => (by cases h.1)) (Or.inl ⟨by rfl, fun W hS => (by obtain ⟨s0, s2⟩ := hS; go_simp)⟩) hH ?_
    simp only [Act.put, List.setIfInBounds_toArray, List.set_cons_zero, List.set_cons_succ]
    refine g_take (i := 4) (v := .iface 33 (.pointer (some ⟨m, 0, none⟩))) (by rfl) (by kernel_rfl) (by kernel_rfl) (by kernel_rfl) (by kernel_rfl) (fun _ _ _ h => (by cases h.1)) (Or.inl ⟨by rfl, fun W hS => (by obtain ⟨s0, s2⟩ := hS; go_simp)⟩) hH ?_
    simp only [Act.put, List.setIfInBounds_toArray, List.set_cons_zero, List.set_cons_succ]
    refine g_take (i := 5) (v := .int .u8 (b.toNat : Int)) (by rfl) (by kernel_rfl) (by kernel_rfl) (by kernel_rfl) (by kernel_rfl) (fun _ _ _ h => (by cases h.1)) (Or.inl ⟨by rfl, fun W hS => (by obtain ⟨s0, s2⟩ := hS; go_simp)⟩) hH ?_
    simp only [Act.put, List.setIfInBounds_toArray, List.set_cons_zero, List.set_cons_succ]
    refine g_take (i := 6) (v := .pointer (some ⟨s, 0, none⟩)) (by rfl) (by kernel_rfl) (by kernel_rfl) (by kernel_rfl) (by kernel_rfl) (fun _ _ _ h => (by cases h.1)) (Or.inl ⟨by rfl, fun W hS => (by obtain ⟨s0, s2⟩ := hS; go_simp)⟩) hH ?_
    simp only [Act.put, List.setIfInBounds_toArray, List.set_cons_zero, List.set_cons_succ]
    refine g_take (i := 7) (v := .pointer (some ⟨s, 0, none⟩)) (by rfl) (by kernel_rfl) (by kernel_rfl) (by kernel_rfl) (by kernel_rfl) (fun _ _ _ h => (by cases h.1)) (Or.inl ⟨by rfl, fun W hS => (by obtain ⟨s0, s2⟩ := hS; go_simp)⟩) hH ?_
    simp only [Act.put, List.setIfInBounds_toArray, List.set_cons_zero, List.set_cons_succ]
    refine g_take (i := 8) (v := .pointer (some ⟨s, 2, none⟩)) (by rfl) (by kernel_rfl) (by kernel_rfl) (by kernel_rfl) (by kernel_rfl) (fun _ _ _ h => (by cases h.1)) (Or.inl ⟨by rfl, fun W hS => (by obtain ⟨s0, s2⟩ := hS; go_simp)⟩) hH ?_
    simp only [Act.put, List.setIfInBounds_toArray, List.set_cons_zero, List.set_cons_succ]
    refine g_take (i := 9) (v := .pointer (some ⟨o, 0, none⟩)) (by rfl) (by kernel_rfl) (by kernel_rfl) (by kernel_rfl) (by kernel_rfl) (fun _ _ _ h => (by cases h.1)) (Or.inl ⟨by rfl, fun W hS => (by obtain ⟨s0, s2⟩ := hS; go_simp)⟩) hH ?_
    simp only [Act.put, List.setIfInBounds_toArray, List.set_cons_zero, List.set_cons_succ]
    refine g_take (i := 10) (v := .iface 33 (.pointer (some ⟨m, 0, none⟩))) (by rfl) (by kernel_rfl) (by kernel_rfl) (by kernel_rfl) (by kernel_rfl) (fun _ _ _ h => (by cases h.1)) (Or.inl ⟨by rfl, fun W hS => (by obtain ⟨s0, s2⟩ := hS; go_simp)⟩) hH ?_
    simp only [Act.put, List.setIfInBounds_toArray, List.set_cons_zero, List.set_cons_succ]
    refine g_take (i := 11) (v := .iface 33 (.pointer (some ⟨m, 0, none⟩))) (by rfl) (by kernel_rfl) (by kernel_rfl) (by kernel_rfl) (by kernel_rfl) (fun _ _ _ h => (by cases h.1)) (Or.inl ⟨by rfl, fun W hS => (by obtain ⟨s0, s2⟩ := hS; go_simp)⟩) hH ?_
    simp only [Act.put, List.setIfInBounds_toArray, List.set_cons_zero, List.set_cons_succ]
    refine g_one (i := 12) (by kernel_rfl) (by rfl) (fun K hK => ?_)
    have hm := method_step ⟨m, 0, none⟩ w1.drew
    go_simp
    have hdd : DAt w1.drew base B m o ck x.b := HA1.out.d.of_ss (Tch.refl base ssObj w1).drew (fun _ _ _ hq => hq)
    have hB1 : B ≤ w1.drew.heap.size := HA1.out.p.hB
    have hb1 : base ≤ w1.drew.heap.size := HA1.out.p.hb
    have hSW : SW base w1.drew := (HW.out.below HL1.out).below (below_drew (Below.refl _ _))
    have hcall := bstep_any w1.drew base B m o ck x.b b n hdd hi hn hB1 hSW hb1
    unfold SPo at hcall
    rw [HE.out, HBb.out] at hcall
    refine hcall.mono ?_
    rintro e w2 ⟨rfl, hD2, hF2⟩
    have hBs : Blk w2 s 52 (sCells m sc o x.e x.rd cl en) := hF2.keep s _ HA1.out.blk HA1.out.p.sB (by simp only [bObj, tObj, mObj]; decide)
    have hSc2 : ScanAt w2 sc (stL x.sl (b.toNat : Int)) (stLo x.sl (b.toNat : Int)) (stHi x.sl (b.toNat : Int)) := hF2.keep sc _ HA1.out.scan HA1.out.p.cB (by simp only [bObj, tObj, mObj]; decide)
    have hz2 := hF2.low.size
    have hA2 : StA w2 base B s m sc o ck ⟨Bb, stL x.sl (b.toNat : Int), stLo x.sl (b.toNat : Int), stHi x.sl (b.toNat : Int), x.e, x.rd⟩ cl en := ⟨hBs, hSc2, hD2, ⟨HA1.out.p.sB, HA1.out.p.cB, HA1.out.p.bs, HA1.out.p.bc, Nat.le_trans hB1 hz2, Nat.le_trans hb1 hz2⟩⟩
    have hL2 : Below base w w2 := (HL1.out.trans (below_drew (Below.refl _ _))).trans hF2.low
    clear hcall hD2 hF2 hSc2 hz2 hdd hB1 hb1 hSW hm hSc HA1 HL1 HW d0 d2 hH hlt
    have s0 := hBs.cell 0
    have s2 := hBs.cell 2
    have s3 := hBs.cell 3
    have f3 := hBs.frozen 3
    have hl2 := hBs.lt
    unfold sCells at s0 s2 s3
    have HA2 := Lib.hid hA2
    have HL2 := Lib.hid hL2
    clear hA2 hL2 hBs
    refine hK.out _ _ (fun _ => ⟨s0, s2⟩) (fun _ => ?_)
    clear hK K
    refine g_one (i := 13) (by kernel_rfl) (by rfl) (fun K hK => ?_)
    go_simp
    refine hK.out _ _ (fun _ => ⟨s0, s2⟩) (fun _ => ?_)
    clear hK K
    refine g_one (i := 14) (by kernel_rfl) (by rfl) (fun K hK => ?_)
    go_simp
    refine hK.out _ _ (fun _ => ⟨s0, s2⟩) (fun _ => ?_)
    clear hK K
    refine g_one (i := 15) (by kernel_rfl) (by rfl) (fun K hK => ?_)
    go_simp
    refine hK.out _ _ (fun h => absurd (List.mem_singleton.2 rfl) h) (fun _ => ?_)
    clear hK K
    refine g_done (by kernel_rfl) ⟨by first | rfl | trivial, ?_⟩ _
    have hA3 := HA2.out.set 3 (.int .i64 E) ⟨Bb, stL x.sl (b.toNat : Int), stLo x.sl (b.toNat : Int), stHi x.sl (b.toNat : Int), E, x.rd⟩ cl en rfl ⟨rfl, rfl, rfl, rfl⟩
    have hL3 := HL2.out.trans (HA2.out.low 3 (.int .i64 E))
    generalize hW3 : w2.setCell ⟨s, 3, none⟩ (.int .i64 E) = w3 at *
    clear hW3 s0 s2 s3 f3 hl2 HA2 HL2
    have t3 := hA3.blk.cell 3
    have t4 := hA3.blk.cell 4
    have f4 := hA3.blk.frozen 4
    have hl3 := hA3.blk.lt
    unfold sCells at t3 t4
    obtain ⟨r1, hr1⟩ : ∃ r1 : Nat, (x.rd : Int) + 1 = r1 := ⟨x.rd + 1, rfl⟩
    have hr1n : x.rd + 1 = r1 := by omega
    by_cases hz : E = 0
    · subst hz
      have hA4 := hA3.set 4 (.int .i64 (r1 : Int)) ⟨Bb, stL x.sl (b.toNat : Int), stLo x.sl (b.toNat : Int), stHi x.sl (b.toNat : Int), 0, r1⟩ cl en rfl ⟨rfl, rfl, rfl, rfl⟩
      have HF := Lib.hid (And.intro hA4 (hL3.trans (hA3.low 4 (.int .i64 (r1 : Int)))))
      have HN := Lib.hid hr1n
      clear hA3 hL3 hA4 hr1n
      go_wp2
      go_end0
      refine ⟨rfl, ?_, HF.out.2⟩
      have h1 := HF.out.1
      have h2 := HN.out
      clear HN
      subst h2
      first | exact h1 | simpa only [if_true, if_pos] using h1
    · have e1 : (E == 0) = false := by rw [beq_eq_false_iff_ne]; exact hz
      have HF := Lib.hid (And.intro hA3 hL3)
      have HZ := Lib.hid hz
      clear hA3 hL3 hr1 hr1n hz
      go_wp2
      go_end0
      have h1 := HF.out.1
      refine ⟨rfl, ?_, HF.out.2⟩
      first | exact h1 | (rw [if_neg HZ.out]; exact h1)
end Go.Proofs.YthhhmgkkklopfaaGreatDoor
namespace Go.Proofs.YthhhmgkkklopfaaGreatDoor
open Go.RowKit Go.Maps
set_option maxRecDepth 100000
set_option linter.unusedSimpArgs false
set_option linter.unusedVariables false

def feedG (x : Ss) (l : List UInt8) : Ss := l.foldl feed1 x
theorem feedG_cons (x : Ss) (c : UInt8) (l : List UInt8) : feedG x (c :: l) = feedG (feed1 x c) l := rfl
theorem feed1_stop {x : Ss} (h : x.e ≠ 0) (c : UInt8) : feed1 x c = x := by unfold feed1; rw [if_pos h]
theorem feedG_stop {x : Ss} (h : x.e ≠ 0) : ∀ l, feedG x l = x
  | [] => rfl
  | c :: l => by rw [feedG_cons, feed1_stop h]; exact feedG_stop h l
structure SInv (x : Ss) (k : Nat) : Prop where
  b : BInv x.b (2 * k)
  rd : x.rd ≤ k
  sl : 0 ≤ x.sl ∧ x.sl ≤ 3
theorem sinv_feed1 {x : Ss} {k : Nat} (h : SInv x k) (c : UInt8) : SInv (feed1 x c) (k + 1) := by
  unfold feed1
  split
  · exact ⟨binv_mono h.b (by omega), by have := h.rd; omega, h.sl⟩
  · split
    · exact ⟨binv_step h.b c, by have := h.rd; simp only; split <;> omega, stL_range h.sl.1 h.sl.2⟩
    · exact ⟨binv_mono h.b (by omega), by have := h.rd; simp only; omega, h.sl⟩
theorem sinv0 : SInv ss0 0 := ⟨⟨good_start, by simp [ss0], by simp [ss0, mc0], by simp [ss0, mc0], by simp [ss0, mc0], by simp [ss0, mc0, ByteArray.size], by simp [ss0, mc0, ByteArray.size], by simp [ss0, mc0, ByteArray.size], Qt.qInv0, by simp [ss0, mc0]⟩, by simp [ss0], by simp [ss0]⟩
theorem sinv_feedG : ∀ (l : List UInt8) (x : Ss) (k : Nat), SInv x k → SInv (feedG x l) (k + l.length)
  | [], _, _, h => h
  | c :: l, x, k, h => by
    have := sinv_feedG l (feed1 x c) (k + 1) (sinv_feed1 h c)
    rw [feedG_cons, List.length_cons]
    rwa [show k + (l.length + 1) = k + 1 + l.length from by omega]

set_option maxHeartbeats 4000000 in
theorem feed_any (w : World) (base B s m sc o ck : Nat) (x : Ss) (en : Bool) (n : Nat) (v : Value) (bs : List UInt8) (h : StA w base B s m sc o ck x false en) (hi : SInv x n) (hn : n + bs.length ≤ 50000) (hv : ∀ w', Below base w w' → BRead w' v bs) (hw : SW base w) :
    Calls Tryz.prog 13 #[.pointer (some ⟨s, 0, none⟩), v] w fun e w' => e = .returned (.bool true) ∧ StA w' base B s m sc o ck (feedG x bs) false en ∧ Below base w w' := by
  obtain ⟨A, c, rfl, _⟩ := hv w (Below.refl _ _)
  have c5 := h.blk.cell 5
  unfold sCells at c5
  go_enter Tryz.func13, Tryz.ntmps13
  go_wp2
  clear c5
  go_loopw [5] (fun i wr => ∃ (k : Nat) (y : Ss), k ≤ bs.length ∧ i = .int .i64 k ∧ StA wr base B s m sc o ck y false en ∧ Hid (SInv y (n + k)) ∧ Hid (Below base w wr) ∧ Hid (feedG x bs = feedG y (bs.drop k))) (fun i _ => bs.length - (intOf i).toNat)
  case atStart => exact ⟨0, x, Nat.zero_le _, rfl, h, Lib.hid hi, Lib.hid (Below.refl _ _), Lib.hid rfl⟩
  case round =>
    obtain ⟨k, y, hk, rfl, hA, HI, HB, HW⟩ := hrel
    have c3 := hA.blk.cell 3
    unfold sCells at c3
    have HA := Lib.hid hA
    by_cases hlt : k < bs.length
    · by_cases he : y.e = 0
      · rw [he] at c3
        have hd := HW.out
        rw [List.drop_eq_getElem_cons hlt, feedG_cons] at hd
        have HD := Lib.hid hd
        obtain ⟨ad, rfl, hcell⟩ : ∃ ad : Addr, A = some ad ∧ ∀ j (h : j < bs.length), wr.cell? (ad.add j) = some (.int .u8 (bs[j].toNat : Int)) := by
          obtain ⟨A', c', hvv, hr⟩ := hv wr HB.out
          injection hvv with e1 _ _
          obtain ⟨ad, e2, hcell⟩ := hr (by omega)
          exact ⟨ad, e1.trans e2, hcell⟩
        have hck := hcell k hlt
        have HC := Lib.hid (sstep_any wr base B s m sc o ck y false en bs[k] (2 * (n + k)) hA he HI.out.b (by omega) (by have := HI.out.rd; omega) HI.out.sl (hw.below HB.out))
        have HI2 := Lib.hid (sinv_feed1 HI.out bs[k])
        clear hA hd hcell he
        go_wp2_with fail
        refine HC.out.mono ?_
        rintro e w3 ⟨rfl, hA3, hB3⟩
        go_wp2
        go_roundw
        case rel => exact ⟨k + 1, _, hlt, by go_num, hA3, HI2, Lib.hid (HB.out.trans hB3), HD⟩
        case measure => first | (simp [intOf]; done) | (simp [intOf]; omega)
      · have e0 : (y.e == 0) = false := by rw [beq_eq_false_iff_ne]; exact he
        have HD := Lib.hid (HW.out.trans (feedG_stop he _))
        clear hA he
        go_wp2
        go_ret
        exact ⟨rfl, by rw [HD.out]; exact HA.out, HB.out⟩
    · have hke : k = bs.length := by omega
      have hd := HW.out
      rw [List.drop_of_length_le (by omega)] at hd
      have HD := Lib.hid hd
      subst hke
      clear hA hd
      go_wp2
      go_ret
      exact ⟨rfl, by rw [HD.out]; exact HA.out, HB.out⟩
end Go.Proofs.YthhhmgkkklopfaaGreatDoor

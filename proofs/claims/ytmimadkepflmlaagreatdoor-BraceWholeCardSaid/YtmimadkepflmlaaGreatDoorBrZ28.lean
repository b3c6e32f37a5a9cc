/-
  stream: the end of a text, for any machine.
  stream: New and Decode, for any machine.
  What an open number tells, and blanks: plain functions. No program is read here.
  The brace syntax as a plain function on bytes: the machine, its step, its end. No program is read here.
-/
import Derived.Test.YtmimadkepflmlaaGreatDoorBrZ27
import Derived.Test.YtmimadkepflmlaaGreatDoorBrZ13
import Derived.Test.YtmimadkepflmlaaGreatDoorBrZ20
import Derived.Test.YtmimadkepflmlaaGreatDoorBrZ24
namespace Go.Proofs.YtmimadkepflmlaaGreatDoor
open Go.RowKit Go.Maps
set_option maxRecDepth 100000
set_option linter.unusedSimpArgs false
set_option linter.unusedVariables false
set_option linter.unusedSectionVars false
variable [Tab] [Fo]
variable {M : Mach}

def endE (x : Ss M) : Int := if x.sl = 0 then M.fne x.b else 3
def endBs (x : Ss M) : M.σ := if x.sl = 0 then M.fin x.b else x.b
structure EAt (T : TypeId) (w : World) (base s m sc o ck : Nat) (e : Int) (rd : Nat) (cl en : Bool) (st : List Pt) (l : List Ev) : Prop where
  blk : Blk w s 56 (sCells T m sc o e rd cl en)
  out : OAt w base o ck st l
  bs : base ≤ s
  ns : ¬ Fo.F s

set_option maxHeartbeats 4000000 in
theorem send_any (w : World) (base B s m sc o ck : Nat) (x : Ss M) (cl en : Bool) (n : Nat) (h : StA w base B s m sc o ck x cl en) (hi : M.Inv x.b n) (hn : n ≤ 100000) (hw : SW base w) :
    Calls Tryz.prog 28 #[.pointer (some ⟨s, 0, none⟩)] w fun e w' => e = .returned (.int .i64 (endE x)) ∧ EAt M.T w' base s m sc o ck x.e x.rd cl en (M.st (endBs x)) (M.l (endBs x)) ∧ LowF base w w' := by
  have c0 := h.blk.cell 0
  have c1 := h.blk.cell 1
  have c2 := h.blk.cell 2
  unfold sCells at c0 c1 c2
  have hlt := h.blk.lt
  have hWh := whole_any w sc x.sl x.slo x.shi h.scan
  unfold endE endBs
  by_cases hz : x.sl = 0
  · rw [if_pos hz, if_pos hz]
    rw [hz] at hWh
    have HE := Lib.hid (M.end_any w.drew base B m o ck x.b n (M.ss h.d (Tch.refl base ssObj w).drew (fun _ _ _ ho => ho)) hi hn (hw.below (below_drew (Below.refl _ _))) h.p.hb)
    have HA := Lib.hid h
    clear hz h
    go_enter Tryz.func28, Tryz.ntmps28
    go_wp2_with fail
    refine hWh.mono ?_
    rintro e w' ⟨rfl, rfl⟩
    go_wp2
    refine region_g [11] (S := (fun W => W.cell? ⟨s, 0, none⟩ = some (.iface M.T (.pointer (some ⟨m, 0, none⟩))) ∧ W.cell? ⟨s, 2, none⟩ = some (.pointer (some ⟨o, 0, none⟩)))) (by kernel_rfl) ⟨c0, c2⟩ (fun hH => ?_)
    refine g_take (i := 0) (v := .pointer (some ⟨s, 0, none⟩)) (by rfl) (by kernel_rfl) (by kernel_rfl) (by kernel_rfl) (by kernel_rfl) (fun _ _ _ h => (by cases h.1)) (Or.inl ⟨by rfl, fun W hS => (by obtain ⟨s0, s2⟩ := hS; go_simp)⟩) hH ?_
    simp only [Act.put, List.setIfInBounds_toArray, List.set_cons_zero, List.set_cons_succ]
    refine g_take (i := 1) (v := .pointer (some ⟨s, 0, none⟩)) (by rfl) (by kernel_rfl) (by kernel_rfl) (by kernel_rfl) (by kernel_rfl) (fun _ _ _ h => (by cases h.1)) (Or.inl ⟨by rfl, fun W hS => (by obtain ⟨s0, s2⟩ := hS; go_simp)⟩) hH ?_
    simp only [Act.put, List.setIfInBounds_toArray, List.set_cons_zero, List.set_cons_succ]
    refine g_take (i := 2) (v := .pointer (some ⟨s, 0, none⟩)) (by rfl) (by kernel_rfl) (by kernel_rfl) (by kernel_rfl) (by kernel_rfl) (fun _ _ _ h => (by cases h.1)) (Or.inl ⟨by rfl, fun W hS => (by obtain ⟨s0, s2⟩ := hS; go_simp)⟩) hH ?_
    simp only [Act.put, List.setIfInBounds_toArray, List.set_cons_zero, List.set_cons_succ]
    refine g_take (i := 3) (v := .iface M.T (.pointer (some ⟨m, 0, none⟩))) (by rfl) (by kernel_rfl) (by kernel_rfl) (by kernel_rfl) (by kernel_rfl) (fun _ _ _ h => (by cases h.1)) (Or.inl ⟨by rfl, fun W hS => (by obtain ⟨s0, s2⟩ := hS; go_simp)⟩) hH ?_
    simp only [Act.put, List.setIfInBounds_toArray, List.set_cons_zero, List.set_cons_succ]
    refine g_take (i := 4) (v := .pointer (some ⟨s, 0, none⟩)) (by rfl) (by kernel_rfl) (by kernel_rfl) (by kernel_rfl) (by kernel_rfl) (fun _ _ _ h => (by cases h.1)) (Or.inl ⟨by rfl, fun W hS => (by obtain ⟨s0, s2⟩ := hS; go_simp)⟩) hH ?_
    simp only [Act.put, List.setIfInBounds_toArray, List.set_cons_zero, List.set_cons_succ]
    refine g_take (i := 5) (v := .pointer (some ⟨s, 0, none⟩)) (by rfl) (by kernel_rfl) (by kernel_rfl) (by kernel_rfl) (by kernel_rfl) (fun _ _ _ h => (by cases h.1)) (Or.inl ⟨by rfl, fun W hS => (by obtain ⟨s0, s2⟩ := hS; go_simp)⟩) hH ?_
    simp only [Act.put, List.setIfInBounds_toArray, List.set_cons_zero, List.set_cons_succ]
    refine g_take (i := 6) (v := .pointer (some ⟨s, 2, none⟩)) (by rfl) (by kernel_rfl) (by kernel_rfl) (by kernel_rfl) (by kernel_rfl) (fun _ _ _ h => (by cases h.1)) (Or.inl ⟨by rfl, fun W hS => (by obtain ⟨s0, s2⟩ := hS; go_simp)⟩) hH ?_
    simp only [Act.put, List.setIfInBounds_toArray, List.set_cons_zero, List.set_cons_succ]
    refine g_take (i := 7) (v := .pointer (some ⟨o, 0, none⟩)) (by rfl) (by kernel_rfl) (by kernel_rfl) (by kernel_rfl) (by kernel_rfl) (fun _ _ _ h => (by cases h.1)) (Or.inl ⟨by rfl, fun W hS => (by obtain ⟨s0, s2⟩ := hS; go_simp)⟩) hH ?_
    simp only [Act.put, List.setIfInBounds_toArray, List.set_cons_zero, List.set_cons_succ]
    refine g_take (i := 8) (v := .iface M.T (.pointer (some ⟨m, 0, none⟩))) (by rfl) (by kernel_rfl) (by kernel_rfl) (by kernel_rfl) (by kernel_rfl) (fun _ _ _ h => (by cases h.1)) (Or.inl ⟨by rfl, fun W hS => (by obtain ⟨s0, s2⟩ := hS; go_simp)⟩) hH ?_
    simp only [Act.put, List.setIfInBounds_toArray, List.set_cons_zero, List.set_cons_succ]
    refine g_take (i := 9) (v := .iface M.T (.pointer (some ⟨m, 0, none⟩))) (by rfl) (by kernel_rfl) (by kernel_rfl) (by kernel_rfl) (by kernel_rfl) (fun _ _ _ h => (by cases h.1)) (Or.inl ⟨by rfl, fun W hS => (by obtain ⟨s0, s2⟩ := hS; go_simp)⟩) hH ?_
    simp only [Act.put, List.setIfInBounds_toArray, List.set_cons_zero, List.set_cons_succ]
    refine g_one (i := 10) (by kernel_rfl) (by rfl) (fun K hK => ?_)
    have hm := M.hme ⟨m, 0, none⟩ w.drew
    have he := M.efe
    go_simp
    try rw [hm]
    try simp only [Result.andThen_ok]
    try rw [M.efe]
    try go_simp
    refine HE.out.mono ?_
    rintro e w2 ⟨rfl, hO2, hF2⟩
    have hBs : Blk w2 s 56 (sCells M.T m sc o x.e x.rd cl en) := hF2.keep s _ HA.out.blk HA.out.p.sB (M.nss _ _ _ (.inl rfl))
    have s0 := hBs.cell 0
    have s2 := hBs.cell 2
    unfold sCells at s0 s2
    refine hK.out _ _ (fun _ => ⟨s0, s2⟩) (fun _ => ?_)
    clear hK K
    have HF := Lib.hid (And.intro (EAt.mk hBs hO2 HA.out.p.bs HA.out.ns.1) ((LowF.drew base w).trans hF2.lowF))
    clear hm HA HE hBs hO2 hF2
    refine g_one (i := 11) (by kernel_rfl) (by rfl) (fun K hK => ?_)
    go_simp
    refine hK.out _ _ (fun h => absurd (List.mem_singleton.2 rfl) h) (fun _ => ?_)
    clear hK K
    refine g_done (by kernel_rfl) ⟨by first | rfl | trivial, ?_⟩ _
    go_wp2
    go_ret
    exact ⟨rfl, HF.out.1, HF.out.2⟩
  · rw [if_neg hz, if_neg hz]
    have e1 : decide (x.sl = 0) = false := by simpa using hz
    rw [e1] at hWh
    have HF := Lib.hid (And.intro (EAt.mk h.blk (M.out h.d) h.p.bs h.ns.1) (LowF.refl base w))
    clear hz h e1
    go_enter Tryz.func28, Tryz.ntmps28
    go_wp2_with fail
    refine hWh.mono ?_
    rintro e w' ⟨rfl, rfl⟩
    go_wp2
    go_ret
    exact ⟨rfl, HF.out.1, HF.out.2⟩

def closeE (x : Ss M) : Int := if x.e ≠ 0 then x.e else endE x
def closeBs (x : Ss M) : M.σ := if x.e ≠ 0 then x.b else endBs x
theorem EAt.set {T : TypeId} {w : World} {base s m sc o ck : Nat} {e : Int} {rd : Nat} {cl en : Bool} {st : List Pt} {l : List Ev} (h : EAt T w base s m sc o ck e rd cl en st l) (i : Nat) (u : Value) (e' : Int) (rd' : Nat) (cl' en' : Bool) (hc : (sCells T m sc o e rd cl en).setIfInBounds i u = sCells T m sc o e' rd' cl' en') :
    EAt T (w.setCell ⟨s, i, none⟩ u) base s m sc o ck e' rd' cl' en' st l ∧ LowF base w (w.setCell ⟨s, i, none⟩ u) := by
  have ht : Tch base ssObj w (w.setCell ⟨s, i, none⟩ u) := (Tch.refl _ _ _).set h.blk h.bs h.ns (show ssObj (.cells _ _ _) from .inl rfl) i u
  exact ⟨⟨by rw [← hc]; exact h.blk.set_ i u, h.out.of_ss ht, h.bs, h.ns⟩, LowF.of_tch ht (Nat.le_trans h.bs (Nat.le_of_lt h.blk.lt))⟩

set_option maxHeartbeats 4000000 in
theorem sclose_any (w : World) (base B s m sc o ck : Nat) (x : Ss M) (en : Bool) (n : Nat) (h : StA w base B s m sc o ck x false en) (hi : M.Inv x.b n) (hn : n ≤ 100000) (hw : SW base w) :
    Calls Tryz.prog 19 #[.pointer (some ⟨s, 0, none⟩)] w fun e w' => e = .returned (.tuple #[]) ∧ EAt M.T w' base s m sc o ck (closeE x) x.rd true en (M.st (closeBs x)) (M.l (closeBs x)) ∧ LowF base w w' := by
  have c5 := h.blk.cell 5
  have c3 := h.blk.cell 3
  unfold sCells at c5 c3
  have f5 := h.blk.frozen 5
  have hlt := h.blk.lt
  unfold closeE closeBs
  by_cases he : x.e = 0
  · rw [if_neg (by simp [he]), if_neg (by simp [he])]
    rw [he] at c3
    have hC := send_any w base B s m sc o ck x false en n h hi hn hw
    obtain ⟨E, hE⟩ : ∃ E, endE x = E := ⟨_, rfl⟩
    rw [hE] at hC ⊢
    rw [he] at hC
    have HC := Lib.hid hC
    clear h he hE hC
    go_enter Tryz.func19, Tryz.ntmps19
    go_wp2_with fail
    refine HC.out.mono ?_
    rintro e w1 ⟨rfl, hE1, hB1⟩
    have g3 := hE1.blk.cell 3
    have gf3 := hE1.blk.frozen 3
    have gl := hE1.blk.lt
    unfold sCells at g3
    obtain ⟨hE2, hB2⟩ := hE1.set 3 (.int .i64 E) E x.rd false en rfl
    obtain ⟨hE3, hB3⟩ := hE2.set 5 (.bool true) E x.rd true en rfl
    have k5 := hE2.blk.cell 5
    have kf5 := hE2.blk.frozen 5
    have kl := hE2.blk.lt
    unfold sCells at k5
    have HF := Lib.hid (And.intro hE3 ((hB1.trans hB2).trans hB3))
    clear HC hE1 hB1 hE2 hB2 hE3 hB3 c5 c3 f5 hlt
    go_wp2
    go_end0
    exact ⟨rfl, HF.out.1, HF.out.2⟩
  · rw [if_pos he, if_pos he]
    have e0 : (x.e == 0) = false := by rw [beq_eq_false_iff_ne]; exact he
    have hE1 : EAt M.T w base s m sc o ck x.e x.rd false en (M.st x.b) (M.l x.b) := EAt.mk h.blk (M.out h.d) h.p.bs h.ns.1
    obtain ⟨hE3, hB3⟩ := hE1.set 5 (.bool true) x.e x.rd true en rfl
    have HF := Lib.hid (And.intro hE3 hB3)
    clear h he hE1 hE3 hB3
    go_enter Tryz.func19, Tryz.ntmps19
    go_wp2
    go_end0
    exact ⟨rfl, HF.out.1, HF.out.2⟩
end Go.Proofs.YtmimadkepflmlaaGreatDoor
namespace Go.Proofs.YtmimadkepflmlaaGreatDoor
open Go.RowKit Go.Maps
set_option maxRecDepth 100000
set_option linter.unusedSimpArgs false
set_option linter.unusedVariables false
set_option linter.unusedSectionVars false
variable [Tab] [Fo]
variable (M : Mach)

set_option maxHeartbeats 4000000 in
theorem snew_any (w : World) (base m : Nat) (hM : M.raw w base m) (hb : base ≤ w.heap.size) :
    Calls Tryz.prog 17 #[.iface M.T (.pointer (some ⟨m, 0, none⟩))] w fun e w' => ∃ B s sc o ck, e = .returned (.pointer (some ⟨s, 0, none⟩)) ∧ StA w' base B s m sc o ck (ss0 M) false false ∧ LowF base w w' := by
  go_enter Tryz.func17, Tryz.ntmps17
  go_wp2_with (first
    | (go_at_call 26; refine (new_any _).mono ?_; rintro e w1 ⟨rfl, rfl⟩))
  have hS1 : ScanAt (w.alloc (.cells #[.int .i64 0, .int .u8 128, .int .u8 191] 88)) w.heap.size 0 128 191 := Blk.new w _ _
  have al1 : Below w.heap.size w (w.alloc (.cells #[.int .i64 0, .int .u8 128, .int .u8 191] 88)) := (Below.refl _ _).alloc (Nat.le_refl _) _
  have hM1 := M.raw_below hM al1
  have hfl := M.raw_lim hM
  obtain ⟨W0, hW0⟩ : ∃ W0, w.alloc (.cells #[.int .i64 0, .int .u8 128, .int .u8 191] 88) = W0 := ⟨_, rfl⟩
  have hz1 : w.heap.size ≤ W0.heap.size := by rw [← hW0]; simp
  have hz0 : base ≤ W0.heap.size := Nat.le_trans hb (by rw [← hW0]; simp)
  rw [hW0] at hS1 al1 hM1 ⊢
  go_wp2_with (first
    | (go_at_call 13; refine (cnew_any W0 base hz0 (Nat.le_trans hfl hz1)).mono ?_; rintro e w2 ⟨ck, rfl, hck, hC2, hb2⟩))
  go_ret
  have hz2 : W0.heap.size ≤ w2.heap.size := hb2.size
  have hS2 := hS1.below hb2 hS1.lt
  have hM2 := M.raw_below hM1 hb2
  have hT : Below w2.heap.size w2 ((w2.alloc (.cells #[.pointer (some ⟨ck, 0, none⟩), .slice none 0 0] 52)).alloc (.cells (sCells M.T m w.heap.size w2.heap.size 0 0 false false) 56)) := ((Below.refl _ _).alloc (Nat.le_refl _) _).alloc (by simp) _
  have hO := Blk.new w2 52 #[.pointer (some ⟨ck, 0, none⟩), .slice none 0 0]
  have hO3 := hO.alloc (.cells (sCells M.T m w.heap.size w2.heap.size 0 0 false false) 56)
  have hSB := Blk.new (w2.alloc (.cells #[.pointer (some ⟨ck, 0, none⟩), .slice none 0 0] 52)) 56 (sCells M.T m w.heap.size w2.heap.size 0 0 false false)
  have hsz : (w2.alloc (.cells #[.pointer (some ⟨ck, 0, none⟩), .slice none 0 0] 52)).heap.size = w2.heap.size + 1 := by simp
  rw [hsz] at hSB
  refine ⟨((w2.alloc (.cells #[.pointer (some ⟨ck, 0, none⟩), .slice none 0 0] 52)).alloc (.cells (sCells M.T m w.heap.size w2.heap.size 0 0 false false) 56)).heap.size, w2.heap.size + 1, w.heap.size, w2.heap.size, ck, rfl, ?_, ?_⟩
  · refine ⟨hSB, hS2.below hT hS2.lt, M.start (M.raw_below hM2 hT) ⟨⟨_, hO3, ERow.nil _ _, NF.nil⟩, hC2.below hT, Nat.le_trans hz0 hz2, nf_new (by omega)⟩, ⟨nf_new (by omega), nf_new hfl⟩, ?_⟩
    have := hS1.lt
    exact ⟨hSB.lt, Nat.lt_of_lt_of_le hS2.lt hT.size, by omega, hb, Nat.le_refl _, Nat.le_trans (Nat.le_trans hz0 hz2) hT.size⟩
  · exact ((LowF.of_below al1 hb).trans (LowF.of_below hb2 hz0)).trans (LowF.of_below hT (Nat.le_trans hz0 hz2))

variable {M}
/-- What a decoder returns. -/
def DEnd (lv : Value) (x : Ss M) : Ending := .returned (.tuple #[lv, .int .i64 (closeE x), .int .i64 (x.rd : Int)])

set_option maxHeartbeats 4000000 in
theorem sdecode_any (w : World) (base m : Nat) (v : Value) (bs : List UInt8) (hM : M.raw w base m) (hb : base ≤ w.heap.size) (hn : bs.length ≤ 50000) (hv : ∀ w', Below base w w' → BRead w' v bs) (hw : SW base w) :
    Calls Tryz.prog 12 #[.iface M.T (.pointer (some ⟨m, 0, none⟩)), v] w fun e w' => ∃ lv, e = DEnd lv (feedG (ss0 M) bs) ∧ ERow w' base lv (M.l (closeBs (feedG (ss0 M) bs))) ∧ Below base w w' := by
  have hx := sinv_feedG bs (ss0 M) 0 sinv0
  rw [Nat.zero_add] at hx
  have HX := Lib.hid hx
  have HV := Lib.hid hv
  have HN := Lib.hid hn
  have HWs := Lib.hid hw
  clear hx hv hw hn
  unfold DEnd
  generalize hy : feedG (ss0 M) bs = y at *
  have HY := Lib.hid hy
  clear hy
  obtain ⟨E, hE⟩ : ∃ E, closeE y = E := ⟨_, rfl⟩
  rw [hE]
  have HE := Lib.hid hE
  clear hE
  go_enter Tryz.func12, Tryz.ntmps12
  go_wp2_with (first
    | (go_at_call 17; refine (snew_any M _ base m hM hb).mono ?_; rintro e w1 ⟨B, s, sc, o, ck, rfl, hA1, hb1⟩))
  have HB1 := Lib.hid hb1.low
  have HC := Lib.hid (feed_any w1 base B s m sc o ck (ss0 M) false 0 v bs hA1 sinv0 (by have := HN.out; omega) (fun w' h => HV.out w' (HB1.out.trans h)) (HWs.out.below hb1.low))
  clear hb1 hA1 hM
  go_wp2_with fail
  refine HC.out.mono ?_
  rintro e w2 ⟨rfl, hA2, hb2⟩
  rw [HY.out] at hA2
  have HB2 := Lib.hid (HB1.out.trans hb2.low)
  have hD := sclose_any w2 base B s m sc o ck y false (2 * bs.length) hA2 HX.out.b (by have := HN.out; omega) (HWs.out.below HB2.out)
  rw [HE.out] at hD
  have HD := Lib.hid hD
  clear hD
  clear hb2 hA2 HC
  go_wp2_with fail
  refine HD.out.mono ?_
  rintro e w3 ⟨rfl, hE3, hb3⟩
  have HB3 := Lib.hid (HB2.out.trans hb3.low)
  have b2 := hE3.blk.cell 2
  have b3 := hE3.blk.cell 3
  have b4 := hE3.blk.cell 4
  unfold sCells at b2 b3 b4
  obtain ⟨⟨lv, hO, hR, _⟩, _, _, _⟩ := hE3.out
  have o1 := hO.cell 1
  have HR := Lib.hid hR
  clear hE3 hb3 hO hR HD
  have b4' : w3.cell? ⟨s, 4, none⟩ = some (.int .i64 (y.rd : Int)) := b4
  go_wp2
  go_region
  go_wp2
  go_ret3
  exact ⟨lv, rfl, HR.out.below (below_drew (Below.refl _ _)), HB3.out.trans (below_drew (Below.refl _ _))⟩

end Go.Proofs.YtmimadkepflmlaaGreatDoor
namespace Go.Proofs.YtmimadkepflmlaaGreatDoor
set_option linter.unusedSectionVars false
variable [Tab]
def mayB1 (nm : ByteArray) (b : UInt8) : Bool := Nm.begB (nm.data.toList ++ [b])
def blankB (b : UInt8) : Bool := decide (b.toNat = 32 ∨ b.toNat = 9 ∨ b.toNat = 10 ∨ b.toNat = 13)
/-- What End tells: the normal form, and an error. -/
def endS (nm : ByteArray) : ByteArray := if Nm.isB nm.data.toList = true then Nm.readS nm.data.toList else ⟨#[]⟩
def endC (nm : ByteArray) : Int := if Nm.isB nm.data.toList = true then Nm.readC nm.data.toList else 2
theorem endS_size (nm : ByteArray) : (endS nm).size ≤ 30 := by
  unfold endS
  split
  · generalize nm.data.toList = l
    cases h : Nm.readL l with
    | none => rw [Nm.readS_none h]; exact Nat.zero_le _
    | some v =>
      rw [Nm.readS_some h]
      have h2 : Nm.okV v = true := by
        unfold Nm.readL Nm.readE at h
        split at h
        · split at h
          · rename_i hok
            injection h with h
            rw [← h]; exact hok
          · cases h
        · cases h
      unfold Nm.okV at h2
      have h3 := (of_decide_eq_true h2).2.2
      show (Nm.formL v).toArray.size ≤ 30
      rw [List.size_toArray]
      exact h3
  · exact Nat.zero_le _
end Go.Proofs.YtmimadkepflmlaaGreatDoor
namespace Go.Proofs.YtmimadkepflmlaaGreatDoor
set_option maxRecDepth 100000
set_option linter.unusedSectionVars false
variable [Tab]

/-- The machine: where the next byte stands; the brackets that are to close what is open; the event of the open word or string; what the open word lacks; the open number; the open string. -/
structure Mc where
  a : Int
  op : List UInt8
  ek : Int
  et : ByteArray
  ev : ByteArray
  rs : ByteArray
  nm : ByteArray
  q : Qt.QS
def emp : ByteArray := ⟨#[]⟩
def mc0 : Mc := ⟨0, [], 0, ⟨#[]⟩, ⟨#[]⟩, ⟨#[]⟩, ⟨#[]⟩, Qt.plainQ []⟩
/-- The machine, the Check and the events told; with an error, or 0. -/
structure Bs where
  m : Mc
  st : List Pt
  l : List Ev
structure Br where
  b : Bs
  e : Int
def tellB (m : Mc) (st : List Pt) (l : List Ev) (x : Ev) : Br := ⟨⟨m, stepS st x, tellL st l x⟩, stepE st x⟩
def topB (op : List UInt8) : UInt8 := op.getLastD 0
def finishB (s : Bs) : Br := tellB { s.m with op := s.m.op.dropLast, a := 5 } s.st s.l (bare (if (topB s.m.op).toNat = 125 then 9 else 6))
def beginB (s : Bs) (k : Int) (c : UInt8) (a : Int) : Br := tellB { s.m with op := s.m.op ++ [c], a := a } s.st s.l (bare k)
def letterB (s : Bs) (b : UInt8) : Br :=
  if s.m.rs.data.toList.head? = some b then
    (if s.m.rs.size = 1 then tellB { s.m with rs := s.m.rs.extract 1 s.m.rs.size, a := 5 } s.st s.l ⟨s.m.ek, s.m.et, s.m.ev⟩
      else ⟨{ s with m := { s.m with rs := s.m.rs.extract 1 s.m.rs.size } }, 0⟩)
  else ⟨s, 2⟩
def wordB (s : Bs) (k : Int) (t r : ByteArray) : Br := ⟨{ s with m := { s.m with a := 6, ek := k, et := t, ev := ⟨#[]⟩, rs := r } }, 0⟩
def stringB (s : Bs) (k : Int) : Br := ⟨{ s with m := { s.m with a := 8, ek := k, et := ⟨#[]⟩, ev := ⟨#[]⟩, q := Qt.plainQ [] } }, 0⟩
def charB (s : Bs) (b : UInt8) : Br :=
  let r := Qt.qStep s.m.q (b.toNat : Int)
  if r.e ≠ 0 ∨ r.done = false then ⟨{ s with m := { s.m with q := r.q } }, r.e⟩
  else tellB { s.m with q := r.q, a := if s.m.ek = 8 then 4 else 5, et := ⟨r.q.xs.toArray⟩ } s.st s.l ⟨s.m.ek, ⟨r.q.xs.toArray⟩, s.m.ev⟩
def digitB (s : Bs) (b : UInt8) : Br := if 30 ≤ s.m.nm.size then ⟨s, 4⟩ else ⟨{ s with m := { s.m with nm := s.m.nm ++ ⟨#[b]⟩ } }, 0⟩
def endNumB (s : Bs) : Br :=
  if endC s.m.nm ≠ 0 then ⟨{ s with m := { s.m with nm := ⟨#[]⟩ } }, endC s.m.nm⟩
  else tellB { s.m with nm := ⟨#[]⟩, a := 5 } s.st s.l ⟨3, endS s.m.nm, ⟨#[]⟩⟩
def valueB (s : Bs) (b : UInt8) : Br :=
  if b.toNat = 91 then beginB s 5 93 1 else if b.toNat = 123 then beginB s 7 125 2 else if b.toNat = 34 then stringB s 4
  else if b.toNat = 110 then wordB s 1 ⟨#[]⟩ ⟨#[117, 108, 108]⟩ else if b.toNat = 116 then wordB s 2 ⟨#[116, 114, 117, 101]⟩ ⟨#[114, 117, 101]⟩
  else if b.toNat = 102 then wordB s 2 ⟨#[102, 97, 108, 115, 101]⟩ ⟨#[97, 108, 115, 101]⟩
  else if mayB1 s.m.nm b = false then ⟨s, 2⟩ else digitB { s with m := { s.m with a := 7 } } b
def behindB (s : Bs) (b : UInt8) : Br :=
  if s.m.op = [] then ⟨s, 2⟩ else if b = topB s.m.op then finishB s else if b.toNat ≠ 44 then ⟨s, 2⟩
  else if (topB s.m.op).toNat = 125 then ⟨{ s with m := { s.m with a := 3 } }, 0⟩ else ⟨{ s with m := { s.m with a := 0 } }, 0⟩
def markB (s : Bs) (b : UInt8) : Br :=
  if s.m.a = 4 ∧ b.toNat = 58 then ⟨{ s with m := { s.m with a := 0 } }, 0⟩
  else if (s.m.a = 1 ∧ b.toNat = 93) ∨ (s.m.a = 2 ∧ b.toNat = 125) then finishB s
  else if (s.m.a = 2 ∨ s.m.a = 3) ∧ b.toNat = 34 then stringB s 8
  else if s.m.a = 0 ∨ s.m.a = 1 then valueB s b else if s.m.a = 5 then behindB s b else ⟨s, 2⟩
def plainB (s : Bs) (b : UInt8) : Br := if blankB b = true then ⟨s, 0⟩ else markB s b
def stepB (s : Bs) (b : UInt8) : Br :=
  if s.m.a = 6 then letterB s b else if s.m.a = 8 then charB s b
  else if s.m.a = 7 then (if mayB1 s.m.nm b = true then digitB s b else if (endNumB s).e ≠ 0 then endNumB s else plainB (endNumB s).b b)
  else plainB s b
def endB (s : Bs) : Br :=
  let r := if s.m.a = 7 then endNumB s else ⟨s, 0⟩
  if r.e ≠ 0 then r else if r.b.m.a ≠ 5 ∨ r.b.m.op ≠ [] then ⟨r.b, 2⟩ else ⟨r.b, 0⟩

/-- What holds ahead of each byte. -/
structure BInv (s : Bs) (n : Nat) : Prop where
  good : Good s.st
  ln : s.l.length ≤ 2 * n
  opn : s.m.op.length ≤ n
  op1 : s.m.a = 1 ∨ s.m.a = 2 ∨ s.m.a = 3 → s.m.op ≠ []
  rsn : s.m.a = 6 → 0 < s.m.rs.size
  rsl : s.m.rs.size ≤ 4
  nml : s.m.nm.size ≤ 30
  etl : s.m.et.size ≤ 48
  qi : Qt.QInv s.m.q
  rng : 0 ≤ s.m.a ∧ s.m.a ≤ 8
end Go.Proofs.YtmimadkepflmlaaGreatDoor

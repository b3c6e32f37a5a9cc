/-
  stream: the end of a text, for any machine.
  stream: New and Decode, for any machine.
-/
import Derived.Test.YtfciacigamjfkabGreatDmS24
namespace Go.Proofs.YtfciacigamjfkabGreat
open Go.RowKit Go.Maps
set_option maxRecDepth 100000
set_option linter.unusedSimpArgs false
set_option linter.unusedVariables false
set_option linter.unusedSectionVars false
variable [Tab] [Fo]
variable {M : Mach}

structure EAt (T : TypeId) (w : World) (base s m sc o ck : Nat) (e : Int) (rd : Nat) (cl en : Bool) (st : List Pt) (l : List Ev) : Prop where
  blk : Blk w s 83 (sCells T m sc o e rd cl en)
  out : OAt w base o ck st l
  bs : base ≤ s
  ns : ¬ Fo.F s

set_option maxHeartbeats 4000000 in
theorem send_any (w : World) (base B s m sc o ck : Nat) (x : Ss M.toMachP) (cl en : Bool) (n : Nat) (h : StA w base B s m sc o ck x cl en) (hi : M.Inv x.b n) (hn : n ≤ 100000) (hw : SN M.num base w) :
    Calls Tryz.prog 45 #[.pointer (some ⟨s, 0, none⟩)] w fun e w' => e = .returned (.int .i64 (endE x)) ∧ EAt M.T w' base s m sc o ck x.e x.rd cl en (M.st (endBs x)) (M.l (endBs x)) ∧ LowF base w w' := by
  have c0 := h.blk.cell 0
  have c1 := h.blk.cell 1
  have c2 := h.blk.cell 2
  unfold sCells at c0 c1 c2
  have hlt := h.blk.lt
  have hWh := whole_any w sc x.sl x.slo x.shi h.scan
  unfold endE endBs
  by_cases hz : x.sl = 0
  · rw [if_pos hz, if_pos hz]
    rw [hz] at hWh
    have HE := Lib.hid (M.end_any w.drew base B m o ck x.b n (M.ss h.d (Tch.refl base ssObj w).drew (fun _ _ _ ho => ho)) hi hn (hw.below (below_drew (Below.refl _ _))) h.p.hb)
    have HA := Lib.hid h
    clear hz h
    go_enter Tryz.func45, Tryz.ntmps45
    go_wp2_with fail
    refine hWh.mono ?_
    rintro e w' ⟨rfl, rfl⟩
    go_wp2
    refine region_g [11] (S := (fun W => W.cell? ⟨s, 0, none⟩ = some (.iface M.T (.pointer (some ⟨m, 0, none⟩))) ∧ W.cell? ⟨s, 2, none⟩ = some (.pointer (some ⟨o, 0, none⟩)))) (by kernel_rfl) ⟨c0, c2⟩ (fun hH => ?_)
    refine g_take (i := 0) (v := .pointer (some ⟨s, 0, none⟩)) (by rfl) (by kernel_rfl) (by kernel_rfl) (by kernel_rfl) (by kernel_rfl) (fun _ _ _ h => (by cases h.1)) (Or.inl ⟨by rfl, fun W hS => (by obtain ⟨s0, s2⟩ := hS; go_simp)⟩) hH ?_
    simp only [Act.put, List.setIfInBounds_toArray, List.set_cons_zero, List.set_cons_succ]
    refine g_take (i := 1) (v := .pointer (some ⟨s, 0, none⟩)) (by rfl) (by kernel_rfl) (by kernel_rfl) (by kernel_rfl) (by kernel_rfl) (fun _ _ _ h => (by cases h.1)) (Or.inl ⟨by rfl, fun W hS => (by obtain ⟨s0, s2⟩ := hS; go_simp)⟩) hH ?_
    simp only [Act.put, List.setIfInBounds_toArray, List.set_cons_zero, List.set_cons_succ]
    refine g_take (i := 2) (v := .pointer (some ⟨s, 0, none⟩)) (by rfl) (by kernel_rfl) (by kernel_rfl) (by kernel_rfl) (by kernel_rfl) (fun _ _ _ h => (by cases h.1)) (Or.inl ⟨by rfl, fun W hS => (by obtain ⟨s0, s2⟩ := hS; go_simp)⟩) hH ?_
    simp only [Act.put, List.setIfInBounds_toArray, List.set_cons_zero, List.set_cons_succ]
    refine g_take (i := 3) (v := .iface M.T (.pointer (some ⟨m, 0, none⟩))) (by rfl) (by kernel_rfl) (by kernel_rfl) (by kernel_rfl) (by kernel_rfl) (fun _ _ _ h => (by cases h.1)) (Or.inl ⟨by rfl, fun W hS => (by obtain ⟨s0, s2⟩ := hS; go_simp)⟩) hH ?_
    simp only [Act.put, List.setIfInBounds_toArray, List.set_cons_zero, List.set_cons_succ]
    refine g_take (i := 4) (v := .pointer (some ⟨s, 0, none⟩)) (by rfl) (by kernel_rfl) (by kernel_rfl) (by kernel_rfl) (by kernel_rfl) (fun _ _ _ h => (by cases h.1)) (Or.inl ⟨by rfl, fun W hS => (by obtain ⟨s0, s2⟩ := hS; go_simp)⟩) hH ?_
    simp only [Act.put, List.setIfInBounds_toArray, List.set_cons_zero, List.set_cons_succ]
    refine g_take (i := 5) (v := .pointer (some ⟨s, 0, none⟩)) (by rfl) (by kernel_rfl) (by kernel_rfl) (by kernel_rfl) (by kernel_rfl) (fun _ _ _ h => (by cases h.1)) (Or.inl ⟨by rfl, fun W hS => (by obtain ⟨s0, s2⟩ := hS; go_simp)⟩) hH ?_
    simp only [Act.put, List.setIfInBounds_toArray, List.set_cons_zero, List.set_cons_succ]
    refine g_take (i := 6) (v := .pointer (some ⟨s, 2, none⟩)) (by rfl) (by kernel_rfl) (by kernel_rfl) (by kernel_rfl) (by kernel_rfl) (fun _ _ _ h => (by cases h.1)) (Or.inl ⟨by rfl, fun W hS => (by obtain ⟨s0, s2⟩ := hS; go_simp)⟩) hH ?_
    simp only [Act.put, List.setIfInBounds_toArray, List.set_cons_zero, List.set_cons_succ]
    refine g_take (i := 7) (v := .pointer (some ⟨o, 0, none⟩)) (by rfl) (by kernel_rfl) (by kernel_rfl) (by kernel_rfl) (by kernel_rfl) (fun _ _ _ h => (by cases h.1)) (Or.inl ⟨by rfl, fun W hS => (by obtain ⟨s0, s2⟩ := hS; go_simp)⟩) hH ?_
    simp only [Act.put, List.setIfInBounds_toArray, List.set_cons_zero, List.set_cons_succ]
    refine g_take (i := 8) (v := .iface M.T (.pointer (some ⟨m, 0, none⟩))) (by rfl) (by kernel_rfl) (by kernel_rfl) (by kernel_rfl) (by kernel_rfl) (fun _ _ _ h => (by cases h.1)) (Or.inl ⟨by rfl, fun W hS => (by obtain ⟨s0, s2⟩ := hS; go_simp)⟩) hH ?_
    simp only [Act.put, List.setIfInBounds_toArray, List.set_cons_zero, List.set_cons_succ]
    refine g_take (i := 9) (v := .iface M.T (.pointer (some ⟨m, 0, none⟩))) (by rfl) (by kernel_rfl) (by kernel_rfl) (by kernel_rfl) (by kernel_rfl) (fun _ _ _ h => (by cases h.1)) (Or.inl ⟨by rfl, fun W hS => (by obtain ⟨s0, s2⟩ := hS; go_simp)⟩) hH ?_
    simp only [Act.put, List.setIfInBounds_toArray, List.set_cons_zero, List.set_cons_succ]
    refine g_one (i := 10) (by kernel_rfl) (by rfl) (fun K hK => ?_)
    have hm := M.hme ⟨m, 0, none⟩ w.drew
    have he := M.efe
    go_simp
    try rw [hm]
    try simp only [Result.andThen_ok]
    try rw [M.efe]
    try go_simp
    refine HE.out.mono ?_
    rintro e w2 ⟨rfl, hO2, hF2⟩
    have hBs : Blk w2 s 83 (sCells M.T m sc o x.e x.rd cl en) := hF2.keep s _ HA.out.blk HA.out.p.sB (M.nss _ _ _ (.inl rfl))
    have s0 := hBs.cell 0
    have s2 := hBs.cell 2
    unfold sCells at s0 s2
    refine hK.out _ _ (fun _ => ⟨s0, s2⟩) (fun _ => ?_)
    clear hK K
    have HF := Lib.hid (And.intro (EAt.mk hBs hO2 HA.out.p.bs HA.out.ns.1) ((LowF.drew base w).trans hF2.lowF))
    clear hm HA HE hBs hO2 hF2
    refine g_one (i := 11) (by kernel_rfl) (by rfl) (fun K hK => ?_)
    go_simp
    refine hK.out _ _ (fun h => absurd (List.mem_singleton.2 rfl) h) (fun _ => ?_)
    clear hK K
    refine g_done (by kernel_rfl) ⟨by first | rfl | trivial, ?_⟩ _
    go_wp2
    go_ret
    exact ⟨rfl, HF.out.1, HF.out.2⟩
  · rw [if_neg hz, if_neg hz]
    have e1 : decide (x.sl = 0) = false := by simpa using hz
    rw [e1] at hWh
    have HF := Lib.hid (And.intro (EAt.mk h.blk (M.out h.d) h.p.bs h.ns.1) (LowF.refl base w))
    clear hz h e1
    go_enter Tryz.func45, Tryz.ntmps45
    go_wp2_with fail
    refine hWh.mono ?_
    rintro e w' ⟨rfl, rfl⟩
    go_wp2
    go_ret
    exact ⟨rfl, HF.out.1, HF.out.2⟩

theorem EAt.set {T : TypeId} {w : World} {base s m sc o ck : Nat} {e : Int} {rd : Nat} {cl en : Bool} {st : List Pt} {l : List Ev} (h : EAt T w base s m sc o ck e rd cl en st l) (i : Nat) (u : Value) (e' : Int) (rd' : Nat) (cl' en' : Bool) (hc : (sCells T m sc o e rd cl en).setIfInBounds i u = sCells T m sc o e' rd' cl' en') :
    EAt T (w.setCell ⟨s, i, none⟩ u) base s m sc o ck e' rd' cl' en' st l ∧ LowF base w (w.setCell ⟨s, i, none⟩ u) := by
  have ht : Tch base ssObj w (w.setCell ⟨s, i, none⟩ u) := (Tch.refl _ _ _).set h.blk h.bs h.ns (show ssObj (.cells _ _ _) from .inl rfl) i u
  exact ⟨⟨by rw [← hc]; exact h.blk.set_ i u, h.out.of_ss ht, h.bs, h.ns⟩, LowF.of_tch ht (Nat.le_trans h.bs (Nat.le_of_lt h.blk.lt))⟩

set_option maxHeartbeats 4000000 in
theorem sclose_any (w : World) (base B s m sc o ck : Nat) (x : Ss M.toMachP) (en : Bool) (n : Nat) (h : StA w base B s m sc o ck x false en) (hi : x.e = 0 → M.Inv x.b n) (hn : n ≤ 100000) (hw : SN M.num base w) :
    Calls Tryz.prog 22 #[.pointer (some ⟨s, 0, none⟩)] w fun e w' => e = .returned (.tuple #[]) ∧ EAt M.T w' base s m sc o ck (closeE x) x.rd true en (M.st (closeBs x)) (M.l (closeBs x)) ∧ LowF base w w' := by
  have c5 := h.blk.cell 5
  have c3 := h.blk.cell 3
  unfold sCells at c5 c3
  have f5 := h.blk.frozen 5
  have hlt := h.blk.lt
  unfold closeE closeBs
  by_cases he : x.e = 0
  · rw [if_neg (by simp [he]), if_neg (by simp [he])]
    rw [he] at c3
    have hC := send_any w base B s m sc o ck x false en n h (hi he) hn hw
    obtain ⟨E, hE⟩ : ∃ E, endE x = E := ⟨_, rfl⟩
    rw [hE] at hC ⊢
    rw [he] at hC
    have HC := Lib.hid hC
    clear h he hE hC
    go_enter Tryz.func22, Tryz.ntmps22
    go_wp2_with fail
    refine HC.out.mono ?_
    rintro e w1 ⟨rfl, hE1, hB1⟩
    have g3 := hE1.blk.cell 3
    have gf3 := hE1.blk.frozen 3
    have gl := hE1.blk.lt
    unfold sCells at g3
    obtain ⟨hE2, hB2⟩ := hE1.set 3 (.int .i64 E) E x.rd false en rfl
    obtain ⟨hE3, hB3⟩ := hE2.set 5 (.bool true) E x.rd true en rfl
    have k5 := hE2.blk.cell 5
    have kf5 := hE2.blk.frozen 5
    have kl := hE2.blk.lt
    unfold sCells at k5
    have HF := Lib.hid (And.intro hE3 ((hB1.trans hB2).trans hB3))
    clear HC hE1 hB1 hE2 hB2 hE3 hB3 c5 c3 f5 hlt
    go_wp2
    go_end0
    exact ⟨rfl, HF.out.1, HF.out.2⟩
  · rw [if_pos he, if_pos he]
    have e0 : (x.e == 0) = false := by rw [beq_eq_false_iff_ne]; exact he
    have hE1 : EAt M.T w base s m sc o ck x.e x.rd false en (M.st x.b) (M.l x.b) := EAt.mk h.blk (M.out h.d) h.p.bs h.ns.1
    obtain ⟨hE3, hB3⟩ := hE1.set 5 (.bool true) x.e x.rd true en rfl
    have HF := Lib.hid (And.intro hE3 hB3)
    clear h he hE1 hE3 hB3
    go_enter Tryz.func22, Tryz.ntmps22
    go_wp2
    go_end0
    exact ⟨rfl, HF.out.1, HF.out.2⟩
end Go.Proofs.YtfciacigamjfkabGreat
namespace Go.Proofs.YtfciacigamjfkabGreat
open Go.RowKit Go.Maps
set_option maxRecDepth 100000
set_option linter.unusedSimpArgs false
set_option linter.unusedVariables false
set_option linter.unusedSectionVars false
variable [Tab] [Fo]
theorem RowT.erow [Fo] {w : World} {base : Nat} {v : Value} {l : List Ev} (htk : Fo.tk = none) (h : RowT w base v l) : ERow w base v l := by
  rcases h with ⟨_, h⟩ | ⟨n, h, _⟩
  · exact h
  · rw [htk] at h; cases h
/-- Where the text ends, or the error is met. -/
theorem at_any (w : World) (s o rd : Nat) (s4 : w.cell? ⟨s, 4, none⟩ = some (.int .i64 (rd : Int))) (s2 : w.cell? ⟨s, 2, none⟩ = some (.pointer (some ⟨o, 0, none⟩))) (o2 : w.cell? ⟨o, 2, none⟩ = some (.int .i64 0)) (hr : rd ≤ 1000000) :
    Calls Tryz.prog 44 #[.pointer (some ⟨s, 0, none⟩)] w fun e w' => e = .returned (.int .i64 (rd : Int)) ∧ w' = w.drew := by
  go_enter Tryz.func44, Tryz.ntmps44
  go_wp2
  go_region
  go_wp2
  go_ret
  exact ⟨rfl, rfl⟩
variable (M : Mach)

set_option maxHeartbeats 4000000 in
theorem snew_any (w : World) (base m : Nat) (hM : M.raw w base m) (htk : Fo.tk = none) (hb : base ≤ w.heap.size) :
    Calls Tryz.prog 41 #[.iface M.T (.pointer (some ⟨m, 0, none⟩))] w fun e w' => ∃ B s sc o ck, e = .returned (.pointer (some ⟨s, 0, none⟩)) ∧ StA w' base B s m sc o ck (ss0 M.toMachP) false false ∧ LowF base w w' := by
  go_enter Tryz.func41, Tryz.ntmps41
  go_wp2_with (first
    | (go_at_call 59; refine (new_any _).mono ?_; rintro e w1 ⟨rfl, rfl⟩))
  have hS1 : ScanAt (w.alloc (.cells #[.int .i64 0, .int .u8 128, .int .u8 191] 138)) w.heap.size 0 128 191 := Blk.new w _ _
  have al1 : Below w.heap.size w (w.alloc (.cells #[.int .i64 0, .int .u8 128, .int .u8 191] 138)) := (Below.refl _ _).alloc (Nat.le_refl _) _
  have hfl := M.raw_lim hM
  obtain ⟨W0, hW0⟩ : ∃ W0, w.alloc (.cells #[.int .i64 0, .int .u8 128, .int .u8 191] 138) = W0 := ⟨_, rfl⟩
  have hz1 : w.heap.size ≤ W0.heap.size := by rw [← hW0]; simp
  have hz0 : base ≤ W0.heap.size := Nat.le_trans hb (by rw [← hW0]; simp)
  rw [hW0] at hS1 al1 ⊢
  go_wp2_with (first
    | (go_at_call 60; refine (cnew_any W0 W0.heap.size (Nat.le_refl _) (Nat.le_trans hfl hz1)).mono ?_; rintro e w2 ⟨ck, rfl, hck, hC2, hb2⟩))
  go_ret
  have hz2 : W0.heap.size ≤ w2.heap.size := hb2.size
  have hS2 := hS1.below hb2 hS1.lt
  have hT : Below w2.heap.size w2 ((w2.alloc (.cells #[.pointer (some ⟨ck, 0, none⟩), .slice none 0 0, .int .i64 0] 110)).alloc (.cells (sCells M.T m w.heap.size w2.heap.size 0 0 false false) 83)) := ((Below.refl _ _).alloc (Nat.le_refl _) _).alloc (by simp) _
  have hO := Blk.new w2 110 #[.pointer (some ⟨ck, 0, none⟩), .slice none 0 0, .int .i64 0]
  have hO3 := hO.alloc (.cells (sCells M.T m w.heap.size w2.heap.size 0 0 false false) 83)
  have hSB := Blk.new (w2.alloc (.cells #[.pointer (some ⟨ck, 0, none⟩), .slice none 0 0, .int .i64 0] 110)) 83 (sCells M.T m w.heap.size w2.heap.size 0 0 false false)
  have hsz : (w2.alloc (.cells #[.pointer (some ⟨ck, 0, none⟩), .slice none 0 0, .int .i64 0] 110)).heap.size = w2.heap.size + 1 := by simp
  rw [hsz] at hSB
  refine ⟨((w2.alloc (.cells #[.pointer (some ⟨ck, 0, none⟩), .slice none 0 0, .int .i64 0] 110)).alloc (.cells (sCells M.T m w.heap.size w2.heap.size 0 0 false false) 83)).heap.size, w2.heap.size + 1, w.heap.size, w2.heap.size, ck, rfl, ?_, ?_⟩
  · refine ⟨hSB, hS2.below hT hS2.lt, M.start hM hb ((al1.trans (hb2.mono hz1)).trans (hT.mono (Nat.le_trans hz1 hz2))) hz1 (Nat.le_trans hz2 hT.size) ⟨⟨_, hO3, RowT.nil htk _ _, NF.nil⟩, hC2.below hT, hz2, nf_new (by omega)⟩, ⟨nf_new (by omega), nf_new hfl⟩, ?_⟩
    have := hS1.lt
    exact ⟨hSB.lt, Nat.lt_of_lt_of_le hS2.lt hT.size, by omega, hb, Nat.le_refl _, Nat.le_trans (Nat.le_trans hz0 hz2) hT.size⟩
  · exact ((LowF.of_below al1 hb).trans (LowF.of_below hb2 hz0)).trans (LowF.of_below hT (Nat.le_trans hz0 hz2))

variable {M}
/-- What a decoder returns. -/
def DEnd (lv : Value) (x : Ss M.toMachP) : Ending := .returned (.tuple #[lv, .int .i64 (closeE x), .int .i64 (x.rd : Int)])

set_option maxHeartbeats 4000000 in
theorem sdecode_any (w : World) (base m : Nat) (v : Value) (bs : List UInt8) (hM : M.raw w base m) (htk : Fo.tk = none) (hb : base ≤ w.heap.size) (hn : bs.length ≤ 50000) (hv : ∀ w', Below base w w' → BRead w' v bs) (hw : SN M.num base w) :
    Calls Tryz.prog 32 #[.iface M.T (.pointer (some ⟨m, 0, none⟩)), v] w fun e w' => ∃ lv, e = DEnd lv (feedG (ss0 M.toMachP) bs) ∧ ERow w' base lv (M.l (closeBs (feedG (ss0 M.toMachP) bs))) ∧ Below base w w' := by
  have hx := sinv_feedG bs (ss0 M.toMachP) 0 sinv0
  rw [Nat.zero_add] at hx
  have HX := Lib.hid hx
  have HV := Lib.hid hv
  have HN := Lib.hid hn
  have HWs := Lib.hid hw
  clear hx hv hw hn
  unfold DEnd
  generalize hy : feedG (ss0 M.toMachP) bs = y at *
  have HY := Lib.hid hy
  clear hy
  obtain ⟨E, hE⟩ : ∃ E, closeE y = E := ⟨_, rfl⟩
  rw [hE]
  have HE := Lib.hid hE
  clear hE
  go_enter Tryz.func32, Tryz.ntmps32
  go_wp2_with (first
    | (go_at_call 41; refine (snew_any M _ base m hM htk hb).mono ?_; rintro e w1 ⟨B, s, sc, o, ck, rfl, hA1, hb1⟩))
  have HB1 := Lib.hid hb1.low
  have HC := Lib.hid (feed_any w1 base B s m sc o ck (ss0 M.toMachP) false 0 v bs hA1 sinv0 (by have := HN.out; omega) (fun w' h => HV.out w' (HB1.out.trans h.low)) (HWs.out.below hb1.low))
  clear hb1 hA1 hM
  go_wp2_with fail
  refine HC.out.mono ?_
  rintro e w2 ⟨rfl, hA2, hb2⟩
  rw [HY.out] at hA2
  have HB2 := Lib.hid (HB1.out.trans hb2.low)
  have hD := sclose_any w2 base B s m sc o ck y false (2 * bs.length) hA2 HX.out.b (by have := HN.out; omega) (HWs.out.below HB2.out)
  rw [HE.out] at hD
  have HD := Lib.hid hD
  clear hD
  clear hb2 hA2 HC
  go_wp2_with fail
  refine HD.out.mono ?_
  rintro e w3 ⟨rfl, hE3, hb3⟩
  have HB3 := Lib.hid (HB2.out.trans hb3.low)
  have b2 := hE3.blk.cell 2
  have b3 := hE3.blk.cell 3
  have b4 := hE3.blk.cell 4
  unfold sCells at b2 b3 b4
  obtain ⟨⟨lv, hO, hR0, _⟩, _, _, _⟩ := hE3.out
  have hR := hR0.erow htk
  have o1 := hO.cell 1
  have o2 : w3.cell? ⟨o, 2, none⟩ = some (.int .i64 0) := hO.cell 2
  have HR := Lib.hid hR
  have hrd : y.rd ≤ 1000000 := by have := HX.out.rd; have := HN.out; omega
  clear hE3 hb3 hO hR HD hR0
  have b4' : w3.cell? ⟨s, 4, none⟩ = some (.int .i64 (y.rd : Int)) := b4
  obtain ⟨rd, hrd0⟩ : ∃ rd, y.rd = rd := ⟨_, rfl⟩
  rw [hrd0] at b4' hrd
  have HRD := Lib.hid hrd0
  clear hrd0 b4
  go_wp2
  refine region_g [] (S := (fun W => W.cell? ⟨s, 2, none⟩ = some (.pointer (some ⟨o, 0, none⟩)) ∧ W.cell? ⟨s, 3, none⟩ = some (.int .i64 E) ∧ W.cell? ⟨s, 4, none⟩ = some (.int .i64 (rd : Int)) ∧ W.cell? ⟨o, 1, none⟩ = some lv ∧ W.cell? ⟨o, 2, none⟩ = some (.int .i64 0))) (by kernel_rfl) ⟨b2, b3, b4', o1, o2⟩ (fun hH => ?_)
  refine g_take (i := 0) (v := .pointer (some ⟨s, 0, none⟩)) (by rfl) (by kernel_rfl) (by kernel_rfl) (by kernel_rfl) (by kernel_rfl) (fun _ _ _ h => (by cases h.1)) (Or.inl ⟨by rfl, fun W hS => (by obtain ⟨s2, s3, s4, o1, o2⟩ := hS; go_simp)⟩) hH ?_
  simp only [Act.put, List.setIfInBounds_toArray, List.set_cons_zero, List.set_cons_succ]
  refine g_take (i := 1) (v := .pointer (some ⟨s, 0, none⟩)) (by rfl) (by kernel_rfl) (by kernel_rfl) (by kernel_rfl) (by kernel_rfl) (fun _ _ _ h => (by cases h.1)) (Or.inl ⟨by rfl, fun W hS => (by obtain ⟨s2, s3, s4, o1, o2⟩ := hS; go_simp)⟩) hH ?_
  simp only [Act.put, List.setIfInBounds_toArray, List.set_cons_zero, List.set_cons_succ]
  refine g_take (i := 2) (v := .pointer (some ⟨s, 2, none⟩)) (by rfl) (by kernel_rfl) (by kernel_rfl) (by kernel_rfl) (by kernel_rfl) (fun _ _ _ h => (by cases h.1)) (Or.inl ⟨by rfl, fun W hS => (by obtain ⟨s2, s3, s4, o1, o2⟩ := hS; go_simp)⟩) hH ?_
  simp only [Act.put, List.setIfInBounds_toArray, List.set_cons_zero, List.set_cons_succ]
  refine g_take (i := 3) (v := .pointer (some ⟨o, 0, none⟩)) (by rfl) (by kernel_rfl) (by kernel_rfl) (by kernel_rfl) (by kernel_rfl) (fun _ _ _ h => (by cases h.1)) (Or.inl ⟨by rfl, fun W hS => (by obtain ⟨s2, s3, s4, o1, o2⟩ := hS; go_simp)⟩) hH ?_
  simp only [Act.put, List.setIfInBounds_toArray, List.set_cons_zero, List.set_cons_succ]
  refine g_take (i := 4) (v := .pointer (some ⟨o, 0, none⟩)) (by rfl) (by kernel_rfl) (by kernel_rfl) (by kernel_rfl) (by kernel_rfl) (fun _ _ _ h => (by cases h.1)) (Or.inl ⟨by rfl, fun W hS => (by obtain ⟨s2, s3, s4, o1, o2⟩ := hS; go_simp)⟩) hH ?_
  simp only [Act.put, List.setIfInBounds_toArray, List.set_cons_zero, List.set_cons_succ]
  refine g_take (i := 5) (v := .pointer (some ⟨o, 1, none⟩)) (by rfl) (by kernel_rfl) (by kernel_rfl) (by kernel_rfl) (by kernel_rfl) (fun _ _ _ h => (by cases h.1)) (Or.inl ⟨by rfl, fun W hS => (by obtain ⟨s2, s3, s4, o1, o2⟩ := hS; go_simp)⟩) hH ?_
  simp only [Act.put, List.setIfInBounds_toArray, List.set_cons_zero, List.set_cons_succ]
  refine g_take (i := 6) (v := lv) (by rfl) (by kernel_rfl) (by kernel_rfl) (by kernel_rfl) (by kernel_rfl) (fun _ _ _ h => (by cases h.1)) (Or.inl ⟨by rfl, fun W hS => (by obtain ⟨s2, s3, s4, o1, o2⟩ := hS; go_simp)⟩) hH ?_
  simp only [Act.put, List.setIfInBounds_toArray, List.set_cons_zero, List.set_cons_succ]
  refine g_take (i := 7) (v := .pointer (some ⟨s, 0, none⟩)) (by rfl) (by kernel_rfl) (by kernel_rfl) (by kernel_rfl) (by kernel_rfl) (fun _ _ _ h => (by cases h.1)) (Or.inl ⟨by rfl, fun W hS => (by obtain ⟨s2, s3, s4, o1, o2⟩ := hS; go_simp)⟩) hH ?_
  simp only [Act.put, List.setIfInBounds_toArray, List.set_cons_zero, List.set_cons_succ]
  refine g_take (i := 8) (v := .pointer (some ⟨s, 0, none⟩)) (by rfl) (by kernel_rfl) (by kernel_rfl) (by kernel_rfl) (by kernel_rfl) (fun _ _ _ h => (by cases h.1)) (Or.inl ⟨by rfl, fun W hS => (by obtain ⟨s2, s3, s4, o1, o2⟩ := hS; go_simp)⟩) hH ?_
  simp only [Act.put, List.setIfInBounds_toArray, List.set_cons_zero, List.set_cons_succ]
  refine g_take (i := 9) (v := .pointer (some ⟨s, 3, none⟩)) (by rfl) (by kernel_rfl) (by kernel_rfl) (by kernel_rfl) (by kernel_rfl) (fun _ _ _ h => (by cases h.1)) (Or.inl ⟨by rfl, fun W hS => (by obtain ⟨s2, s3, s4, o1, o2⟩ := hS; go_simp)⟩) hH ?_
  simp only [Act.put, List.setIfInBounds_toArray, List.set_cons_zero, List.set_cons_succ]
  refine g_take (i := 10) (v := .int .i64 E) (by rfl) (by kernel_rfl) (by kernel_rfl) (by kernel_rfl) (by kernel_rfl) (fun _ _ _ h => (by cases h.1)) (Or.inl ⟨by rfl, fun W hS => (by obtain ⟨s2, s3, s4, o1, o2⟩ := hS; go_simp)⟩) hH ?_
  simp only [Act.put, List.setIfInBounds_toArray, List.set_cons_zero, List.set_cons_succ]
  refine g_take (i := 11) (v := .pointer (some ⟨s, 0, none⟩)) (by rfl) (by kernel_rfl) (by kernel_rfl) (by kernel_rfl) (by kernel_rfl) (fun _ _ _ h => (by cases h.1)) (Or.inl ⟨by rfl, fun W hS => (by obtain ⟨s2, s3, s4, o1, o2⟩ := hS; go_simp)⟩) hH ?_
  simp only [Act.put, List.setIfInBounds_toArray, List.set_cons_zero, List.set_cons_succ]
  refine g_one (i := 12) (by kernel_rfl) (by rfl) (fun K hK => ?_)
  go_simp
  refine (at_any w3.drew s o rd b4' b2 o2 hrd).mono ?_
  rintro e w4 ⟨rfl, rfl⟩
  refine hK.out _ _ (fun _ => ⟨b2, b3, b4', o1, o2⟩) (fun _ => ?_)
  clear hK K hH
  refine g_one (i := 13) (by kernel_rfl) (by rfl) (fun K hK => ?_)
  go_simp
  refine hK.out _ _ (fun _ => ⟨b2, b3, b4', o1, o2⟩) (fun _ => ?_)
  clear hK K
  refine g_one (i := 14) (by kernel_rfl) (by rfl) (fun K hK => ?_)
  go_simp
  refine hK.out _ _ (fun _ => ⟨b2, b3, b4', o1, o2⟩) (fun _ => ?_)
  clear hK K
  refine g_one (i := 15) (by kernel_rfl) (by rfl) (fun K hK => ?_)
  go_simp
  refine hK.out _ _ (fun _ => ⟨b2, b3, b4', o1, o2⟩) (fun _ => ?_)
  clear hK K
  refine g_done (by kernel_rfl) ⟨by first | rfl | trivial, ?_⟩ _
  go_wp2
  go_ret3
  exact ⟨lv, by rw [HRD.out]; rfl, (HR.out.below (below_drew (Below.refl _ _))).below (below_drew (Below.refl _ _)), (HB3.out.trans (below_drew (Below.refl _ _))).trans (below_drew (Below.refl _ _))⟩

end Go.Proofs.YtfciacigamjfkabGreat

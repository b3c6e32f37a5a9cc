/-
  stream: the end of a text, for the brace syntax.
  stream: New and Decode, for the brace syntax; brace.Decode.
-/
import Derived.Test.YthhhmgkkklopfaaGreatDoorBrZ33
namespace Go.Proofs.YthhhmgkkklopfaaGreatDoor
open Go.RowKit Go.Maps
set_option maxRecDepth 100000
set_option linter.unusedSimpArgs false
set_option linter.unusedVariables false

theorem DAt.out {w : World} {base B m o ck : Nat} {s : Bs} (h : DAt w base B m o ck s) : OAt w base o ck s.st s.l := by
  rcases h with ⟨_, w0, g, _, h2, _, ht, _, _⟩ | ⟨_, qp, h⟩
  · exact h2.of_ss ht
  · exact h.out
def endE (x : Ss) : Int := if x.sl = 0 then (endB x.b).e else 3
def endBs (x : Ss) : Bs := if x.sl = 0 then (endB x.b).b else x.b
structure EAt (w : World) (base s m sc o ck : Nat) (e : Int) (rd : Nat) (cl en : Bool) (st : List Pt) (l : List Ev) : Prop where
  blk : Blk w s 52 (sCells m sc o e rd cl en)
  out : OAt w base o ck st l
  bs : base ≤ s

set_option maxHeartbeats 4000000 in
theorem send_any (w : World) (base B s m sc o ck : Nat) (x : Ss) (cl en : Bool) (n : Nat) (h : StA w base B s m sc o ck x cl en) (hi : BInv x.b n) (hn : n ≤ 100000) (hw : SW base w) :
    Calls Tryz.prog 22 #[.pointer (some ⟨s, 0, none⟩)] w fun e w' => e = .returned (.int .i64 (endE x)) ∧ EAt w' base s m sc o ck x.e x.rd cl en (endBs x).st (endBs x).l ∧ Below base w w' := by
  have c0 := h.blk.cell 0
  have c1 := h.blk.cell 1
  have c2 := h.blk.cell 2
  unfold sCells at c0 c1 c2
  have hlt := h.blk.lt
  have hWh := whole_any w sc x.sl x.slo x.shi h.scan
  unfold endE endBs
  by_cases hz : x.sl = 0
  · rw [if_pos hz, if_pos hz]
    rw [hz] at hWh
    have HE := Lib.hid (bend_any w.drew base B m o ck x.b n (h.d.of_ss (Tch.refl base ssObj w).drew (fun _ _ _ hq => hq)) hi hn (hw.below (below_drew (Below.refl _ _))) h.p.hb)
    have HA := Lib.hid h
    clear hz h
    go_enter Tryz.func22, Tryz.ntmps22
    go_wp2_with fail
    refine hWh.mono ?_
    rintro e w' ⟨rfl, rfl⟩
    go_wp2
    refine region_g [11] (S := (fun W => W.cell? ⟨s, 0, none⟩ = some (.iface 33 (.pointer (some ⟨m, 0, none⟩))) ∧ W.cell? ⟨s, 2, none⟩ = some (.pointer (some ⟨o, 0, none⟩)))) (by kernel_rfl) ⟨c0, c2⟩ (fun hH => ?_)
    refine g_take (i := 0) (v := .pointer (some ⟨s, 0, none⟩)) (by rfl) (by kernel_rfl) (by kernel_rfl) (by kernel_rfl) (by kernel_rfl) (fun _ _ _ h => (by cases h.1)) (Or.inl ⟨by rfl, fun W hS => (by obtain ⟨s0, s2⟩ := hS; go_simp)⟩) hH ?_
    simp only [Act.put, List.setIfInBounds_toArray, List.set_cons_zero, List.set_cons_succ]
    refine g_take (i := 1) (v := .pointer (some ⟨s, 0, none⟩)) (by rfl) (by kernel_rfl) (by kernel_rfl) (by kernel_rfl) (by kernel_rfl) (fun _ _ _ h => (by cases h.1)) (Or.inl ⟨by rfl, fun W hS => (by obtain ⟨s0, s2⟩ := hS; go_simp)⟩) hH ?_
    simp only [Act.put, List.setIfInBounds_toArray, List.set_cons_zero, List.set_cons_succ]
    refine g_take (i := 2) (v := .pointer (some ⟨s, 0, none⟩)) (by rfl) (by kernel_rfl) (by kernel_rfl) (by kernel_rfl) (by kernel_rfl) (fun _ _ _ h => (by cases h.1)) (Or.inl ⟨by rfl, fun W hS => (by obtain ⟨s0, s2⟩ := hS; go_simp)⟩) hH ?_
    simp only [Act.put, List.setIfInBounds_toArray, List.set_cons_zero, List.set_cons_succ]
    refine g_take (i := 3) (v := .iface 33 (.pointer (some ⟨m, 0, none⟩))) (by rfl) (by kernel_rfl) (by kernel_rfl) (by kernel_rfl) (by kernel_rfl) (fun _ _ _ h => (by cases h.1)) (Or.inl ⟨by rfl, fun W hS => (by obtain ⟨s0, s2⟩ := hS; go_simp)⟩) hH ?_
    simp only [Act.put, List.setIfInBounds_toArray, List.set_cons_zero, List.set_cons_succ]
    refine g_take (i := 4) (v := .pointer (some ⟨s, 0, none⟩)) (by rfl) (by kernel_rfl) (by kernel_rfl) (by kernel_rfl) (by kernel_rfl) (fun _ _ _ h => (by cases h.1)) (Or.inl ⟨by rfl, fun W hS => (by obtain ⟨s0, s2⟩ := hS; go_simp)⟩) hH ?_
    simp only [Act.put, List.setIfInBounds_toArray, List.set_cons_zero, List.set_cons_succ]
    refine g_take (i := 5) (v := .pointer (some ⟨s, 0, none⟩)) (by rfl) (by kernel_rfl) (by kernel_rfl) (by kernel_rfl) (by kernel_rfl) (fun _ _ _ h => (by cases h.1)) (Or.inl ⟨by rfl, fun W hS => (by obtain ⟨s0, s2⟩ := hS; go_simp)⟩) hH ?_
    simp only [Act.put, List.setIfInBounds_toArray, List.set_cons_zero, List.set_cons_succ]
    refine g_take (i := 6) (v := .pointer (some ⟨s, 2, none⟩)) (by rfl) (by kernel_rfl) (by kernel_rfl) (by kernel_rfl) (by kernel_rfl) (fun _ _ _ h => (by cases h.1)) (Or.inl ⟨by rfl, fun W hS => (by obtain ⟨s0, s2⟩ := hS; go_simp)⟩) hH ?_
    simp only [Act.put, List.setIfInBounds_toArray, List.set_cons_zero, List.set_cons_succ]
    refine g_take (i := 7) (v := .pointer (some ⟨o, 0, none⟩)) (by rfl) (by kernel_rfl) (by kernel_rfl) (by kernel_rfl) (by kernel_rfl) (fun _ _ _ h => (by cases h.1)) (Or.inl ⟨by rfl, fun W hS => (by obtain ⟨s0, s2⟩ := hS; go_simp)⟩) hH ?_
    simp only [Act.put, List.setIfInBounds_toArray, List.set_cons_zero, List.set_cons_succ]
    refine g_take (i := 8) (v := .iface 33 (.pointer (some ⟨m, 0, none⟩))) (by rfl) (by kernel_rfl) (by kernel_rfl) (by kernel_rfl) (by kernel_rfl) (fun _ _ _ h => (by cases h.1)) (Or.inl ⟨by rfl, fun W hS => (by obtain ⟨s0, s2⟩ := hS; go_simp)⟩) hH ?_
    simp only [Act.put, List.setIfInBounds_toArray, List.set_cons_zero, List.set_cons_succ]
    refine g_take (i := 9) (v := .iface 33 (.pointer (some ⟨m, 0, none⟩))) (by rfl) (by kernel_rfl) (by kernel_rfl) (by kernel_rfl) (by kernel_rfl) (fun _ _ _ h => (by cases h.1)) (Or.inl ⟨by rfl, fun W hS => (by obtain ⟨s0, s2⟩ := hS; go_simp)⟩) hH ?_
    simp only [Act.put, List.setIfInBounds_toArray, List.set_cons_zero, List.set_cons_succ]
    refine g_one (i := 10) (by kernel_rfl) (by rfl) (fun K hK => ?_)
    have hm := method_end ⟨m, 0, none⟩ w.drew
    go_simp
    refine HE.out.mono ?_
    rintro e w2 ⟨rfl, hO2, hF2⟩
    have hBs : Blk w2 s 52 (sCells m sc o x.e x.rd cl en) := hF2.keep s _ HA.out.blk HA.out.p.sB (by simp only [bObj, tObj, mObj]; decide)
    have s0 := hBs.cell 0
    have s2 := hBs.cell 2
    unfold sCells at s0 s2
    refine hK.out _ _ (fun _ => ⟨s0, s2⟩) (fun _ => ?_)
    clear hK K
    have HF := Lib.hid (And.intro (EAt.mk hBs hO2 HA.out.p.bs) ((below_drew (Below.refl base w)).trans hF2.low))
    clear hm HA HE hBs hO2 hF2
    refine g_one (i := 11) (by kernel_rfl) (by rfl) (fun K hK => ?_)
    go_simp
    refine hK.out _ _ (fun h => absurd (List.mem_singleton.2 rfl) h) (fun _ => ?_)
    clear hK K
    refine g_done (by kernel_rfl) ⟨by first | rfl | trivial, ?_⟩ _
    go_wp2
    go_ret
    exact ⟨rfl, HF.out.1, HF.out.2⟩
  · rw [if_neg hz, if_neg hz]
    have e1 : decide (x.sl = 0) = false := by simpa using hz
    rw [e1] at hWh
    have HF := Lib.hid (And.intro (EAt.mk h.blk h.d.out h.p.bs) (Below.refl base w))
    clear hz h e1
    go_enter Tryz.func22, Tryz.ntmps22
    go_wp2_with fail
    refine hWh.mono ?_
    rintro e w' ⟨rfl, rfl⟩
    go_wp2
    go_ret
    exact ⟨rfl, HF.out.1, HF.out.2⟩

def closeE (x : Ss) : Int := if x.e ≠ 0 then x.e else endE x
def closeBs (x : Ss) : Bs := if x.e ≠ 0 then x.b else endBs x
theorem EAt.set {w : World} {base s m sc o ck : Nat} {e : Int} {rd : Nat} {cl en : Bool} {st : List Pt} {l : List Ev} (h : EAt w base s m sc o ck e rd cl en st l) (i : Nat) (u : Value) (e' : Int) (rd' : Nat) (cl' en' : Bool) (hc : (sCells m sc o e rd cl en).setIfInBounds i u = sCells m sc o e' rd' cl' en') :
    EAt (w.setCell ⟨s, i, none⟩ u) base s m sc o ck e' rd' cl' en' st l ∧ Below base w (w.setCell ⟨s, i, none⟩ u) := by
  have ht : Tch base ssObj w (w.setCell ⟨s, i, none⟩ u) := (Tch.refl _ _ _).set h.blk h.bs (show ssObj (.cells _ _ _) from .inl rfl) i u
  exact ⟨⟨by rw [← hc]; exact h.blk.set_ i u, h.out.of_ss ht, h.bs⟩, (Below.refl _ _).setCell (p := ⟨s, i, none⟩) h.bs u⟩

set_option maxHeartbeats 4000000 in
theorem sclose_any (w : World) (base B s m sc o ck : Nat) (x : Ss) (en : Bool) (n : Nat) (h : StA w base B s m sc o ck x false en) (hi : BInv x.b n) (hn : n ≤ 100000) (hw : SW base w) :
    Calls Tryz.prog 14 #[.pointer (some ⟨s, 0, none⟩)] w fun e w' => e = .returned (.tuple #[]) ∧ EAt w' base s m sc o ck (closeE x) x.rd true en (closeBs x).st (closeBs x).l ∧ Below base w w' := by
  have c5 := h.blk.cell 5
  have c3 := h.blk.cell 3
  unfold sCells at c5 c3
  have f5 := h.blk.frozen 5
  have hlt := h.blk.lt
  unfold closeE closeBs
  by_cases he : x.e = 0
  · rw [if_neg (by simp [he]), if_neg (by simp [he])]
    rw [he] at c3
    have hC := send_any w base B s m sc o ck x false en n h hi hn hw
    obtain ⟨E, hE⟩ : ∃ E, endE x = E := ⟨_, rfl⟩
    rw [hE] at hC ⊢
    rw [he] at hC
    have HC := Lib.hid hC
    clear h he hE hC
    go_enter Tryz.func14, Tryz.ntmps14
    go_wp2_with fail
    refine HC.out.mono ?_
    rintro e w1 ⟨rfl, hE1, hB1⟩
    have g3 := hE1.blk.cell 3
    have gf3 := hE1.blk.frozen 3
    have gl := hE1.blk.lt
    unfold sCells at g3
    obtain ⟨hE2, hB2⟩ := hE1.set 3 (.int .i64 E) E x.rd false en rfl
    obtain ⟨hE3, hB3⟩ := hE2.set 5 (.bool true) E x.rd true en rfl
    have k5 := hE2.blk.cell 5
    have kf5 := hE2.blk.frozen 5
    have kl := hE2.blk.lt
    unfold sCells at k5
    have HF := Lib.hid (And.intro hE3 ((hB1.trans hB2).trans hB3))
    clear HC hE1 hB1 hE2 hB2 hE3 hB3 c5 c3 f5 hlt
    go_wp2
    go_end0
    exact ⟨rfl, HF.out.1, HF.out.2⟩
  · rw [if_pos he, if_pos he]
    have e0 : (x.e == 0) = false := by rw [beq_eq_false_iff_ne]; exact he
    have hE1 : EAt w base s m sc o ck x.e x.rd false en x.b.st x.b.l := EAt.mk h.blk h.d.out h.p.bs
    obtain ⟨hE3, hB3⟩ := hE1.set 5 (.bool true) x.e x.rd true en rfl
    have HF := Lib.hid (And.intro hE3 hB3)
    clear h he hE1 hE3 hB3
    go_enter Tryz.func14, Tryz.ntmps14
    go_wp2
    go_end0
    exact ⟨rfl, HF.out.1, HF.out.2⟩
end Go.Proofs.YthhhmgkkklopfaaGreatDoor
namespace Go.Proofs.YthhhmgkkklopfaaGreatDoor
open Go.RowKit Go.Maps
set_option maxRecDepth 100000
set_option linter.unusedSimpArgs false
set_option linter.unusedVariables false

set_option maxHeartbeats 4000000 in
theorem snew_any (w : World) (base m : Nat) (hM : MAt w base m mc0 (.pointer none)) (hb : base ≤ w.heap.size) :
    Calls Tryz.prog 12 #[.iface 33 (.pointer (some ⟨m, 0, none⟩))] w fun e w' => ∃ B s sc o ck, e = .returned (.pointer (some ⟨s, 0, none⟩)) ∧ StA w' base B s m sc o ck ss0 false false ∧ Below base w w' := by
  go_enter Tryz.func12, Tryz.ntmps12
  go_wp2_with (first
    | (go_at_call 20; refine (new_any _).mono ?_; rintro e w1 ⟨rfl, rfl⟩))
  have hS1 : ScanAt (w.alloc (.cells #[.int .i64 0, .int .u8 128, .int .u8 191] 74)) w.heap.size 0 128 191 := Blk.new w _ _
  have al1 : Below w.heap.size w (w.alloc (.cells #[.int .i64 0, .int .u8 128, .int .u8 191] 74)) := (Below.refl _ _).alloc (Nat.le_refl _) _
  have hM1 := hM.below al1
  obtain ⟨W0, hW0⟩ : ∃ W0, w.alloc (.cells #[.int .i64 0, .int .u8 128, .int .u8 191] 74) = W0 := ⟨_, rfl⟩
  have hz0 : base ≤ W0.heap.size := Nat.le_trans hb (by rw [← hW0]; simp)
  rw [hW0] at hS1 al1 hM1 ⊢
  go_wp2_with (first
    | (go_at_call 9; refine (cnew_any W0 base hz0).mono ?_; rintro e w2 ⟨ck, rfl, hck, hC2, hb2⟩))
  go_ret
  have hz2 : W0.heap.size ≤ w2.heap.size := hb2.size
  have hS2 := hS1.below hb2 hS1.lt
  have hM2 := hM1.below hb2
  have hT : Below w2.heap.size w2 ((w2.alloc (.cells #[.pointer (some ⟨ck, 0, none⟩), .slice none 0 0] 48)).alloc (.cells (sCells m w.heap.size w2.heap.size 0 0 false false) 52)) := ((Below.refl _ _).alloc (Nat.le_refl _) _).alloc (by simp) _
  have hO := Blk.new w2 48 #[.pointer (some ⟨ck, 0, none⟩), .slice none 0 0]
  have hO3 := hO.alloc (.cells (sCells m w.heap.size w2.heap.size 0 0 false false) 52)
  have hSB := Blk.new (w2.alloc (.cells #[.pointer (some ⟨ck, 0, none⟩), .slice none 0 0] 48)) 52 (sCells m w.heap.size w2.heap.size 0 0 false false)
  have hsz : (w2.alloc (.cells #[.pointer (some ⟨ck, 0, none⟩), .slice none 0 0] 48)).heap.size = w2.heap.size + 1 := by simp
  rw [hsz] at hSB
  refine ⟨((w2.alloc (.cells #[.pointer (some ⟨ck, 0, none⟩), .slice none 0 0] 48)).alloc (.cells (sCells m w.heap.size w2.heap.size 0 0 false false) 52)).heap.size, w2.heap.size + 1, w.heap.size, w2.heap.size, ck, rfl, ?_, ?_⟩
  · refine ⟨hSB, hS2.below hT hS2.lt, .inr ⟨by decide, .pointer none, hM2.below hT, ⟨⟨_, hO3, ERow.nil _ _⟩, hC2.below hT, Nat.le_trans hz0 hz2⟩⟩, ?_⟩
    have := hS1.lt
    exact ⟨hSB.lt, Nat.lt_of_lt_of_le hS2.lt hT.size, by omega, hb, Nat.le_refl _, Nat.le_trans (Nat.le_trans hz0 hz2) hT.size⟩
  · exact ((al1.mono hb).trans (hb2.mono hz0)).trans (hT.mono (Nat.le_trans hz0 hz2))

/-- What a decoder returns. -/
def DEnd (lv : Value) (x : Ss) : Ending := .returned (.tuple #[lv, .int .i64 (closeE x), .int .i64 (x.rd : Int)])

set_option maxHeartbeats 4000000 in
theorem sdecode_any (w : World) (base m : Nat) (v : Value) (bs : List UInt8) (hM : MAt w base m mc0 (.pointer none)) (hb : base ≤ w.heap.size) (hn : bs.length ≤ 50000) (hv : ∀ w', Below base w w' → BRead w' v bs) (hw : SW base w) :
    Calls Tryz.prog 8 #[.iface 33 (.pointer (some ⟨m, 0, none⟩)), v] w fun e w' => ∃ lv, e = DEnd lv (feedG ss0 bs) ∧ ERow w' base lv (closeBs (feedG ss0 bs)).l ∧ Below base w w' := by
  have hx := sinv_feedG bs ss0 0 sinv0
  rw [Nat.zero_add] at hx
  have HX := Lib.hid hx
  have HV := Lib.hid hv
  have HN := Lib.hid hn
  have HWs := Lib.hid hw
  clear hx hv hw hn
  unfold DEnd
  generalize hy : feedG ss0 bs = y at *
  have HY := Lib.hid hy
  clear hy
  obtain ⟨E, hE⟩ : ∃ E, closeE y = E := ⟨_, rfl⟩
  rw [hE]
  have HE := Lib.hid hE
  clear hE
  go_enter Tryz.func8, Tryz.ntmps8
  go_wp2_with (first
    | (go_at_call 12; refine (snew_any _ base m hM hb).mono ?_; rintro e w1 ⟨B, s, sc, o, ck, rfl, hA1, hb1⟩))
  have HB1 := Lib.hid hb1
  have HC := Lib.hid (feed_any w1 base B s m sc o ck ss0 false 0 v bs hA1 sinv0 (by have := HN.out; omega) (fun w' h => HV.out w' (HB1.out.trans h)) (HWs.out.below hb1))
  clear hb1 hA1 hM
  go_wp2_with fail
  refine HC.out.mono ?_
  rintro e w2 ⟨rfl, hA2, hb2⟩
  rw [HY.out] at hA2
  have HB2 := Lib.hid (HB1.out.trans hb2)
  have hD := sclose_any w2 base B s m sc o ck y false (2 * bs.length) hA2 HX.out.b (by have := HN.out; omega) (HWs.out.below HB2.out)
  rw [HE.out] at hD
  have HD := Lib.hid hD
  clear hD
  clear hb2 hA2 HC
  go_wp2_with fail
  refine HD.out.mono ?_
  rintro e w3 ⟨rfl, hE3, hb3⟩
  have HB3 := Lib.hid (HB2.out.trans hb3)
  have b2 := hE3.blk.cell 2
  have b3 := hE3.blk.cell 3
  have b4 := hE3.blk.cell 4
  unfold sCells at b2 b3 b4
  obtain ⟨⟨lv, hO, hR⟩, _, _⟩ := hE3.out
  have o1 := hO.cell 1
  have HR := Lib.hid hR
  clear hE3 hb3 hO hR HD
  have b4' : w3.cell? ⟨s, 4, none⟩ = some (.int .i64 (y.rd : Int)) := b4
  go_wp2
  go_region
  go_wp2
  go_ret3
  exact ⟨lv, rfl, HR.out.below (below_drew (Below.refl _ _)), HB3.out.trans (below_drew (Below.refl _ _))⟩

set_option maxHeartbeats 4000000 in
theorem bdecode_any (w : World) (v : Value) (bs : List UInt8) (hn : bs.length ≤ 50000) (hv : BRead w v bs) (hw : Nm.StdW w) :
    Calls Tryz.prog 5 #[v] w fun e w' => ∃ lv, e = DEnd lv (feedG ss0 bs) ∧ ERow w' w.heap.size lv (closeBs (feedG ss0 bs)).l ∧ Below w.heap.size w w' := by
  have al : Below w.heap.size w (w.alloc (.cells (mCells mc0 (.slice none 0 0) (.pointer none)) 39)) := (Below.refl _ _).alloc (Nat.le_refl _) _
  have hM : MAt (w.alloc (.cells (mCells mc0 (.slice none 0 0) (.pointer none)) 39)) w.heap.size w.heap.size mc0 (.pointer none) := ⟨⟨_, Blk.new _ _ _, ORow.nil _ _ _⟩, Nat.le_refl _⟩
  have hC := sdecode_any _ w.heap.size w.heap.size v bs hM al.size hn (fun w' h => hv.below (al.trans h)) ⟨w, hw, Nat.le_refl _, al⟩
  have HA := Lib.hid al
  unfold DEnd at hC ⊢
  obtain ⟨E, hE⟩ : ∃ E, closeE (feedG ss0 bs) = E := ⟨_, rfl⟩
  obtain ⟨R, hR⟩ : ∃ R, ((feedG ss0 bs).rd : Int) = R := ⟨_, rfl⟩
  rw [hE, hR] at hC ⊢
  clear hM al hw hv hE hR
  unfold mCells mc0 at hC
  go_enter Tryz.func5, Tryz.ntmps5
  go_wp2_with fail
  refine hC.mono ?_
  rintro e w1 ⟨lv, rfl, hRow, hb1⟩
  have HR := Lib.hid hRow
  have HB := Lib.hid (HA.out.trans hb1)
  clear hRow hb1 hC HA
  go_wp2
  go_ret3
  exact ⟨lv, rfl, HR.out, HB.out⟩
end Go.Proofs.YthhhmgkkklopfaaGreatDoor

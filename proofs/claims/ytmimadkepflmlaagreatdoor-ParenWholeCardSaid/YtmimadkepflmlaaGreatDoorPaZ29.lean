/-
  paren: the first byte of a token.
-/
import Derived.Test.YtmimadkepflmlaaGreatDoorPaZ28
namespace Go.Proofs.YtmimadkepflmlaaGreatDoor
open Go.RowKit Go.Maps
set_option maxRecDepth 100000
set_option linter.unusedSimpArgs false
set_option linter.unusedVariables false
set_option linter.unusedSectionVars false
set_option linter.unusedSectionVars false
variable [Tab] [Fo]

set_option maxHeartbeats 8000000 in
theorem begin_59 (w : World) (base b2 U m o ck : Nat) (s : Ps) (qp av : Value) (A : Nat → Prop) (b : UInt8) (h : PX w base b2 U m o ck s qp av A) (hw4 : s.m.wi ≠ 4) (hk : kindI (topI s.m.op)) (hd : 0 ≤ s.m.du ∧ s.m.du ≤ 7) (hne : s.m.op ≠ []) (hne2 : endP s.m = true → s.m.op.dropLast ≠ []) (hnm : s.m.nm.size ≤ 1000) (hop : s.m.op.length ≤ 100000) (hg : Good s.st) (hl : s.l.length ≤ 1000000) (hw : SW base w) (hB : b.toNat = 59)  :
    Calls Tryz.prog 168 #[.pointer (some ⟨m, 0, none⟩), .int .u8 (b.toNat : Int), .pointer (some ⟨o, 0, none⟩)] w (PPo w base b2 U m o ck (beginP s b)) := by
  have hb : base ≤ w.heap.size := Nat.le_trans h.b2.1 h.b2.2
  obtain ⟨_, c0, c1, _, _, _, _, c7, _⟩ := h.mc.cells
  have f0 := h.mc.frz 0
  have f1 := h.mc.frz 1
  have hml := h.mc.lt
  have hb0 : Below w.heap.size w w := Below.refl _ _
  have HB := Lib.hid (fun W (h2 : Below w.heap.size w W) => h.below h2)
  have HI := Lib.hid (fun W (h2 : Below w.heap.size w W) => inner_any W base m s.m _ qp av (h.below h2).mc hne)
  have HD := Lib.hid (fun W (h2 : Below w.heap.size w W) => endDue_any W base m s.m _ qp av (h.below h2).mc hne)
  have HA := Lib.hid (fun W (h2 : Below w.heap.size w W) => anyDue_any W base m s.m _ qp av (h.below h2).mc hne)
  have HG := Lib.hid (fun W (h2 : Below w.heap.size w W) => goes_any W m 7 s.m.nm b (h2.cell (p := ⟨m, 7, none⟩) hml |>.trans c7) (Nat.lt_of_lt_of_le hml h2.size) hnm)
  have HSW := Lib.hid (fun W (h2 : Below w.heap.size w W) => hw.below (h2.mono hb))
  rw [show beginP s b = ⟨{ s with m := { s.m with wi := 1 } }, 0⟩ from by unfold beginP; simp [hB]]
  have z59 : ((b.toNat : Int) == 59) = true := pub_t (b := b) (n := 59) (by omega)
  have z34 : ((b.toNat : Int) == 34) = false := pub_f (b := b) (n := 34) (by omega)
  have z41 : ((b.toNat : Int) == 41) = false := pub_f (b := b) (n := 41) (by omega)
  have z64 : ((b.toNat : Int) == 64) = false := pub_f (b := b) (n := 64) (by omega)
  have z35 : ((b.toNat : Int) == 35) = false := pub_f (b := b) (n := 35) (by omega)
  have z40 : ((b.toNat : Int) == 40) = false := pub_f (b := b) (n := 40) (by omega)
  clear h hw c7 hB
  go_enter Tryz.func168, Tryz.ntmps168
  have hP := HB.out _ hb0
  obtain ⟨_, d0, d1, _⟩ := hP.mc.cells
  have fz := hP.mc.frz 0
  have hl1 := hP.mc.lt
  have hM2 := hP.mc.set 0 (.int .i64 1) (M' := { s.m with wi := 1 }) (fun ov => rfl) rfl
  have t2 := hP.mc.touch 0 (.int .i64 1)
  have hP2 := hP.pm (t2.wide fun _ => pm_of) hM2 rfl (fun hh => absurd hh (by simp))
  have HF : Hid (PPo w base b2 U m o ck ⟨{ s with m := { s.m with wi := 1 } }, 0⟩ (.returned (.int .i64 0)) _) := Lib.hid ⟨rfl, ⟨_, _, _, hP2⟩, (Tch.of_below hb0).trans (t2.wide fun _ => p_mo)⟩
  clear hP hM2 t2 hP2 hb0
  clear HI HD HA HG HB HSW
  go_wp2
  go_ret
  exact HF.out

set_option maxHeartbeats 8000000 in
theorem begin_34 (w : World) (base b2 U m o ck : Nat) (s : Ps) (qp av : Value) (A : Nat → Prop) (b : UInt8) (h : PX w base b2 U m o ck s qp av A) (hw4 : s.m.wi ≠ 4) (hk : kindI (topI s.m.op)) (hd : 0 ≤ s.m.du ∧ s.m.du ≤ 7) (hne : s.m.op ≠ []) (hne2 : endP s.m = true → s.m.op.dropLast ≠ []) (hnm : s.m.nm.size ≤ 1000) (hop : s.m.op.length ≤ 100000) (hg : Good s.st) (hl : s.l.length ≤ 1000000) (hw : SW base w) (hB : b.toNat = 34)  :
    Calls Tryz.prog 168 #[.pointer (some ⟨m, 0, none⟩), .int .u8 (b.toNat : Int), .pointer (some ⟨o, 0, none⟩)] w (PPo w base b2 U m o ck (beginP s b)) := by
  have hb : base ≤ w.heap.size := Nat.le_trans h.b2.1 h.b2.2
  obtain ⟨_, c0, c1, _, _, _, _, c7, _⟩ := h.mc.cells
  have f0 := h.mc.frz 0
  have f1 := h.mc.frz 1
  have hml := h.mc.lt
  have hb0 : Below w.heap.size w w := Below.refl _ _
  have HB := Lib.hid (fun W (h2 : Below w.heap.size w W) => h.below h2)
  have HI := Lib.hid (fun W (h2 : Below w.heap.size w W) => inner_any W base m s.m _ qp av (h.below h2).mc hne)
  have HD := Lib.hid (fun W (h2 : Below w.heap.size w W) => endDue_any W base m s.m _ qp av (h.below h2).mc hne)
  have HA := Lib.hid (fun W (h2 : Below w.heap.size w W) => anyDue_any W base m s.m _ qp av (h.below h2).mc hne)
  have HG := Lib.hid (fun W (h2 : Below w.heap.size w W) => goes_any W m 7 s.m.nm b (h2.cell (p := ⟨m, 7, none⟩) hml |>.trans c7) (Nat.lt_of_lt_of_le hml h2.size) hnm)
  have HSW := Lib.hid (fun W (h2 : Below w.heap.size w W) => hw.below (h2.mono hb))
  rw [show beginP s b = stringP s from by unfold beginP; simp [hB]]
  have z59 : ((b.toNat : Int) == 59) = false := pub_f (b := b) (n := 59) (by omega)
  have z34 : ((b.toNat : Int) == 34) = true := pub_t (b := b) (n := 34) (by omega)
  have z41 : ((b.toNat : Int) == 41) = false := pub_f (b := b) (n := 41) (by omega)
  have z64 : ((b.toNat : Int) == 64) = false := pub_f (b := b) (n := 64) (by omega)
  have z35 : ((b.toNat : Int) == 35) = false := pub_f (b := b) (n := 35) (by omega)
  have z40 : ((b.toNat : Int) == 40) = false := pub_f (b := b) (n := 40) (by omega)
  clear h hw c7 hB
  go_enter Tryz.func168, Tryz.ntmps168
  have hP := HB.out _ hb0
  have hw2 := HSW.out _ hb0
  have HTT := Lib.hid (Tch.of_below (base := base) (p := pObj) hb0)
  have HC := Lib.hid (beginString_any w base b2 U m o ck s qp av A hP hw2 hk hd hne)
  clear hP hw2 hb0
  clear HI HD HA HG HB HSW
  go_wp2_with fail
  refine HC.out.mono ?_
  intro e w5 hp
  have HF := Lib.hid (hp.from_ HTT.out)
  have he := hp.1
  clear hp
  subst he
  go_wp2
  go_ret
  exact HF.out

set_option maxHeartbeats 8000000 in
theorem begin_41 (w : World) (base b2 U m o ck : Nat) (s : Ps) (qp av : Value) (A : Nat → Prop) (b : UInt8) (h : PX w base b2 U m o ck s qp av A) (hw4 : s.m.wi ≠ 4) (hk : kindI (topI s.m.op)) (hd : 0 ≤ s.m.du ∧ s.m.du ≤ 7) (hne : s.m.op ≠ []) (hne2 : endP s.m = true → s.m.op.dropLast ≠ []) (hnm : s.m.nm.size ≤ 1000) (hop : s.m.op.length ≤ 100000) (hg : Good s.st) (hl : s.l.length ≤ 1000000) (hw : SW base w) (hB : b.toNat = 41) (hE : endP s.m = true) :
    Calls Tryz.prog 168 #[.pointer (some ⟨m, 0, none⟩), .int .u8 (b.toNat : Int), .pointer (some ⟨o, 0, none⟩)] w (PPo w base b2 U m o ck (beginP s b)) := by
  have hb : base ≤ w.heap.size := Nat.le_trans h.b2.1 h.b2.2
  obtain ⟨_, c0, c1, _, _, _, _, c7, _⟩ := h.mc.cells
  have f0 := h.mc.frz 0
  have f1 := h.mc.frz 1
  have hml := h.mc.lt
  have hb0 : Below w.heap.size w w := Below.refl _ _
  have HB := Lib.hid (fun W (h2 : Below w.heap.size w W) => h.below h2)
  have HI := Lib.hid (fun W (h2 : Below w.heap.size w W) => inner_any W base m s.m _ qp av (h.below h2).mc hne)
  have HD := Lib.hid (fun W (h2 : Below w.heap.size w W) => endDue_any W base m s.m _ qp av (h.below h2).mc hne)
  have HA := Lib.hid (fun W (h2 : Below w.heap.size w W) => anyDue_any W base m s.m _ qp av (h.below h2).mc hne)
  have HG := Lib.hid (fun W (h2 : Below w.heap.size w W) => goes_any W m 7 s.m.nm b (h2.cell (p := ⟨m, 7, none⟩) hml |>.trans c7) (Nat.lt_of_lt_of_le hml h2.size) hnm)
  have HSW := Lib.hid (fun W (h2 : Below w.heap.size w W) => hw.below (h2.mono hb))
  rw [show beginP s b = closeP s from by unfold beginP; simp [hB, hE]]
  have z59 : ((b.toNat : Int) == 59) = false := pub_f (b := b) (n := 59) (by omega)
  have z34 : ((b.toNat : Int) == 34) = false := pub_f (b := b) (n := 34) (by omega)
  have z41 : ((b.toNat : Int) == 41) = true := pub_t (b := b) (n := 41) (by omega)
  have z64 : ((b.toNat : Int) == 64) = false := pub_f (b := b) (n := 64) (by omega)
  have z35 : ((b.toNat : Int) == 35) = false := pub_f (b := b) (n := 35) (by omega)
  have z40 : ((b.toNat : Int) == 40) = false := pub_f (b := b) (n := 40) (by omega)
  rw [hE] at HD
  clear h hw c7 hB
  go_enter Tryz.func168, Tryz.ntmps168
  go_wp2_with fail
  refine (HD.out _ (by first | exact hb0 | exact below_drew hb0)).mono ?_
  rintro e W1 ⟨rfl, n1, hn1⟩
  have hb1 : Below w.heap.size w W1 := by rw [hn1]; exact below_drewN (by first | exact hb0 | exact below_drew hb0) n1
  clear hn1
  have hP := HB.out _ hb1
  have hw2 := HSW.out _ hb1
  have HTT := Lib.hid (Tch.of_below (base := base) (p := pObj) hb1)
  have HC := Lib.hid (closeInner_any W1 base b2 U m o ck s qp av A hP hne (hne2 hE) hg hw2 hl)
  clear hP hw2 hb0 hb1
  clear HI HD HA HG HB HSW
  go_wp2_with fail
  refine HC.out.mono ?_
  intro e w5 hp
  have HF := Lib.hid (hp.from_ HTT.out)
  have he := hp.1
  clear hp
  subst he
  go_wp2
  go_ret
  exact HF.out

set_option maxHeartbeats 8000000 in
theorem begin_41n_0 (w : World) (base b2 U m o ck : Nat) (s : Ps) (qp av : Value) (A : Nat → Prop) (b : UInt8) (h : PX w base b2 U m o ck s qp av A) (hw4 : s.m.wi ≠ 4) (hk : kindI (topI s.m.op)) (hd : 0 ≤ s.m.du ∧ s.m.du ≤ 7) (hne : s.m.op ≠ []) (hne2 : endP s.m = true → s.m.op.dropLast ≠ []) (hnm : s.m.nm.size ≤ 1000) (hop : s.m.op.length ≤ 100000) (hg : Good s.st) (hl : s.l.length ≤ 1000000) (hw : SW base w) (hB : b.toNat = 41) (hE : endP s.m = false) (hG : mayB1 s.m.nm b = false) :
    Calls Tryz.prog 168 #[.pointer (some ⟨m, 0, none⟩), .int .u8 (b.toNat : Int), .pointer (some ⟨o, 0, none⟩)] w (PPo w base b2 U m o ck (beginP s b)) := by
  have hb : base ≤ w.heap.size := Nat.le_trans h.b2.1 h.b2.2
  obtain ⟨_, c0, c1, _, _, _, _, c7, _⟩ := h.mc.cells
  have f0 := h.mc.frz 0
  have f1 := h.mc.frz 1
  have hml := h.mc.lt
  have hb0 : Below w.heap.size w w := Below.refl _ _
  have HB := Lib.hid (fun W (h2 : Below w.heap.size w W) => h.below h2)
  have HI := Lib.hid (fun W (h2 : Below w.heap.size w W) => inner_any W base m s.m _ qp av (h.below h2).mc hne)
  have HD := Lib.hid (fun W (h2 : Below w.heap.size w W) => endDue_any W base m s.m _ qp av (h.below h2).mc hne)
  have HA := Lib.hid (fun W (h2 : Below w.heap.size w W) => anyDue_any W base m s.m _ qp av (h.below h2).mc hne)
  have HG := Lib.hid (fun W (h2 : Below w.heap.size w W) => goes_any W m 7 s.m.nm b (h2.cell (p := ⟨m, 7, none⟩) hml |>.trans c7) (Nat.lt_of_lt_of_le hml h2.size) hnm)
  have HSW := Lib.hid (fun W (h2 : Below w.heap.size w W) => hw.below (h2.mono hb))
  rw [show beginP s b = ⟨s, 2⟩ from by unfold beginP; simp [hB, hE, hG]]
  have z59 : ((b.toNat : Int) == 59) = false := pub_f (b := b) (n := 59) (by omega)
  have z34 : ((b.toNat : Int) == 34) = false := pub_f (b := b) (n := 34) (by omega)
  have z41 : ((b.toNat : Int) == 41) = true := pub_t (b := b) (n := 41) (by omega)
  have z64 : ((b.toNat : Int) == 64) = false := pub_f (b := b) (n := 64) (by omega)
  have z35 : ((b.toNat : Int) == 35) = false := pub_f (b := b) (n := 35) (by omega)
  have z40 : ((b.toNat : Int) == 40) = false := pub_f (b := b) (n := 40) (by omega)
  rw [hE] at HD
  rw [hG] at HG
  clear h hw c7 hB
  go_enter Tryz.func168, Tryz.ntmps168
  go_wp2_with fail
  refine (HD.out _ (by first | exact hb0 | exact below_drew hb0)).mono ?_
  rintro e W1 ⟨rfl, n1, hn1⟩
  have hb1 : Below w.heap.size w W1 := by rw [hn1]; exact below_drewN (by first | exact hb0 | exact below_drew hb0) n1
  clear hn1
  go_wp2_with fail
  refine (HG.out _ (by first | exact hb1 | exact below_drew hb1)).mono ?_
  rintro e W2 ⟨rfl, hq2⟩
  have hb2 : Below w.heap.size w W2 := Below.trans (by first | exact hb1 | exact below_drew hb1) (hq2.mono (Below.size (by first | exact hb1 | exact below_drew hb1)))
  clear hq2
  have hP := HB.out _ hb2
  have HF : Hid (PPo w base b2 U m o ck ⟨s, 2⟩ (.returned (.int .i64 2)) W2) := Lib.hid ⟨rfl, ⟨_, _, _, hP⟩, Tch.of_below hb2⟩
  clear hP hb0 hb1 hb2
  clear HI HD HA HG HB HSW
  go_wp2
  go_ret
  exact HF.out

set_option maxHeartbeats 8000000 in
theorem begin_41n_1 (w : World) (base b2 U m o ck : Nat) (s : Ps) (qp av : Value) (A : Nat → Prop) (b : UInt8) (h : PX w base b2 U m o ck s qp av A) (hw4 : s.m.wi ≠ 4) (hk : kindI (topI s.m.op)) (hd : 0 ≤ s.m.du ∧ s.m.du ≤ 7) (hne : s.m.op ≠ []) (hne2 : endP s.m = true → s.m.op.dropLast ≠ []) (hnm : s.m.nm.size ≤ 1000) (hop : s.m.op.length ≤ 100000) (hg : Good s.st) (hl : s.l.length ≤ 1000000) (hw : SW base w) (hB : b.toNat = 41) (hE : endP s.m = false) (hG : mayB1 s.m.nm b = true) (hA : anyP s.m = false) :
    Calls Tryz.prog 168 #[.pointer (some ⟨m, 0, none⟩), .int .u8 (b.toNat : Int), .pointer (some ⟨o, 0, none⟩)] w (PPo w base b2 U m o ck (beginP s b)) := by
  have hb : base ≤ w.heap.size := Nat.le_trans h.b2.1 h.b2.2
  obtain ⟨_, c0, c1, _, _, _, _, c7, _⟩ := h.mc.cells
  have f0 := h.mc.frz 0
  have f1 := h.mc.frz 1
  have hml := h.mc.lt
  have hb0 : Below w.heap.size w w := Below.refl _ _
  have HB := Lib.hid (fun W (h2 : Below w.heap.size w W) => h.below h2)
  have HI := Lib.hid (fun W (h2 : Below w.heap.size w W) => inner_any W base m s.m _ qp av (h.below h2).mc hne)
  have HD := Lib.hid (fun W (h2 : Below w.heap.size w W) => endDue_any W base m s.m _ qp av (h.below h2).mc hne)
  have HA := Lib.hid (fun W (h2 : Below w.heap.size w W) => anyDue_any W base m s.m _ qp av (h.below h2).mc hne)
  have HG := Lib.hid (fun W (h2 : Below w.heap.size w W) => goes_any W m 7 s.m.nm b (h2.cell (p := ⟨m, 7, none⟩) hml |>.trans c7) (Nat.lt_of_lt_of_le hml h2.size) hnm)
  have HSW := Lib.hid (fun W (h2 : Below w.heap.size w W) => hw.below (h2.mono hb))
  rw [show beginP s b = ⟨s, 2⟩ from by unfold beginP; simp [hB, hE, hG, hA]]
  have z59 : ((b.toNat : Int) == 59) = false := pub_f (b := b) (n := 59) (by omega)
  have z34 : ((b.toNat : Int) == 34) = false := pub_f (b := b) (n := 34) (by omega)
  have z41 : ((b.toNat : Int) == 41) = true := pub_t (b := b) (n := 41) (by omega)
  have z64 : ((b.toNat : Int) == 64) = false := pub_f (b := b) (n := 64) (by omega)
  have z35 : ((b.toNat : Int) == 35) = false := pub_f (b := b) (n := 35) (by omega)
  have z40 : ((b.toNat : Int) == 40) = false := pub_f (b := b) (n := 40) (by omega)
  rw [hE] at HD
  rw [hG] at HG
  rw [hA] at HA
  clear h hw c7 hB
  go_enter Tryz.func168, Tryz.ntmps168
  go_wp2_with fail
  refine (HD.out _ (by first | exact hb0 | exact below_drew hb0)).mono ?_
  rintro e W1 ⟨rfl, n1, hn1⟩
  have hb1 : Below w.heap.size w W1 := by rw [hn1]; exact below_drewN (by first | exact hb0 | exact below_drew hb0) n1
  clear hn1
  go_wp2_with fail
  refine (HG.out _ (by first | exact hb1 | exact below_drew hb1)).mono ?_
  rintro e W2 ⟨rfl, hq2⟩
  have hb2 : Below w.heap.size w W2 := Below.trans (by first | exact hb1 | exact below_drew hb1) (hq2.mono (Below.size (by first | exact hb1 | exact below_drew hb1)))
  clear hq2
  go_wp2_with fail
  refine (HA.out _ (by first | exact hb2 | exact below_drew hb2)).mono ?_
  rintro e W3 ⟨rfl, n3, hn3⟩
  have hb3 : Below w.heap.size w W3 := by rw [hn3]; exact below_drewN (by first | exact hb2 | exact below_drew hb2) n3
  clear hn3
  have hP := HB.out _ hb3
  have HF : Hid (PPo w base b2 U m o ck ⟨s, 2⟩ (.returned (.int .i64 2)) W3) := Lib.hid ⟨rfl, ⟨_, _, _, hP⟩, Tch.of_below hb3⟩
  clear hP hb0 hb1 hb2 hb3
  clear HI HD HA HG HB HSW
  go_wp2
  go_ret
  exact HF.out

set_option maxHeartbeats 8000000 in
theorem begin_41n_2 (w : World) (base b2 U m o ck : Nat) (s : Ps) (qp av : Value) (A : Nat → Prop) (b : UInt8) (h : PX w base b2 U m o ck s qp av A) (hw4 : s.m.wi ≠ 4) (hk : kindI (topI s.m.op)) (hd : 0 ≤ s.m.du ∧ s.m.du ≤ 7) (hne : s.m.op ≠ []) (hne2 : endP s.m = true → s.m.op.dropLast ≠ []) (hnm : s.m.nm.size ≤ 1000) (hop : s.m.op.length ≤ 100000) (hg : Good s.st) (hl : s.l.length ≤ 1000000) (hw : SW base w) (hB : b.toNat = 41) (hE : endP s.m = false) (hG : mayB1 s.m.nm b = true) (hA : anyP s.m = true) :
    Calls Tryz.prog 168 #[.pointer (some ⟨m, 0, none⟩), .int .u8 (b.toNat : Int), .pointer (some ⟨o, 0, none⟩)] w (PPo w base b2 U m o ck (beginP s b)) := by
  have hb : base ≤ w.heap.size := Nat.le_trans h.b2.1 h.b2.2
  obtain ⟨_, c0, c1, _, _, _, _, c7, _⟩ := h.mc.cells
  have f0 := h.mc.frz 0
  have f1 := h.mc.frz 1
  have hml := h.mc.lt
  have hb0 : Below w.heap.size w w := Below.refl _ _
  have HB := Lib.hid (fun W (h2 : Below w.heap.size w W) => h.below h2)
  have HI := Lib.hid (fun W (h2 : Below w.heap.size w W) => inner_any W base m s.m _ qp av (h.below h2).mc hne)
  have HD := Lib.hid (fun W (h2 : Below w.heap.size w W) => endDue_any W base m s.m _ qp av (h.below h2).mc hne)
  have HA := Lib.hid (fun W (h2 : Below w.heap.size w W) => anyDue_any W base m s.m _ qp av (h.below h2).mc hne)
  have HG := Lib.hid (fun W (h2 : Below w.heap.size w W) => goes_any W m 7 s.m.nm b (h2.cell (p := ⟨m, 7, none⟩) hml |>.trans c7) (Nat.lt_of_lt_of_le hml h2.size) hnm)
  have HSW := Lib.hid (fun W (h2 : Below w.heap.size w W) => hw.below (h2.mono hb))
  rw [show beginP s b = addP { s with m := { s.m with wi := 3 } } b from by unfold beginP; simp [hB, hE, hG, hA]]
  have z59 : ((b.toNat : Int) == 59) = false := pub_f (b := b) (n := 59) (by omega)
  have z34 : ((b.toNat : Int) == 34) = false := pub_f (b := b) (n := 34) (by omega)
  have z41 : ((b.toNat : Int) == 41) = true := pub_t (b := b) (n := 41) (by omega)
  have z64 : ((b.toNat : Int) == 64) = false := pub_f (b := b) (n := 64) (by omega)
  have z35 : ((b.toNat : Int) == 35) = false := pub_f (b := b) (n := 35) (by omega)
  have z40 : ((b.toNat : Int) == 40) = false := pub_f (b := b) (n := 40) (by omega)
  rw [hE] at HD
  rw [hG] at HG
  rw [hA] at HA
  clear h hw c7 hB
  go_enter Tryz.func168, Tryz.ntmps168
  go_wp2_with fail
  refine (HD.out _ (by first | exact hb0 | exact below_drew hb0)).mono ?_
  rintro e W1 ⟨rfl, n1, hn1⟩
  have hb1 : Below w.heap.size w W1 := by rw [hn1]; exact below_drewN (by first | exact hb0 | exact below_drew hb0) n1
  clear hn1
  go_wp2_with fail
  refine (HG.out _ (by first | exact hb1 | exact below_drew hb1)).mono ?_
  rintro e W2 ⟨rfl, hq2⟩
  have hb2 : Below w.heap.size w W2 := Below.trans (by first | exact hb1 | exact below_drew hb1) (hq2.mono (Below.size (by first | exact hb1 | exact below_drew hb1)))
  clear hq2
  go_wp2_with fail
  refine (HA.out _ (by first | exact hb2 | exact below_drew hb2)).mono ?_
  rintro e W3 ⟨rfl, n3, hn3⟩
  have hb3 : Below w.heap.size w W3 := by rw [hn3]; exact below_drewN (by first | exact hb2 | exact below_drew hb2) n3
  clear hn3
  have hP := HB.out _ hb3
  obtain ⟨_, d0, d1, _⟩ := hP.mc.cells
  have fz := hP.mc.frz 0
  have hl1 := hP.mc.lt
  have hM2 := hP.mc.set 0 (.int .i64 3) (M' := { s.m with wi := 3 }) (fun ov => rfl) rfl
  have t2 := hP.mc.touch 0 (.int .i64 3)
  have hP2 := hP.pm (t2.wide fun _ => pm_of) hM2 rfl (fun hh => absurd hh (by simp))
  have HTT := Lib.hid ((Tch.of_below (base := base) (p := pObj) hb3).trans (t2.wide (q := pObj) fun _ => p_mo))
  have HC := Lib.hid (add_anyP _ base b2 U m o ck _ qp av A b hP2 hnm)
  clear hP hM2 t2 hP2 hb0 hb1 hb2 hb3
  clear HI HD HA HG HB HSW
  go_wp2_with fail
  refine HC.out.mono ?_
  intro e w5 hp
  have HF := Lib.hid (hp.from_ HTT.out)
  have he := hp.1
  clear hp
  subst he
  go_wp2
  go_ret
  exact HF.out

set_option maxHeartbeats 8000000 in
theorem begin_64 (w : World) (base b2 U m o ck : Nat) (s : Ps) (qp av : Value) (A : Nat → Prop) (b : UInt8) (h : PX w base b2 U m o ck s qp av A) (hw4 : s.m.wi ≠ 4) (hk : kindI (topI s.m.op)) (hd : 0 ≤ s.m.du ∧ s.m.du ≤ 7) (hne : s.m.op ≠ []) (hne2 : endP s.m = true → s.m.op.dropLast ≠ []) (hnm : s.m.nm.size ≤ 1000) (hop : s.m.op.length ≤ 100000) (hg : Good s.st) (hl : s.l.length ≤ 1000000) (hw : SW base w) (hB : b.toNat = 64) (hU : s.m.du = 3) :
    Calls Tryz.prog 168 #[.pointer (some ⟨m, 0, none⟩), .int .u8 (b.toNat : Int), .pointer (some ⟨o, 0, none⟩)] w (PPo w base b2 U m o ck (beginP s b)) := by
  have hb : base ≤ w.heap.size := Nat.le_trans h.b2.1 h.b2.2
  obtain ⟨_, c0, c1, _, _, _, _, c7, _⟩ := h.mc.cells
  have f0 := h.mc.frz 0
  have f1 := h.mc.frz 1
  have hml := h.mc.lt
  have hb0 : Below w.heap.size w w := Below.refl _ _
  have HB := Lib.hid (fun W (h2 : Below w.heap.size w W) => h.below h2)
  have HI := Lib.hid (fun W (h2 : Below w.heap.size w W) => inner_any W base m s.m _ qp av (h.below h2).mc hne)
  have HD := Lib.hid (fun W (h2 : Below w.heap.size w W) => endDue_any W base m s.m _ qp av (h.below h2).mc hne)
  have HA := Lib.hid (fun W (h2 : Below w.heap.size w W) => anyDue_any W base m s.m _ qp av (h.below h2).mc hne)
  have HG := Lib.hid (fun W (h2 : Below w.heap.size w W) => goes_any W m 7 s.m.nm b (h2.cell (p := ⟨m, 7, none⟩) hml |>.trans c7) (Nat.lt_of_lt_of_le hml h2.size) hnm)
  have HSW := Lib.hid (fun W (h2 : Below w.heap.size w W) => hw.below (h2.mono hb))
  rw [show beginP s b = ⟨{ s with m := { s.m with du := 4 } }, 0⟩ from by unfold beginP; simp [hB, hU]]
  have z59 : ((b.toNat : Int) == 59) = false := pub_f (b := b) (n := 59) (by omega)
  have z34 : ((b.toNat : Int) == 34) = false := pub_f (b := b) (n := 34) (by omega)
  have z41 : ((b.toNat : Int) == 41) = false := pub_f (b := b) (n := 41) (by omega)
  have z64 : ((b.toNat : Int) == 64) = true := pub_t (b := b) (n := 64) (by omega)
  have z35 : ((b.toNat : Int) == 35) = false := pub_f (b := b) (n := 35) (by omega)
  have z40 : ((b.toNat : Int) == 40) = false := pub_f (b := b) (n := 40) (by omega)
  clear h hw c7 hB
  have zd : (s.m.du == 3) = true := by rw [hU]; rfl
  go_enter Tryz.func168, Tryz.ntmps168
  have hP := HB.out _ hb0
  obtain ⟨_, d0, d1, _⟩ := hP.mc.cells
  have fz := hP.mc.frz 1
  have hl1 := hP.mc.lt
  have hM2 := hP.mc.set 1 (.int .i64 4) (M' := { s.m with du := 4 }) (fun ov => rfl) rfl
  have t2 := hP.mc.touch 1 (.int .i64 4)
  have hP2 := hP.pm (t2.wide fun _ => pm_of) hM2 rfl (fun hh => absurd hh hw4)
  have HF : Hid (PPo w base b2 U m o ck ⟨{ s with m := { s.m with du := 4 } }, 0⟩ (.returned (.int .i64 0)) _) := Lib.hid ⟨rfl, ⟨_, _, _, hP2⟩, (Tch.of_below hb0).trans (t2.wide fun _ => p_mo)⟩
  clear hP hM2 t2 hP2 hb0
  clear HI HD HA HG HB HSW
  go_wp2
  go_ret
  exact HF.out

set_option maxHeartbeats 8000000 in
theorem begin_40 (w : World) (base b2 U m o ck : Nat) (s : Ps) (qp av : Value) (A : Nat → Prop) (b : UInt8) (h : PX w base b2 U m o ck s qp av A) (hw4 : s.m.wi ≠ 4) (hk : kindI (topI s.m.op)) (hd : 0 ≤ s.m.du ∧ s.m.du ≤ 7) (hne : s.m.op ≠ []) (hne2 : endP s.m = true → s.m.op.dropLast ≠ []) (hnm : s.m.nm.size ≤ 1000) (hop : s.m.op.length ≤ 100000) (hg : Good s.st) (hl : s.l.length ≤ 1000000) (hw : SW base w) (hB : b.toNat = 40) (hA : anyP s.m = true) :
    Calls Tryz.prog 168 #[.pointer (some ⟨m, 0, none⟩), .int .u8 (b.toNat : Int), .pointer (some ⟨o, 0, none⟩)] w (PPo w base b2 U m o ck (beginP s b)) := by
  have hb : base ≤ w.heap.size := Nat.le_trans h.b2.1 h.b2.2
  obtain ⟨_, c0, c1, _, _, _, _, c7, _⟩ := h.mc.cells
  have f0 := h.mc.frz 0
  have f1 := h.mc.frz 1
  have hml := h.mc.lt
  have hb0 : Below w.heap.size w w := Below.refl _ _
  have HB := Lib.hid (fun W (h2 : Below w.heap.size w W) => h.below h2)
  have HI := Lib.hid (fun W (h2 : Below w.heap.size w W) => inner_any W base m s.m _ qp av (h.below h2).mc hne)
  have HD := Lib.hid (fun W (h2 : Below w.heap.size w W) => endDue_any W base m s.m _ qp av (h.below h2).mc hne)
  have HA := Lib.hid (fun W (h2 : Below w.heap.size w W) => anyDue_any W base m s.m _ qp av (h.below h2).mc hne)
  have HG := Lib.hid (fun W (h2 : Below w.heap.size w W) => goes_any W m 7 s.m.nm b (h2.cell (p := ⟨m, 7, none⟩) hml |>.trans c7) (Nat.lt_of_lt_of_le hml h2.size) hnm)
  have HSW := Lib.hid (fun W (h2 : Below w.heap.size w W) => hw.below (h2.mono hb))
  rw [show beginP s b = innerP s 5 from by unfold beginP; simp [hB, hA]]
  have z59 : ((b.toNat : Int) == 59) = false := pub_f (b := b) (n := 59) (by omega)
  have z34 : ((b.toNat : Int) == 34) = false := pub_f (b := b) (n := 34) (by omega)
  have z41 : ((b.toNat : Int) == 41) = false := pub_f (b := b) (n := 41) (by omega)
  have z64 : ((b.toNat : Int) == 64) = false := pub_f (b := b) (n := 64) (by omega)
  have z35 : ((b.toNat : Int) == 35) = false := pub_f (b := b) (n := 35) (by omega)
  have z40 : ((b.toNat : Int) == 40) = true := pub_t (b := b) (n := 40) (by omega)
  rw [hA] at HA
  clear h hw c7 hB
  go_enter Tryz.func168, Tryz.ntmps168
  go_wp2_with fail
  refine (HA.out _ (by first | exact hb0 | exact below_drew hb0)).mono ?_
  rintro e W1 ⟨rfl, n1, hn1⟩
  have hb1 : Below w.heap.size w W1 := by rw [hn1]; exact below_drewN (by first | exact hb0 | exact below_drew hb0) n1
  clear hn1
  have hP := HB.out _ hb1
  have hw2 := HSW.out _ hb1
  have HTT := Lib.hid (Tch.of_below (base := base) (p := pObj) hb1)
  have HC := Lib.hid (openInner_any W1 base b2 U m o ck s qp av A 5 hP hop hg hw2 hl)
  clear hP hw2 hb0 hb1
  clear HI HD HA HG HB HSW
  go_wp2_with fail
  refine HC.out.mono ?_
  intro e w5 hp
  have HF := Lib.hid (hp.from_ HTT.out)
  have he := hp.1
  clear hp
  subst he
  go_wp2
  go_ret
  exact HF.out

set_option maxHeartbeats 8000000 in
theorem begin_40n_0 (w : World) (base b2 U m o ck : Nat) (s : Ps) (qp av : Value) (A : Nat → Prop) (b : UInt8) (h : PX w base b2 U m o ck s qp av A) (hw4 : s.m.wi ≠ 4) (hk : kindI (topI s.m.op)) (hd : 0 ≤ s.m.du ∧ s.m.du ≤ 7) (hne : s.m.op ≠ []) (hne2 : endP s.m = true → s.m.op.dropLast ≠ []) (hnm : s.m.nm.size ≤ 1000) (hop : s.m.op.length ≤ 100000) (hg : Good s.st) (hl : s.l.length ≤ 1000000) (hw : SW base w) (hB : b.toNat = 40) (hA : anyP s.m = false) (hG : mayB1 s.m.nm b = false) :
    Calls Tryz.prog 168 #[.pointer (some ⟨m, 0, none⟩), .int .u8 (b.toNat : Int), .pointer (some ⟨o, 0, none⟩)] w (PPo w base b2 U m o ck (beginP s b)) := by
  have hb : base ≤ w.heap.size := Nat.le_trans h.b2.1 h.b2.2
  obtain ⟨_, c0, c1, _, _, _, _, c7, _⟩ := h.mc.cells
  have f0 := h.mc.frz 0
  have f1 := h.mc.frz 1
  have hml := h.mc.lt
  have hb0 : Below w.heap.size w w := Below.refl _ _
  have HB := Lib.hid (fun W (h2 : Below w.heap.size w W) => h.below h2)
  have HI := Lib.hid (fun W (h2 : Below w.heap.size w W) => inner_any W base m s.m _ qp av (h.below h2).mc hne)
  have HD := Lib.hid (fun W (h2 : Below w.heap.size w W) => endDue_any W base m s.m _ qp av (h.below h2).mc hne)
  have HA := Lib.hid (fun W (h2 : Below w.heap.size w W) => anyDue_any W base m s.m _ qp av (h.below h2).mc hne)
  have HG := Lib.hid (fun W (h2 : Below w.heap.size w W) => goes_any W m 7 s.m.nm b (h2.cell (p := ⟨m, 7, none⟩) hml |>.trans c7) (Nat.lt_of_lt_of_le hml h2.size) hnm)
  have HSW := Lib.hid (fun W (h2 : Below w.heap.size w W) => hw.below (h2.mono hb))
  rw [show beginP s b = ⟨s, 2⟩ from by unfold beginP; simp [hB, hA, hG]]
  have z59 : ((b.toNat : Int) == 59) = false := pub_f (b := b) (n := 59) (by omega)
  have z34 : ((b.toNat : Int) == 34) = false := pub_f (b := b) (n := 34) (by omega)
  have z41 : ((b.toNat : Int) == 41) = false := pub_f (b := b) (n := 41) (by omega)
  have z64 : ((b.toNat : Int) == 64) = false := pub_f (b := b) (n := 64) (by omega)
  have z35 : ((b.toNat : Int) == 35) = false := pub_f (b := b) (n := 35) (by omega)
  have z40 : ((b.toNat : Int) == 40) = true := pub_t (b := b) (n := 40) (by omega)
  rw [hA] at HA
  rw [hG] at HG
  clear h hw c7 hB
  go_enter Tryz.func168, Tryz.ntmps168
  go_wp2_with fail
  refine (HA.out _ (by first | exact hb0 | exact below_drew hb0)).mono ?_
  rintro e W1 ⟨rfl, n1, hn1⟩
  have hb1 : Below w.heap.size w W1 := by rw [hn1]; exact below_drewN (by first | exact hb0 | exact below_drew hb0) n1
  clear hn1
  go_wp2_with fail
  refine (HG.out _ (by first | exact hb1 | exact below_drew hb1)).mono ?_
  rintro e W2 ⟨rfl, hq2⟩
  have hb2 : Below w.heap.size w W2 := Below.trans (by first | exact hb1 | exact below_drew hb1) (hq2.mono (Below.size (by first | exact hb1 | exact below_drew hb1)))
  clear hq2
  have hP := HB.out _ hb2
  have HF : Hid (PPo w base b2 U m o ck ⟨s, 2⟩ (.returned (.int .i64 2)) W2) := Lib.hid ⟨rfl, ⟨_, _, _, hP⟩, Tch.of_below hb2⟩
  clear hP hb0 hb1 hb2
  clear HI HD HA HG HB HSW
  go_wp2
  go_ret
  exact HF.out

set_option maxHeartbeats 8000000 in
theorem begin_40n_1 (w : World) (base b2 U m o ck : Nat) (s : Ps) (qp av : Value) (A : Nat → Prop) (b : UInt8) (h : PX w base b2 U m o ck s qp av A) (hw4 : s.m.wi ≠ 4) (hk : kindI (topI s.m.op)) (hd : 0 ≤ s.m.du ∧ s.m.du ≤ 7) (hne : s.m.op ≠ []) (hne2 : endP s.m = true → s.m.op.dropLast ≠ []) (hnm : s.m.nm.size ≤ 1000) (hop : s.m.op.length ≤ 100000) (hg : Good s.st) (hl : s.l.length ≤ 1000000) (hw : SW base w) (hB : b.toNat = 40) (hA : anyP s.m = false) (hG : mayB1 s.m.nm b = true) :
    Calls Tryz.prog 168 #[.pointer (some ⟨m, 0, none⟩), .int .u8 (b.toNat : Int), .pointer (some ⟨o, 0, none⟩)] w (PPo w base b2 U m o ck (beginP s b)) := by
  have hb : base ≤ w.heap.size := Nat.le_trans h.b2.1 h.b2.2
  obtain ⟨_, c0, c1, _, _, _, _, c7, _⟩ := h.mc.cells
  have f0 := h.mc.frz 0
  have f1 := h.mc.frz 1
  have hml := h.mc.lt
  have hb0 : Below w.heap.size w w := Below.refl _ _
  have HB := Lib.hid (fun W (h2 : Below w.heap.size w W) => h.below h2)
  have HI := Lib.hid (fun W (h2 : Below w.heap.size w W) => inner_any W base m s.m _ qp av (h.below h2).mc hne)
  have HD := Lib.hid (fun W (h2 : Below w.heap.size w W) => endDue_any W base m s.m _ qp av (h.below h2).mc hne)
  have HA := Lib.hid (fun W (h2 : Below w.heap.size w W) => anyDue_any W base m s.m _ qp av (h.below h2).mc hne)
  have HG := Lib.hid (fun W (h2 : Below w.heap.size w W) => goes_any W m 7 s.m.nm b (h2.cell (p := ⟨m, 7, none⟩) hml |>.trans c7) (Nat.lt_of_lt_of_le hml h2.size) hnm)
  have HSW := Lib.hid (fun W (h2 : Below w.heap.size w W) => hw.below (h2.mono hb))
  rw [show beginP s b = ⟨s, 2⟩ from by unfold beginP; simp [hB, hA, hG]]
  have z59 : ((b.toNat : Int) == 59) = false := pub_f (b := b) (n := 59) (by omega)
  have z34 : ((b.toNat : Int) == 34) = false := pub_f (b := b) (n := 34) (by omega)
  have z41 : ((b.toNat : Int) == 41) = false := pub_f (b := b) (n := 41) (by omega)
  have z64 : ((b.toNat : Int) == 64) = false := pub_f (b := b) (n := 64) (by omega)
  have z35 : ((b.toNat : Int) == 35) = false := pub_f (b := b) (n := 35) (by omega)
  have z40 : ((b.toNat : Int) == 40) = true := pub_t (b := b) (n := 40) (by omega)
  rw [hA] at HA
  rw [hG] at HG
  clear h hw c7 hB
  go_enter Tryz.func168, Tryz.ntmps168
  go_wp2_with fail
  refine (HA.out _ (by first | exact hb0 | exact below_drew hb0)).mono ?_
  rintro e W1 ⟨rfl, n1, hn1⟩
  have hb1 : Below w.heap.size w W1 := by rw [hn1]; exact below_drewN (by first | exact hb0 | exact below_drew hb0) n1
  clear hn1
  go_wp2_with fail
  refine (HG.out _ (by first | exact hb1 | exact below_drew hb1)).mono ?_
  rintro e W2 ⟨rfl, hq2⟩
  have hb2 : Below w.heap.size w W2 := Below.trans (by first | exact hb1 | exact below_drew hb1) (hq2.mono (Below.size (by first | exact hb1 | exact below_drew hb1)))
  clear hq2
  go_wp2_with fail
  refine (HA.out _ (by first | exact hb2 | exact below_drew hb2)).mono ?_
  rintro e W3 ⟨rfl, n3, hn3⟩
  have hb3 : Below w.heap.size w W3 := by rw [hn3]; exact below_drewN (by first | exact hb2 | exact below_drew hb2) n3
  clear hn3
  have hP := HB.out _ hb3
  have HF : Hid (PPo w base b2 U m o ck ⟨s, 2⟩ (.returned (.int .i64 2)) W3) := Lib.hid ⟨rfl, ⟨_, _, _, hP⟩, Tch.of_below hb3⟩
  clear hP hb0 hb1 hb2 hb3
  clear HI HD HA HG HB HSW
  go_wp2
  go_ret
  exact HF.out

set_option maxHeartbeats 8000000 in
theorem begin_oth_0 (w : World) (base b2 U m o ck : Nat) (s : Ps) (qp av : Value) (A : Nat → Prop) (b : UInt8) (h : PX w base b2 U m o ck s qp av A) (hw4 : s.m.wi ≠ 4) (hk : kindI (topI s.m.op)) (hd : 0 ≤ s.m.du ∧ s.m.du ≤ 7) (hne : s.m.op ≠ []) (hne2 : endP s.m = true → s.m.op.dropLast ≠ []) (hnm : s.m.nm.size ≤ 1000) (hop : s.m.op.length ≤ 100000) (hg : Good s.st) (hl : s.l.length ≤ 1000000) (hw : SW base w) (hB : ¬ b.toNat = 59 ∧ ¬ b.toNat = 34 ∧ ¬ b.toNat = 41 ∧ ¬ b.toNat = 64 ∧ ¬ b.toNat = 35 ∧ ¬ b.toNat = 40) (hG : mayB1 s.m.nm b = false) :
    Calls Tryz.prog 168 #[.pointer (some ⟨m, 0, none⟩), .int .u8 (b.toNat : Int), .pointer (some ⟨o, 0, none⟩)] w (PPo w base b2 U m o ck (beginP s b)) := by
  have hb : base ≤ w.heap.size := Nat.le_trans h.b2.1 h.b2.2
  obtain ⟨_, c0, c1, _, _, _, _, c7, _⟩ := h.mc.cells
  have f0 := h.mc.frz 0
  have f1 := h.mc.frz 1
  have hml := h.mc.lt
  have hb0 : Below w.heap.size w w := Below.refl _ _
  have HB := Lib.hid (fun W (h2 : Below w.heap.size w W) => h.below h2)
  have HI := Lib.hid (fun W (h2 : Below w.heap.size w W) => inner_any W base m s.m _ qp av (h.below h2).mc hne)
  have HD := Lib.hid (fun W (h2 : Below w.heap.size w W) => endDue_any W base m s.m _ qp av (h.below h2).mc hne)
  have HA := Lib.hid (fun W (h2 : Below w.heap.size w W) => anyDue_any W base m s.m _ qp av (h.below h2).mc hne)
  have HG := Lib.hid (fun W (h2 : Below w.heap.size w W) => goes_any W m 7 s.m.nm b (h2.cell (p := ⟨m, 7, none⟩) hml |>.trans c7) (Nat.lt_of_lt_of_le hml h2.size) hnm)
  have HSW := Lib.hid (fun W (h2 : Below w.heap.size w W) => hw.below (h2.mono hb))
  rw [show beginP s b = ⟨s, 2⟩ from by unfold beginP; simp [hB, hG]]
  obtain ⟨q1, q2, q3, q4, q5, q6⟩ := hB
  have z59 : ((b.toNat : Int) == 59) = false := pub_f (b := b) (n := 59) q1
  have z34 : ((b.toNat : Int) == 34) = false := pub_f (b := b) (n := 34) q2
  have z41 : ((b.toNat : Int) == 41) = false := pub_f (b := b) (n := 41) q3
  have z64 : ((b.toNat : Int) == 64) = false := pub_f (b := b) (n := 64) q4
  have z35 : ((b.toNat : Int) == 35) = false := pub_f (b := b) (n := 35) q5
  have z40 : ((b.toNat : Int) == 40) = false := pub_f (b := b) (n := 40) q6
  clear q1 q2 q3 q4 q5 q6
  rw [hG] at HG
  clear h hw c7
  go_enter Tryz.func168, Tryz.ntmps168
  go_wp2_with fail
  refine (HG.out _ (by first | exact hb0 | exact below_drew hb0)).mono ?_
  rintro e W1 ⟨rfl, hq1⟩
  have hb1 : Below w.heap.size w W1 := Below.trans (by first | exact hb0 | exact below_drew hb0) (hq1.mono (Below.size (by first | exact hb0 | exact below_drew hb0)))
  clear hq1
  have hP := HB.out _ hb1
  have HF : Hid (PPo w base b2 U m o ck ⟨s, 2⟩ (.returned (.int .i64 2)) W1) := Lib.hid ⟨rfl, ⟨_, _, _, hP⟩, Tch.of_below hb1⟩
  clear hP hb0 hb1
  clear HI HD HA HG HB HSW
  go_wp2
  go_ret
  exact HF.out

set_option maxHeartbeats 8000000 in
theorem begin_oth_1 (w : World) (base b2 U m o ck : Nat) (s : Ps) (qp av : Value) (A : Nat → Prop) (b : UInt8) (h : PX w base b2 U m o ck s qp av A) (hw4 : s.m.wi ≠ 4) (hk : kindI (topI s.m.op)) (hd : 0 ≤ s.m.du ∧ s.m.du ≤ 7) (hne : s.m.op ≠ []) (hne2 : endP s.m = true → s.m.op.dropLast ≠ []) (hnm : s.m.nm.size ≤ 1000) (hop : s.m.op.length ≤ 100000) (hg : Good s.st) (hl : s.l.length ≤ 1000000) (hw : SW base w) (hB : ¬ b.toNat = 59 ∧ ¬ b.toNat = 34 ∧ ¬ b.toNat = 41 ∧ ¬ b.toNat = 64 ∧ ¬ b.toNat = 35 ∧ ¬ b.toNat = 40) (hG : mayB1 s.m.nm b = true) (hA : anyP s.m = false) :
    Calls Tryz.prog 168 #[.pointer (some ⟨m, 0, none⟩), .int .u8 (b.toNat : Int), .pointer (some ⟨o, 0, none⟩)] w (PPo w base b2 U m o ck (beginP s b)) := by
  have hb : base ≤ w.heap.size := Nat.le_trans h.b2.1 h.b2.2
  obtain ⟨_, c0, c1, _, _, _, _, c7, _⟩ := h.mc.cells
  have f0 := h.mc.frz 0
  have f1 := h.mc.frz 1
  have hml := h.mc.lt
  have hb0 : Below w.heap.size w w := Below.refl _ _
  have HB := Lib.hid (fun W (h2 : Below w.heap.size w W) => h.below h2)
  have HI := Lib.hid (fun W (h2 : Below w.heap.size w W) => inner_any W base m s.m _ qp av (h.below h2).mc hne)
  have HD := Lib.hid (fun W (h2 : Below w.heap.size w W) => endDue_any W base m s.m _ qp av (h.below h2).mc hne)
  have HA := Lib.hid (fun W (h2 : Below w.heap.size w W) => anyDue_any W base m s.m _ qp av (h.below h2).mc hne)
  have HG := Lib.hid (fun W (h2 : Below w.heap.size w W) => goes_any W m 7 s.m.nm b (h2.cell (p := ⟨m, 7, none⟩) hml |>.trans c7) (Nat.lt_of_lt_of_le hml h2.size) hnm)
  have HSW := Lib.hid (fun W (h2 : Below w.heap.size w W) => hw.below (h2.mono hb))
  rw [show beginP s b = ⟨s, 2⟩ from by unfold beginP; simp [hB, hG, hA]]
  obtain ⟨q1, q2, q3, q4, q5, q6⟩ := hB
  have z59 : ((b.toNat : Int) == 59) = false := pub_f (b := b) (n := 59) q1
  have z34 : ((b.toNat : Int) == 34) = false := pub_f (b := b) (n := 34) q2
  have z41 : ((b.toNat : Int) == 41) = false := pub_f (b := b) (n := 41) q3
  have z64 : ((b.toNat : Int) == 64) = false := pub_f (b := b) (n := 64) q4
  have z35 : ((b.toNat : Int) == 35) = false := pub_f (b := b) (n := 35) q5
  have z40 : ((b.toNat : Int) == 40) = false := pub_f (b := b) (n := 40) q6
  clear q1 q2 q3 q4 q5 q6
  rw [hG] at HG
  rw [hA] at HA
  clear h hw c7
  go_enter Tryz.func168, Tryz.ntmps168
  go_wp2_with fail
  refine (HG.out _ (by first | exact hb0 | exact below_drew hb0)).mono ?_
  rintro e W1 ⟨rfl, hq1⟩
  have hb1 : Below w.heap.size w W1 := Below.trans (by first | exact hb0 | exact below_drew hb0) (hq1.mono (Below.size (by first | exact hb0 | exact below_drew hb0)))
  clear hq1
  go_wp2_with fail
  refine (HA.out _ (by first | exact hb1 | exact below_drew hb1)).mono ?_
  rintro e W2 ⟨rfl, n2, hn2⟩
  have hb2 : Below w.heap.size w W2 := by rw [hn2]; exact below_drewN (by first | exact hb1 | exact below_drew hb1) n2
  clear hn2
  have hP := HB.out _ hb2
  have HF : Hid (PPo w base b2 U m o ck ⟨s, 2⟩ (.returned (.int .i64 2)) W2) := Lib.hid ⟨rfl, ⟨_, _, _, hP⟩, Tch.of_below hb2⟩
  clear hP hb0 hb1 hb2
  clear HI HD HA HG HB HSW
  go_wp2
  go_ret
  exact HF.out

set_option maxHeartbeats 8000000 in
theorem begin_oth_2 (w : World) (base b2 U m o ck : Nat) (s : Ps) (qp av : Value) (A : Nat → Prop) (b : UInt8) (h : PX w base b2 U m o ck s qp av A) (hw4 : s.m.wi ≠ 4) (hk : kindI (topI s.m.op)) (hd : 0 ≤ s.m.du ∧ s.m.du ≤ 7) (hne : s.m.op ≠ []) (hne2 : endP s.m = true → s.m.op.dropLast ≠ []) (hnm : s.m.nm.size ≤ 1000) (hop : s.m.op.length ≤ 100000) (hg : Good s.st) (hl : s.l.length ≤ 1000000) (hw : SW base w) (hB : ¬ b.toNat = 59 ∧ ¬ b.toNat = 34 ∧ ¬ b.toNat = 41 ∧ ¬ b.toNat = 64 ∧ ¬ b.toNat = 35 ∧ ¬ b.toNat = 40) (hG : mayB1 s.m.nm b = true) (hA : anyP s.m = true) :
    Calls Tryz.prog 168 #[.pointer (some ⟨m, 0, none⟩), .int .u8 (b.toNat : Int), .pointer (some ⟨o, 0, none⟩)] w (PPo w base b2 U m o ck (beginP s b)) := by
  have hb : base ≤ w.heap.size := Nat.le_trans h.b2.1 h.b2.2
  obtain ⟨_, c0, c1, _, _, _, _, c7, _⟩ := h.mc.cells
  have f0 := h.mc.frz 0
  have f1 := h.mc.frz 1
  have hml := h.mc.lt
  have hb0 : Below w.heap.size w w := Below.refl _ _
  have HB := Lib.hid (fun W (h2 : Below w.heap.size w W) => h.below h2)
  have HI := Lib.hid (fun W (h2 : Below w.heap.size w W) => inner_any W base m s.m _ qp av (h.below h2).mc hne)
  have HD := Lib.hid (fun W (h2 : Below w.heap.size w W) => endDue_any W base m s.m _ qp av (h.below h2).mc hne)
  have HA := Lib.hid (fun W (h2 : Below w.heap.size w W) => anyDue_any W base m s.m _ qp av (h.below h2).mc hne)
  have HG := Lib.hid (fun W (h2 : Below w.heap.size w W) => goes_any W m 7 s.m.nm b (h2.cell (p := ⟨m, 7, none⟩) hml |>.trans c7) (Nat.lt_of_lt_of_le hml h2.size) hnm)
  have HSW := Lib.hid (fun W (h2 : Below w.heap.size w W) => hw.below (h2.mono hb))
  rw [show beginP s b = addP { s with m := { s.m with wi := 3 } } b from by unfold beginP; simp [hB, hG, hA]]
  obtain ⟨q1, q2, q3, q4, q5, q6⟩ := hB
  have z59 : ((b.toNat : Int) == 59) = false := pub_f (b := b) (n := 59) q1
  have z34 : ((b.toNat : Int) == 34) = false := pub_f (b := b) (n := 34) q2
  have z41 : ((b.toNat : Int) == 41) = false := pub_f (b := b) (n := 41) q3
  have z64 : ((b.toNat : Int) == 64) = false := pub_f (b := b) (n := 64) q4
  have z35 : ((b.toNat : Int) == 35) = false := pub_f (b := b) (n := 35) q5
  have z40 : ((b.toNat : Int) == 40) = false := pub_f (b := b) (n := 40) q6
  clear q1 q2 q3 q4 q5 q6
  rw [hG] at HG
  rw [hA] at HA
  clear h hw c7
  go_enter Tryz.func168, Tryz.ntmps168
  go_wp2_with fail
  refine (HG.out _ (by first | exact hb0 | exact below_drew hb0)).mono ?_
  rintro e W1 ⟨rfl, hq1⟩
  have hb1 : Below w.heap.size w W1 := Below.trans (by first | exact hb0 | exact below_drew hb0) (hq1.mono (Below.size (by first | exact hb0 | exact below_drew hb0)))
  clear hq1
  go_wp2_with fail
  refine (HA.out _ (by first | exact hb1 | exact below_drew hb1)).mono ?_
  rintro e W2 ⟨rfl, n2, hn2⟩
  have hb2 : Below w.heap.size w W2 := by rw [hn2]; exact below_drewN (by first | exact hb1 | exact below_drew hb1) n2
  clear hn2
  have hP := HB.out _ hb2
  obtain ⟨_, d0, d1, _⟩ := hP.mc.cells
  have fz := hP.mc.frz 0
  have hl1 := hP.mc.lt
  have hM2 := hP.mc.set 0 (.int .i64 3) (M' := { s.m with wi := 3 }) (fun ov => rfl) rfl
  have t2 := hP.mc.touch 0 (.int .i64 3)
  have hP2 := hP.pm (t2.wide fun _ => pm_of) hM2 rfl (fun hh => absurd hh (by simp))
  have HTT := Lib.hid ((Tch.of_below (base := base) (p := pObj) hb2).trans (t2.wide (q := pObj) fun _ => p_mo))
  have HC := Lib.hid (add_anyP _ base b2 U m o ck _ qp av A b hP2 hnm)
  clear hP hM2 t2 hP2 hb0 hb1 hb2
  clear HI HD HA HG HB HSW
  go_wp2_with fail
  refine HC.out.mono ?_
  intro e w5 hp
  have HF := Lib.hid (hp.from_ HTT.out)
  have he := hp.1
  clear hp
  subst he
  go_wp2
  go_ret
  exact HF.out

set_option maxHeartbeats 8000000 in
theorem begin_35a (w : World) (base b2 U m o ck : Nat) (s : Ps) (qp av : Value) (A : Nat → Prop) (b : UInt8) (h : PX w base b2 U m o ck s qp av A) (hw4 : s.m.wi ≠ 4) (hk : kindI (topI s.m.op)) (hd : 0 ≤ s.m.du ∧ s.m.du ≤ 7) (hne : s.m.op ≠ []) (hne2 : endP s.m = true → s.m.op.dropLast ≠ []) (hnm : s.m.nm.size ≤ 1000) (hop : s.m.op.length ≤ 100000) (hg : Good s.st) (hl : s.l.length ≤ 1000000) (hw : SW base w) (hB : b.toNat = 35) (hA : anyP s.m = true) :
    Calls Tryz.prog 168 #[.pointer (some ⟨m, 0, none⟩), .int .u8 (b.toNat : Int), .pointer (some ⟨o, 0, none⟩)] w (PPo w base b2 U m o ck (beginP s b)) := by
  have hb : base ≤ w.heap.size := Nat.le_trans h.b2.1 h.b2.2
  obtain ⟨_, c0, c1, _, _, _, _, c7, _⟩ := h.mc.cells
  have f0 := h.mc.frz 0
  have f1 := h.mc.frz 1
  have hml := h.mc.lt
  have hb0 : Below w.heap.size w w := Below.refl _ _
  have HB := Lib.hid (fun W (h2 : Below w.heap.size w W) => h.below h2)
  have HI := Lib.hid (fun W (h2 : Below w.heap.size w W) => inner_any W base m s.m _ qp av (h.below h2).mc hne)
  have HD := Lib.hid (fun W (h2 : Below w.heap.size w W) => endDue_any W base m s.m _ qp av (h.below h2).mc hne)
  have HA := Lib.hid (fun W (h2 : Below w.heap.size w W) => anyDue_any W base m s.m _ qp av (h.below h2).mc hne)
  have HG := Lib.hid (fun W (h2 : Below w.heap.size w W) => goes_any W m 7 s.m.nm b (h2.cell (p := ⟨m, 7, none⟩) hml |>.trans c7) (Nat.lt_of_lt_of_le hml h2.size) hnm)
  have HSW := Lib.hid (fun W (h2 : Below w.heap.size w W) => hw.below (h2.mono hb))
  rw [show beginP s b = ⟨{ s with m := { s.m with wi := 2 } }, 0⟩ from by unfold beginP; simp [hB, hA]]
  have z59 : ((b.toNat : Int) == 59) = false := pub_f (b := b) (n := 59) (by omega)
  have z34 : ((b.toNat : Int) == 34) = false := pub_f (b := b) (n := 34) (by omega)
  have z41 : ((b.toNat : Int) == 41) = false := pub_f (b := b) (n := 41) (by omega)
  have z64 : ((b.toNat : Int) == 64) = false := pub_f (b := b) (n := 64) (by omega)
  have z35 : ((b.toNat : Int) == 35) = true := pub_t (b := b) (n := 35) (by omega)
  have z40 : ((b.toNat : Int) == 40) = false := pub_f (b := b) (n := 40) (by omega)
  rw [hA] at HA
  clear h hw c7 hB
  go_enter Tryz.func168, Tryz.ntmps168
  go_wp2_with fail
  refine (HA.out _ (by first | exact hb0 | exact below_drew hb0)).mono ?_
  rintro e W1 ⟨rfl, n1, hn1⟩
  have hb1 : Below w.heap.size w W1 := by rw [hn1]; exact below_drewN (by first | exact hb0 | exact below_drew hb0) n1
  clear hn1
  have hP := HB.out _ hb1
  obtain ⟨_, d0, d1, _⟩ := hP.mc.cells
  have fz := hP.mc.frz 0
  have hl1 := hP.mc.lt
  have hM2 := hP.mc.set 0 (.int .i64 2) (M' := { s.m with wi := 2 }) (fun ov => rfl) rfl
  have t2 := hP.mc.touch 0 (.int .i64 2)
  have hP2 := hP.pm (t2.wide fun _ => pm_of) hM2 rfl (fun hh => absurd hh (by simp))
  have HF : Hid (PPo w base b2 U m o ck ⟨{ s with m := { s.m with wi := 2 } }, 0⟩ (.returned (.int .i64 0)) _) := Lib.hid ⟨rfl, ⟨_, _, _, hP2⟩, (Tch.of_below hb1).trans (t2.wide fun _ => p_mo)⟩
  clear hP hM2 t2 hP2 hb0 hb1
  clear HI HD HA HG HB HSW
  go_wp2
  go_ret
  exact HF.out

set_option maxHeartbeats 8000000 in
theorem begin_35e (w : World) (base b2 U m o ck : Nat) (s : Ps) (qp av : Value) (A : Nat → Prop) (b : UInt8) (h : PX w base b2 U m o ck s qp av A) (hw4 : s.m.wi ≠ 4) (hk : kindI (topI s.m.op)) (hd : 0 ≤ s.m.du ∧ s.m.du ≤ 7) (hne : s.m.op ≠ []) (hne2 : endP s.m = true → s.m.op.dropLast ≠ []) (hnm : s.m.nm.size ≤ 1000) (hop : s.m.op.length ≤ 100000) (hg : Good s.st) (hl : s.l.length ≤ 1000000) (hw : SW base w) (hB : b.toNat = 35) (hA : anyP s.m = false) (hT : topI s.m.op = 10) (hE : endP s.m = true) :
    Calls Tryz.prog 168 #[.pointer (some ⟨m, 0, none⟩), .int .u8 (b.toNat : Int), .pointer (some ⟨o, 0, none⟩)] w (PPo w base b2 U m o ck (beginP s b)) := by
  have hb : base ≤ w.heap.size := Nat.le_trans h.b2.1 h.b2.2
  obtain ⟨_, c0, c1, _, _, _, _, c7, _⟩ := h.mc.cells
  have f0 := h.mc.frz 0
  have f1 := h.mc.frz 1
  have hml := h.mc.lt
  have hb0 : Below w.heap.size w w := Below.refl _ _
  have HB := Lib.hid (fun W (h2 : Below w.heap.size w W) => h.below h2)
  have HI := Lib.hid (fun W (h2 : Below w.heap.size w W) => inner_any W base m s.m _ qp av (h.below h2).mc hne)
  have HD := Lib.hid (fun W (h2 : Below w.heap.size w W) => endDue_any W base m s.m _ qp av (h.below h2).mc hne)
  have HA := Lib.hid (fun W (h2 : Below w.heap.size w W) => anyDue_any W base m s.m _ qp av (h.below h2).mc hne)
  have HG := Lib.hid (fun W (h2 : Below w.heap.size w W) => goes_any W m 7 s.m.nm b (h2.cell (p := ⟨m, 7, none⟩) hml |>.trans c7) (Nat.lt_of_lt_of_le hml h2.size) hnm)
  have HSW := Lib.hid (fun W (h2 : Below w.heap.size w W) => hw.below (h2.mono hb))
  rw [show beginP s b = ⟨{ s with m := { s.m with wi := 2 } }, 0⟩ from by unfold beginP; simp [hB, hA, hT, hE]]
  have z59 : ((b.toNat : Int) == 59) = false := pub_f (b := b) (n := 59) (by omega)
  have z34 : ((b.toNat : Int) == 34) = false := pub_f (b := b) (n := 34) (by omega)
  have z41 : ((b.toNat : Int) == 41) = false := pub_f (b := b) (n := 41) (by omega)
  have z64 : ((b.toNat : Int) == 64) = false := pub_f (b := b) (n := 64) (by omega)
  have z35 : ((b.toNat : Int) == 35) = true := pub_t (b := b) (n := 35) (by omega)
  have z40 : ((b.toNat : Int) == 40) = false := pub_f (b := b) (n := 40) (by omega)
  rw [hA] at HA
  rw [hT] at HI
  rw [hE] at HD
  clear h hw c7 hB
  go_enter Tryz.func168, Tryz.ntmps168
  go_wp2_with fail
  refine (HA.out _ (by first | exact hb0 | exact below_drew hb0)).mono ?_
  rintro e W1 ⟨rfl, n1, hn1⟩
  have hb1 : Below w.heap.size w W1 := by rw [hn1]; exact below_drewN (by first | exact hb0 | exact below_drew hb0) n1
  clear hn1
  go_wp2_with fail
  refine (HI.out _ (by first | exact hb1 | exact below_drew hb1)).mono ?_
  rintro e W2 ⟨rfl, n2, hn2⟩
  have hb2 : Below w.heap.size w W2 := by rw [hn2]; exact below_drewN (by first | exact hb1 | exact below_drew hb1) n2
  clear hn2
  go_wp2_with fail
  refine (HD.out _ (by first | exact hb2 | exact below_drew hb2)).mono ?_
  rintro e W3 ⟨rfl, n3, hn3⟩
  have hb3 : Below w.heap.size w W3 := by rw [hn3]; exact below_drewN (by first | exact hb2 | exact below_drew hb2) n3
  clear hn3
  have hP := HB.out _ hb3
  obtain ⟨_, d0, d1, _⟩ := hP.mc.cells
  have fz := hP.mc.frz 0
  have hl1 := hP.mc.lt
  have hM2 := hP.mc.set 0 (.int .i64 2) (M' := { s.m with wi := 2 }) (fun ov => rfl) rfl
  have t2 := hP.mc.touch 0 (.int .i64 2)
  have hP2 := hP.pm (t2.wide fun _ => pm_of) hM2 rfl (fun hh => absurd hh (by simp))
  have HF : Hid (PPo w base b2 U m o ck ⟨{ s with m := { s.m with wi := 2 } }, 0⟩ (.returned (.int .i64 0)) _) := Lib.hid ⟨rfl, ⟨_, _, _, hP2⟩, (Tch.of_below hb3).trans (t2.wide fun _ => p_mo)⟩
  clear hP hM2 t2 hP2 hb0 hb1 hb2 hb3
  clear HI HD HA HG HB HSW
  go_wp2
  go_ret
  exact HF.out

set_option maxHeartbeats 8000000 in
theorem begin_35f_0 (w : World) (base b2 U m o ck : Nat) (s : Ps) (qp av : Value) (A : Nat → Prop) (b : UInt8) (h : PX w base b2 U m o ck s qp av A) (hw4 : s.m.wi ≠ 4) (hk : kindI (topI s.m.op)) (hd : 0 ≤ s.m.du ∧ s.m.du ≤ 7) (hne : s.m.op ≠ []) (hne2 : endP s.m = true → s.m.op.dropLast ≠ []) (hnm : s.m.nm.size ≤ 1000) (hop : s.m.op.length ≤ 100000) (hg : Good s.st) (hl : s.l.length ≤ 1000000) (hw : SW base w) (hB : b.toNat = 35) (hA : anyP s.m = false) (hT : topI s.m.op = 10) (hE : endP s.m = false) (hG : mayB1 s.m.nm b = false) :
    Calls Tryz.prog 168 #[.pointer (some ⟨m, 0, none⟩), .int .u8 (b.toNat : Int), .pointer (some ⟨o, 0, none⟩)] w (PPo w base b2 U m o ck (beginP s b)) := by
  have hb : base ≤ w.heap.size := Nat.le_trans h.b2.1 h.b2.2
  obtain ⟨_, c0, c1, _, _, _, _, c7, _⟩ := h.mc.cells
  have f0 := h.mc.frz 0
  have f1 := h.mc.frz 1
  have hml := h.mc.lt
  have hb0 : Below w.heap.size w w := Below.refl _ _
  have HB := Lib.hid (fun W (h2 : Below w.heap.size w W) => h.below h2)
  have HI := Lib.hid (fun W (h2 : Below w.heap.size w W) => inner_any W base m s.m _ qp av (h.below h2).mc hne)
  have HD := Lib.hid (fun W (h2 : Below w.heap.size w W) => endDue_any W base m s.m _ qp av (h.below h2).mc hne)
  have HA := Lib.hid (fun W (h2 : Below w.heap.size w W) => anyDue_any W base m s.m _ qp av (h.below h2).mc hne)
  have HG := Lib.hid (fun W (h2 : Below w.heap.size w W) => goes_any W m 7 s.m.nm b (h2.cell (p := ⟨m, 7, none⟩) hml |>.trans c7) (Nat.lt_of_lt_of_le hml h2.size) hnm)
  have HSW := Lib.hid (fun W (h2 : Below w.heap.size w W) => hw.below (h2.mono hb))
  rw [show beginP s b = ⟨s, 2⟩ from by unfold beginP; simp [hB, hA, hT, hE, hG]]
  have z59 : ((b.toNat : Int) == 59) = false := pub_f (b := b) (n := 59) (by omega)
  have z34 : ((b.toNat : Int) == 34) = false := pub_f (b := b) (n := 34) (by omega)
  have z41 : ((b.toNat : Int) == 41) = false := pub_f (b := b) (n := 41) (by omega)
  have z64 : ((b.toNat : Int) == 64) = false := pub_f (b := b) (n := 64) (by omega)
  have z35 : ((b.toNat : Int) == 35) = true := pub_t (b := b) (n := 35) (by omega)
  have z40 : ((b.toNat : Int) == 40) = false := pub_f (b := b) (n := 40) (by omega)
  rw [hA] at HA
  rw [hT] at HI
  rw [hE] at HD
  rw [hG] at HG
  clear h hw c7 hB
  go_enter Tryz.func168, Tryz.ntmps168
  go_wp2_with fail
  refine (HA.out _ (by first | exact hb0 | exact below_drew hb0)).mono ?_
  rintro e W1 ⟨rfl, n1, hn1⟩
  have hb1 : Below w.heap.size w W1 := by rw [hn1]; exact below_drewN (by first | exact hb0 | exact below_drew hb0) n1
  clear hn1
  go_wp2_with fail
  refine (HI.out _ (by first | exact hb1 | exact below_drew hb1)).mono ?_
  rintro e W2 ⟨rfl, n2, hn2⟩
  have hb2 : Below w.heap.size w W2 := by rw [hn2]; exact below_drewN (by first | exact hb1 | exact below_drew hb1) n2
  clear hn2
  go_wp2_with fail
  refine (HD.out _ (by first | exact hb2 | exact below_drew hb2)).mono ?_
  rintro e W3 ⟨rfl, n3, hn3⟩
  have hb3 : Below w.heap.size w W3 := by rw [hn3]; exact below_drewN (by first | exact hb2 | exact below_drew hb2) n3
  clear hn3
  go_wp2_with fail
  refine (HG.out _ (by first | exact hb3 | exact below_drew hb3)).mono ?_
  rintro e W4 ⟨rfl, hq4⟩
  have hb4 : Below w.heap.size w W4 := Below.trans (by first | exact hb3 | exact below_drew hb3) (hq4.mono (Below.size (by first | exact hb3 | exact below_drew hb3)))
  clear hq4
  have hP := HB.out _ hb4
  have HF : Hid (PPo w base b2 U m o ck ⟨s, 2⟩ (.returned (.int .i64 2)) W4) := Lib.hid ⟨rfl, ⟨_, _, _, hP⟩, Tch.of_below hb4⟩
  clear hP hb0 hb1 hb2 hb3 hb4
  clear HI HD HA HG HB HSW
  go_wp2
  go_ret
  exact HF.out

set_option maxHeartbeats 8000000 in
theorem begin_35f_1 (w : World) (base b2 U m o ck : Nat) (s : Ps) (qp av : Value) (A : Nat → Prop) (b : UInt8) (h : PX w base b2 U m o ck s qp av A) (hw4 : s.m.wi ≠ 4) (hk : kindI (topI s.m.op)) (hd : 0 ≤ s.m.du ∧ s.m.du ≤ 7) (hne : s.m.op ≠ []) (hne2 : endP s.m = true → s.m.op.dropLast ≠ []) (hnm : s.m.nm.size ≤ 1000) (hop : s.m.op.length ≤ 100000) (hg : Good s.st) (hl : s.l.length ≤ 1000000) (hw : SW base w) (hB : b.toNat = 35) (hA : anyP s.m = false) (hT : topI s.m.op = 10) (hE : endP s.m = false) (hG : mayB1 s.m.nm b = true) :
    Calls Tryz.prog 168 #[.pointer (some ⟨m, 0, none⟩), .int .u8 (b.toNat : Int), .pointer (some ⟨o, 0, none⟩)] w (PPo w base b2 U m o ck (beginP s b)) := by
  have hb : base ≤ w.heap.size := Nat.le_trans h.b2.1 h.b2.2
  obtain ⟨_, c0, c1, _, _, _, _, c7, _⟩ := h.mc.cells
  have f0 := h.mc.frz 0
  have f1 := h.mc.frz 1
  have hml := h.mc.lt
  have hb0 : Below w.heap.size w w := Below.refl _ _
  have HB := Lib.hid (fun W (h2 : Below w.heap.size w W) => h.below h2)
  have HI := Lib.hid (fun W (h2 : Below w.heap.size w W) => inner_any W base m s.m _ qp av (h.below h2).mc hne)
  have HD := Lib.hid (fun W (h2 : Below w.heap.size w W) => endDue_any W base m s.m _ qp av (h.below h2).mc hne)
  have HA := Lib.hid (fun W (h2 : Below w.heap.size w W) => anyDue_any W base m s.m _ qp av (h.below h2).mc hne)
  have HG := Lib.hid (fun W (h2 : Below w.heap.size w W) => goes_any W m 7 s.m.nm b (h2.cell (p := ⟨m, 7, none⟩) hml |>.trans c7) (Nat.lt_of_lt_of_le hml h2.size) hnm)
  have HSW := Lib.hid (fun W (h2 : Below w.heap.size w W) => hw.below (h2.mono hb))
  rw [show beginP s b = ⟨s, 2⟩ from by unfold beginP; simp [hB, hA, hT, hE, hG]]
  have z59 : ((b.toNat : Int) == 59) = false := pub_f (b := b) (n := 59) (by omega)
  have z34 : ((b.toNat : Int) == 34) = false := pub_f (b := b) (n := 34) (by omega)
  have z41 : ((b.toNat : Int) == 41) = false := pub_f (b := b) (n := 41) (by omega)
  have z64 : ((b.toNat : Int) == 64) = false := pub_f (b := b) (n := 64) (by omega)
  have z35 : ((b.toNat : Int) == 35) = true := pub_t (b := b) (n := 35) (by omega)
  have z40 : ((b.toNat : Int) == 40) = false := pub_f (b := b) (n := 40) (by omega)
  rw [hA] at HA
  rw [hT] at HI
  rw [hE] at HD
  rw [hG] at HG
  clear h hw c7 hB
  go_enter Tryz.func168, Tryz.ntmps168
  go_wp2_with fail
  refine (HA.out _ (by first | exact hb0 | exact below_drew hb0)).mono ?_
  rintro e W1 ⟨rfl, n1, hn1⟩
  have hb1 : Below w.heap.size w W1 := by rw [hn1]; exact below_drewN (by first | exact hb0 | exact below_drew hb0) n1
  clear hn1
  go_wp2_with fail
  refine (HI.out _ (by first | exact hb1 | exact below_drew hb1)).mono ?_
  rintro e W2 ⟨rfl, n2, hn2⟩
  have hb2 : Below w.heap.size w W2 := by rw [hn2]; exact below_drewN (by first | exact hb1 | exact below_drew hb1) n2
  clear hn2
  go_wp2_with fail
  refine (HD.out _ (by first | exact hb2 | exact below_drew hb2)).mono ?_
  rintro e W3 ⟨rfl, n3, hn3⟩
  have hb3 : Below w.heap.size w W3 := by rw [hn3]; exact below_drewN (by first | exact hb2 | exact below_drew hb2) n3
  clear hn3
  go_wp2_with fail
  refine (HG.out _ (by first | exact hb3 | exact below_drew hb3)).mono ?_
  rintro e W4 ⟨rfl, hq4⟩
  have hb4 : Below w.heap.size w W4 := Below.trans (by first | exact hb3 | exact below_drew hb3) (hq4.mono (Below.size (by first | exact hb3 | exact below_drew hb3)))
  clear hq4
  go_wp2_with fail
  refine (HA.out _ (by first | exact hb4 | exact below_drew hb4)).mono ?_
  rintro e W5 ⟨rfl, n5, hn5⟩
  have hb5 : Below w.heap.size w W5 := by rw [hn5]; exact below_drewN (by first | exact hb4 | exact below_drew hb4) n5
  clear hn5
  have hP := HB.out _ hb5
  have HF : Hid (PPo w base b2 U m o ck ⟨s, 2⟩ (.returned (.int .i64 2)) W5) := Lib.hid ⟨rfl, ⟨_, _, _, hP⟩, Tch.of_below hb5⟩
  clear hP hb0 hb1 hb2 hb3 hb4 hb5
  clear HI HD HA HG HB HSW
  go_wp2
  go_ret
  exact HF.out

set_option maxHeartbeats 8000000 in
theorem begin_35g_0 (w : World) (base b2 U m o ck : Nat) (s : Ps) (qp av : Value) (A : Nat → Prop) (b : UInt8) (h : PX w base b2 U m o ck s qp av A) (hw4 : s.m.wi ≠ 4) (hk : kindI (topI s.m.op)) (hd : 0 ≤ s.m.du ∧ s.m.du ≤ 7) (hne : s.m.op ≠ []) (hne2 : endP s.m = true → s.m.op.dropLast ≠ []) (hnm : s.m.nm.size ≤ 1000) (hop : s.m.op.length ≤ 100000) (hg : Good s.st) (hl : s.l.length ≤ 1000000) (hw : SW base w) (hB : b.toNat = 35) (hA : anyP s.m = false) (hT : topI s.m.op ≠ 10) (hG : mayB1 s.m.nm b = false) :
    Calls Tryz.prog 168 #[.pointer (some ⟨m, 0, none⟩), .int .u8 (b.toNat : Int), .pointer (some ⟨o, 0, none⟩)] w (PPo w base b2 U m o ck (beginP s b)) := by
  have hb : base ≤ w.heap.size := Nat.le_trans h.b2.1 h.b2.2
  obtain ⟨_, c0, c1, _, _, _, _, c7, _⟩ := h.mc.cells
  have f0 := h.mc.frz 0
  have f1 := h.mc.frz 1
  have hml := h.mc.lt
  have hb0 : Below w.heap.size w w := Below.refl _ _
  have HB := Lib.hid (fun W (h2 : Below w.heap.size w W) => h.below h2)
  have HI := Lib.hid (fun W (h2 : Below w.heap.size w W) => inner_any W base m s.m _ qp av (h.below h2).mc hne)
  have HD := Lib.hid (fun W (h2 : Below w.heap.size w W) => endDue_any W base m s.m _ qp av (h.below h2).mc hne)
  have HA := Lib.hid (fun W (h2 : Below w.heap.size w W) => anyDue_any W base m s.m _ qp av (h.below h2).mc hne)
  have HG := Lib.hid (fun W (h2 : Below w.heap.size w W) => goes_any W m 7 s.m.nm b (h2.cell (p := ⟨m, 7, none⟩) hml |>.trans c7) (Nat.lt_of_lt_of_le hml h2.size) hnm)
  have HSW := Lib.hid (fun W (h2 : Below w.heap.size w W) => hw.below (h2.mono hb))
  rw [show beginP s b = ⟨s, 2⟩ from by unfold beginP; simp [hB, hA, hT, hG]]
  have z59 : ((b.toNat : Int) == 59) = false := pub_f (b := b) (n := 59) (by omega)
  have z34 : ((b.toNat : Int) == 34) = false := pub_f (b := b) (n := 34) (by omega)
  have z41 : ((b.toNat : Int) == 41) = false := pub_f (b := b) (n := 41) (by omega)
  have z64 : ((b.toNat : Int) == 64) = false := pub_f (b := b) (n := 64) (by omega)
  have z35 : ((b.toNat : Int) == 35) = true := pub_t (b := b) (n := 35) (by omega)
  have z40 : ((b.toNat : Int) == 40) = false := pub_f (b := b) (n := 40) (by omega)
  rw [hA] at HA
  rw [hG] at HG
  clear h hw c7 hB
  have zt : (topI s.m.op == 10) = false := by rw [beq_eq_false_iff_ne]; exact hT
  go_enter Tryz.func168, Tryz.ntmps168
  go_wp2_with fail
  refine (HA.out _ (by first | exact hb0 | exact below_drew hb0)).mono ?_
  rintro e W1 ⟨rfl, n1, hn1⟩
  have hb1 : Below w.heap.size w W1 := by rw [hn1]; exact below_drewN (by first | exact hb0 | exact below_drew hb0) n1
  clear hn1
  go_wp2_with fail
  refine (HI.out _ (by first | exact hb1 | exact below_drew hb1)).mono ?_
  rintro e W2 ⟨rfl, n2, hn2⟩
  have hb2 : Below w.heap.size w W2 := by rw [hn2]; exact below_drewN (by first | exact hb1 | exact below_drew hb1) n2
  clear hn2
  go_wp2_with fail
  refine (HG.out _ (by first | exact hb2 | exact below_drew hb2)).mono ?_
  rintro e W3 ⟨rfl, hq3⟩
  have hb3 : Below w.heap.size w W3 := Below.trans (by first | exact hb2 | exact below_drew hb2) (hq3.mono (Below.size (by first | exact hb2 | exact below_drew hb2)))
  clear hq3
  have hP := HB.out _ hb3
  have HF : Hid (PPo w base b2 U m o ck ⟨s, 2⟩ (.returned (.int .i64 2)) W3) := Lib.hid ⟨rfl, ⟨_, _, _, hP⟩, Tch.of_below hb3⟩
  clear hP hb0 hb1 hb2 hb3
  clear HI HD HA HG HB HSW
  go_wp2
  go_ret
  exact HF.out

set_option maxHeartbeats 8000000 in
theorem begin_35g_1 (w : World) (base b2 U m o ck : Nat) (s : Ps) (qp av : Value) (A : Nat → Prop) (b : UInt8) (h : PX w base b2 U m o ck s qp av A) (hw4 : s.m.wi ≠ 4) (hk : kindI (topI s.m.op)) (hd : 0 ≤ s.m.du ∧ s.m.du ≤ 7) (hne : s.m.op ≠ []) (hne2 : endP s.m = true → s.m.op.dropLast ≠ []) (hnm : s.m.nm.size ≤ 1000) (hop : s.m.op.length ≤ 100000) (hg : Good s.st) (hl : s.l.length ≤ 1000000) (hw : SW base w) (hB : b.toNat = 35) (hA : anyP s.m = false) (hT : topI s.m.op ≠ 10) (hG : mayB1 s.m.nm b = true) :
    Calls Tryz.prog 168 #[.pointer (some ⟨m, 0, none⟩), .int .u8 (b.toNat : Int), .pointer (some ⟨o, 0, none⟩)] w (PPo w base b2 U m o ck (beginP s b)) := by
  have hb : base ≤ w.heap.size := Nat.le_trans h.b2.1 h.b2.2
  obtain ⟨_, c0, c1, _, _, _, _, c7, _⟩ := h.mc.cells
  have f0 := h.mc.frz 0
  have f1 := h.mc.frz 1
  have hml := h.mc.lt
  have hb0 : Below w.heap.size w w := Below.refl _ _
  have HB := Lib.hid (fun W (h2 : Below w.heap.size w W) => h.below h2)
  have HI := Lib.hid (fun W (h2 : Below w.heap.size w W) => inner_any W base m s.m _ qp av (h.below h2).mc hne)
  have HD := Lib.hid (fun W (h2 : Below w.heap.size w W) => endDue_any W base m s.m _ qp av (h.below h2).mc hne)
  have HA := Lib.hid (fun W (h2 : Below w.heap.size w W) => anyDue_any W base m s.m _ qp av (h.below h2).mc hne)
  have HG := Lib.hid (fun W (h2 : Below w.heap.size w W) => goes_any W m 7 s.m.nm b (h2.cell (p := ⟨m, 7, none⟩) hml |>.trans c7) (Nat.lt_of_lt_of_le hml h2.size) hnm)
  have HSW := Lib.hid (fun W (h2 : Below w.heap.size w W) => hw.below (h2.mono hb))
  rw [show beginP s b = ⟨s, 2⟩ from by unfold beginP; simp [hB, hA, hT, hG]]
  have z59 : ((b.toNat : Int) == 59) = false := pub_f (b := b) (n := 59) (by omega)
  have z34 : ((b.toNat : Int) == 34) = false := pub_f (b := b) (n := 34) (by omega)
  have z41 : ((b.toNat : Int) == 41) = false := pub_f (b := b) (n := 41) (by omega)
  have z64 : ((b.toNat : Int) == 64) = false := pub_f (b := b) (n := 64) (by omega)
  have z35 : ((b.toNat : Int) == 35) = true := pub_t (b := b) (n := 35) (by omega)
  have z40 : ((b.toNat : Int) == 40) = false := pub_f (b := b) (n := 40) (by omega)
  rw [hA] at HA
  rw [hG] at HG
  clear h hw c7 hB
  have zt : (topI s.m.op == 10) = false := by rw [beq_eq_false_iff_ne]; exact hT
  go_enter Tryz.func168, Tryz.ntmps168
  go_wp2_with fail
  refine (HA.out _ (by first | exact hb0 | exact below_drew hb0)).mono ?_
  rintro e W1 ⟨rfl, n1, hn1⟩
  have hb1 : Below w.heap.size w W1 := by rw [hn1]; exact below_drewN (by first | exact hb0 | exact below_drew hb0) n1
  clear hn1
  go_wp2_with fail
  refine (HI.out _ (by first | exact hb1 | exact below_drew hb1)).mono ?_
  rintro e W2 ⟨rfl, n2, hn2⟩
  have hb2 : Below w.heap.size w W2 := by rw [hn2]; exact below_drewN (by first | exact hb1 | exact below_drew hb1) n2
  clear hn2
  go_wp2_with fail
  refine (HG.out _ (by first | exact hb2 | exact below_drew hb2)).mono ?_
  rintro e W3 ⟨rfl, hq3⟩
  have hb3 : Below w.heap.size w W3 := Below.trans (by first | exact hb2 | exact below_drew hb2) (hq3.mono (Below.size (by first | exact hb2 | exact below_drew hb2)))
  clear hq3
  go_wp2_with fail
  refine (HA.out _ (by first | exact hb3 | exact below_drew hb3)).mono ?_
  rintro e W4 ⟨rfl, n4, hn4⟩
  have hb4 : Below w.heap.size w W4 := by rw [hn4]; exact below_drewN (by first | exact hb3 | exact below_drew hb3) n4
  clear hn4
  have hP := HB.out _ hb4
  have HF : Hid (PPo w base b2 U m o ck ⟨s, 2⟩ (.returned (.int .i64 2)) W4) := Lib.hid ⟨rfl, ⟨_, _, _, hP⟩, Tch.of_below hb4⟩
  clear hP hb0 hb1 hb2 hb3 hb4
  clear HI HD HA HG HB HSW
  go_wp2
  go_ret
  exact HF.out

set_option maxHeartbeats 8000000 in
theorem begin_64n_0 (w : World) (base b2 U m o ck : Nat) (s : Ps) (qp av : Value) (A : Nat → Prop) (b : UInt8) (h : PX w base b2 U m o ck s qp av A) (hw4 : s.m.wi ≠ 4) (hk : kindI (topI s.m.op)) (hd : 0 ≤ s.m.du ∧ s.m.du ≤ 7) (hne : s.m.op ≠ []) (hne2 : endP s.m = true → s.m.op.dropLast ≠ []) (hnm : s.m.nm.size ≤ 1000) (hop : s.m.op.length ≤ 100000) (hg : Good s.st) (hl : s.l.length ≤ 1000000) (hw : SW base w) (hB : b.toNat = 64) (hU : s.m.du ≠ 3) (hG : mayB1 s.m.nm b = false) :
    Calls Tryz.prog 168 #[.pointer (some ⟨m, 0, none⟩), .int .u8 (b.toNat : Int), .pointer (some ⟨o, 0, none⟩)] w (PPo w base b2 U m o ck (beginP s b)) := by
  have hb : base ≤ w.heap.size := Nat.le_trans h.b2.1 h.b2.2
  obtain ⟨_, c0, c1, _, _, _, _, c7, _⟩ := h.mc.cells
  have f0 := h.mc.frz 0
  have f1 := h.mc.frz 1
  have hml := h.mc.lt
  have hb0 : Below w.heap.size w w := Below.refl _ _
  have HB := Lib.hid (fun W (h2 : Below w.heap.size w W) => h.below h2)
  have HI := Lib.hid (fun W (h2 : Below w.heap.size w W) => inner_any W base m s.m _ qp av (h.below h2).mc hne)
  have HD := Lib.hid (fun W (h2 : Below w.heap.size w W) => endDue_any W base m s.m _ qp av (h.below h2).mc hne)
  have HA := Lib.hid (fun W (h2 : Below w.heap.size w W) => anyDue_any W base m s.m _ qp av (h.below h2).mc hne)
  have HG := Lib.hid (fun W (h2 : Below w.heap.size w W) => goes_any W m 7 s.m.nm b (h2.cell (p := ⟨m, 7, none⟩) hml |>.trans c7) (Nat.lt_of_lt_of_le hml h2.size) hnm)
  have HSW := Lib.hid (fun W (h2 : Below w.heap.size w W) => hw.below (h2.mono hb))
  rw [show beginP s b = ⟨s, 2⟩ from by unfold beginP; simp [hB, hU, hG]]
  have z59 : ((b.toNat : Int) == 59) = false := pub_f (b := b) (n := 59) (by omega)
  have z34 : ((b.toNat : Int) == 34) = false := pub_f (b := b) (n := 34) (by omega)
  have z41 : ((b.toNat : Int) == 41) = false := pub_f (b := b) (n := 41) (by omega)
  have z64 : ((b.toNat : Int) == 64) = true := pub_t (b := b) (n := 64) (by omega)
  have z35 : ((b.toNat : Int) == 35) = false := pub_f (b := b) (n := 35) (by omega)
  have z40 : ((b.toNat : Int) == 40) = false := pub_f (b := b) (n := 40) (by omega)
  rw [hG] at HG
  clear h hw c7 hB
  have zd : (s.m.du == 3) = false := by rw [beq_eq_false_iff_ne]; exact hU
  go_enter Tryz.func168, Tryz.ntmps168
  go_wp2_with fail
  refine (HG.out _ (by first | exact hb0 | exact below_drew hb0)).mono ?_
  rintro e W1 ⟨rfl, hq1⟩
  have hb1 : Below w.heap.size w W1 := Below.trans (by first | exact hb0 | exact below_drew hb0) (hq1.mono (Below.size (by first | exact hb0 | exact below_drew hb0)))
  clear hq1
  have hP := HB.out _ hb1
  have HF : Hid (PPo w base b2 U m o ck ⟨s, 2⟩ (.returned (.int .i64 2)) W1) := Lib.hid ⟨rfl, ⟨_, _, _, hP⟩, Tch.of_below hb1⟩
  clear hP hb0 hb1
  clear HI HD HA HG HB HSW
  go_wp2
  go_ret
  exact HF.out

set_option maxHeartbeats 8000000 in
theorem begin_64n_1 (w : World) (base b2 U m o ck : Nat) (s : Ps) (qp av : Value) (A : Nat → Prop) (b : UInt8) (h : PX w base b2 U m o ck s qp av A) (hw4 : s.m.wi ≠ 4) (hk : kindI (topI s.m.op)) (hd : 0 ≤ s.m.du ∧ s.m.du ≤ 7) (hne : s.m.op ≠ []) (hne2 : endP s.m = true → s.m.op.dropLast ≠ []) (hnm : s.m.nm.size ≤ 1000) (hop : s.m.op.length ≤ 100000) (hg : Good s.st) (hl : s.l.length ≤ 1000000) (hw : SW base w) (hB : b.toNat = 64) (hU : s.m.du ≠ 3) (hG : mayB1 s.m.nm b = true) (hA : anyP s.m = false) :
    Calls Tryz.prog 168 #[.pointer (some ⟨m, 0, none⟩), .int .u8 (b.toNat : Int), .pointer (some ⟨o, 0, none⟩)] w (PPo w base b2 U m o ck (beginP s b)) := by
  have hb : base ≤ w.heap.size := Nat.le_trans h.b2.1 h.b2.2
  obtain ⟨_, c0, c1, _, _, _, _, c7, _⟩ := h.mc.cells
  have f0 := h.mc.frz 0
  have f1 := h.mc.frz 1
  have hml := h.mc.lt
  have hb0 : Below w.heap.size w w := Below.refl _ _
  have HB := Lib.hid (fun W (h2 : Below w.heap.size w W) => h.below h2)
  have HI := Lib.hid (fun W (h2 : Below w.heap.size w W) => inner_any W base m s.m _ qp av (h.below h2).mc hne)
  have HD := Lib.hid (fun W (h2 : Below w.heap.size w W) => endDue_any W base m s.m _ qp av (h.below h2).mc hne)
  have HA := Lib.hid (fun W (h2 : Below w.heap.size w W) => anyDue_any W base m s.m _ qp av (h.below h2).mc hne)
  have HG := Lib.hid (fun W (h2 : Below w.heap.size w W) => goes_any W m 7 s.m.nm b (h2.cell (p := ⟨m, 7, none⟩) hml |>.trans c7) (Nat.lt_of_lt_of_le hml h2.size) hnm)
  have HSW := Lib.hid (fun W (h2 : Below w.heap.size w W) => hw.below (h2.mono hb))
  rw [show beginP s b = ⟨s, 2⟩ from by unfold beginP; simp [hB, hU, hG, hA]]
  have z59 : ((b.toNat : Int) == 59) = false := pub_f (b := b) (n := 59) (by omega)
  have z34 : ((b.toNat : Int) == 34) = false := pub_f (b := b) (n := 34) (by omega)
  have z41 : ((b.toNat : Int) == 41) = false := pub_f (b := b) (n := 41) (by omega)
  have z64 : ((b.toNat : Int) == 64) = true := pub_t (b := b) (n := 64) (by omega)
  have z35 : ((b.toNat : Int) == 35) = false := pub_f (b := b) (n := 35) (by omega)
  have z40 : ((b.toNat : Int) == 40) = false := pub_f (b := b) (n := 40) (by omega)
  rw [hG] at HG
  rw [hA] at HA
  clear h hw c7 hB
  have zd : (s.m.du == 3) = false := by rw [beq_eq_false_iff_ne]; exact hU
  go_enter Tryz.func168, Tryz.ntmps168
  go_wp2_with fail
  refine (HG.out _ (by first | exact hb0 | exact below_drew hb0)).mono ?_
  rintro e W1 ⟨rfl, hq1⟩
  have hb1 : Below w.heap.size w W1 := Below.trans (by first | exact hb0 | exact below_drew hb0) (hq1.mono (Below.size (by first | exact hb0 | exact below_drew hb0)))
  clear hq1
  go_wp2_with fail
  refine (HA.out _ (by first | exact hb1 | exact below_drew hb1)).mono ?_
  rintro e W2 ⟨rfl, n2, hn2⟩
  have hb2 : Below w.heap.size w W2 := by rw [hn2]; exact below_drewN (by first | exact hb1 | exact below_drew hb1) n2
  clear hn2
  have hP := HB.out _ hb2
  have HF : Hid (PPo w base b2 U m o ck ⟨s, 2⟩ (.returned (.int .i64 2)) W2) := Lib.hid ⟨rfl, ⟨_, _, _, hP⟩, Tch.of_below hb2⟩
  clear hP hb0 hb1 hb2
  clear HI HD HA HG HB HSW
  go_wp2
  go_ret
  exact HF.out

set_option maxHeartbeats 8000000 in
theorem begin_64n_2 (w : World) (base b2 U m o ck : Nat) (s : Ps) (qp av : Value) (A : Nat → Prop) (b : UInt8) (h : PX w base b2 U m o ck s qp av A) (hw4 : s.m.wi ≠ 4) (hk : kindI (topI s.m.op)) (hd : 0 ≤ s.m.du ∧ s.m.du ≤ 7) (hne : s.m.op ≠ []) (hne2 : endP s.m = true → s.m.op.dropLast ≠ []) (hnm : s.m.nm.size ≤ 1000) (hop : s.m.op.length ≤ 100000) (hg : Good s.st) (hl : s.l.length ≤ 1000000) (hw : SW base w) (hB : b.toNat = 64) (hU : s.m.du ≠ 3) (hG : mayB1 s.m.nm b = true) (hA : anyP s.m = true) :
    Calls Tryz.prog 168 #[.pointer (some ⟨m, 0, none⟩), .int .u8 (b.toNat : Int), .pointer (some ⟨o, 0, none⟩)] w (PPo w base b2 U m o ck (beginP s b)) := by
  have hb : base ≤ w.heap.size := Nat.le_trans h.b2.1 h.b2.2
  obtain ⟨_, c0, c1, _, _, _, _, c7, _⟩ := h.mc.cells
  have f0 := h.mc.frz 0
  have f1 := h.mc.frz 1
  have hml := h.mc.lt
  have hb0 : Below w.heap.size w w := Below.refl _ _
  have HB := Lib.hid (fun W (h2 : Below w.heap.size w W) => h.below h2)
  have HI := Lib.hid (fun W (h2 : Below w.heap.size w W) => inner_any W base m s.m _ qp av (h.below h2).mc hne)
  have HD := Lib.hid (fun W (h2 : Below w.heap.size w W) => endDue_any W base m s.m _ qp av (h.below h2).mc hne)
  have HA := Lib.hid (fun W (h2 : Below w.heap.size w W) => anyDue_any W base m s.m _ qp av (h.below h2).mc hne)
  have HG := Lib.hid (fun W (h2 : Below w.heap.size w W) => goes_any W m 7 s.m.nm b (h2.cell (p := ⟨m, 7, none⟩) hml |>.trans c7) (Nat.lt_of_lt_of_le hml h2.size) hnm)
  have HSW := Lib.hid (fun W (h2 : Below w.heap.size w W) => hw.below (h2.mono hb))
  rw [show beginP s b = addP { s with m := { s.m with wi := 3 } } b from by unfold beginP; simp [hB, hU, hG, hA]]
  have z59 : ((b.toNat : Int) == 59) = false := pub_f (b := b) (n := 59) (by omega)
  have z34 : ((b.toNat : Int) == 34) = false := pub_f (b := b) (n := 34) (by omega)
  have z41 : ((b.toNat : Int) == 41) = false := pub_f (b := b) (n := 41) (by omega)
  have z64 : ((b.toNat : Int) == 64) = true := pub_t (b := b) (n := 64) (by omega)
  have z35 : ((b.toNat : Int) == 35) = false := pub_f (b := b) (n := 35) (by omega)
  have z40 : ((b.toNat : Int) == 40) = false := pub_f (b := b) (n := 40) (by omega)
  rw [hG] at HG
  rw [hA] at HA
  clear h hw c7 hB
  have zd : (s.m.du == 3) = false := by rw [beq_eq_false_iff_ne]; exact hU
  go_enter Tryz.func168, Tryz.ntmps168
  go_wp2_with fail
  refine (HG.out _ (by first | exact hb0 | exact below_drew hb0)).mono ?_
  rintro e W1 ⟨rfl, hq1⟩
  have hb1 : Below w.heap.size w W1 := Below.trans (by first | exact hb0 | exact below_drew hb0) (hq1.mono (Below.size (by first | exact hb0 | exact below_drew hb0)))
  clear hq1
  go_wp2_with fail
  refine (HA.out _ (by first | exact hb1 | exact below_drew hb1)).mono ?_
  rintro e W2 ⟨rfl, n2, hn2⟩
  have hb2 : Below w.heap.size w W2 := by rw [hn2]; exact below_drewN (by first | exact hb1 | exact below_drew hb1) n2
  clear hn2
  have hP := HB.out _ hb2
  obtain ⟨_, d0, d1, _⟩ := hP.mc.cells
  have fz := hP.mc.frz 0
  have hl1 := hP.mc.lt
  have hM2 := hP.mc.set 0 (.int .i64 3) (M' := { s.m with wi := 3 }) (fun ov => rfl) rfl
  have t2 := hP.mc.touch 0 (.int .i64 3)
  have hP2 := hP.pm (t2.wide fun _ => pm_of) hM2 rfl (fun hh => absurd hh (by simp))
  have HTT := Lib.hid ((Tch.of_below (base := base) (p := pObj) hb2).trans (t2.wide (q := pObj) fun _ => p_mo))
  have HC := Lib.hid (add_anyP _ base b2 U m o ck _ qp av A b hP2 hnm)
  clear hP hM2 t2 hP2 hb0 hb1 hb2
  clear HI HD HA HG HB HSW
  go_wp2_with fail
  refine HC.out.mono ?_
  intro e w5 hp
  have HF := Lib.hid (hp.from_ HTT.out)
  have he := hp.1
  clear hp
  subst he
  go_wp2
  go_ret
  exact HF.out

end Go.Proofs.YtmimadkepflmlaaGreatDoor

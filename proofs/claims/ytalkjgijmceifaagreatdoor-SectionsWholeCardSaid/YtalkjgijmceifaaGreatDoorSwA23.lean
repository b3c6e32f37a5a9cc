/-
  quote: Step is the machine's step; the steps of a text.
  lines: Quoted.
  outline: how deep one is hangs on the kinds of the events alone; a document's events leave it as it was. No program is read here.
-/
import Derived.Test.YtalkjgijmceifaaGreatDoorSwA22
import Derived.Lib.Strings
import Derived.Test.YtalkjgijmceifaaGreatDoorSwA21
import Derived.Test.YtalkjgijmceifaaGreatDoorSwA03
namespace Go.Proofs.YtalkjgijmceifaaGreatDoor.Qt
open Go.RowKit Go.Maps
set_option maxRecDepth 100000
set_option linter.unusedSectionVars false
variable [Fo]

def StepEnd (r : QR) : Ending := .returned (.tuple #[.bool r.done, .int .i64 r.e])

theorem qstep_any (w : World) (g : Nat) (q : QS) (b : Int) (h0 : 0 ≤ b) (h1 : b ≤ 255) (hq : QAt w g q) (hinv : QInv q) :
    Calls Tryz.prog 203 #[.pointer (some ⟨g, 0, none⟩), .int .u8 b] w fun e w' => e = StepEnd (qStep q b) ∧ Stepd w g (qStep q b) w' := by
  have hlt := hq.lt
  have hq' := hq
  obtain ⟨d, n, hr, h2⟩ := hq'
  have hr' := hr
  obtain ⟨v, hk, _⟩ := hr'
  have c1 : w.cell? ⟨g, 1, none⟩ = some (.int .i64 q.st) := hk.cell 1
  have f1 := hk.frozen 1
  clear hk
  obtain ⟨hl, hs⟩ := hinv
  by_cases s1 : q.st = 1
  · have e : qStep q b = qLetter q b := by unfold qStep; rw [if_pos s1]
    rw [e]
    rw [s1] at c1
    have hd : (qLetter q b).done = false := by
      unfold qLetter qAdd
      repeat' split
      all_goals rfl
    unfold StepEnd
    rw [hd]
    clear s1 e hd hr h2 hs
    go_enter Tryz.func203, Tryz.ntmps203
    go_wp2_with (first
      | (go_at_call 211; refine (letter_any _ g q b h0 h1 hq hl).mono ?_; rintro e w1 ⟨rfl, hs1⟩))
    go_ret2
    exact ⟨rfl, hs1⟩
  by_cases s2 : q.st = 2
  · have e : qStep q b = qDigit q b := by unfold qStep; rw [if_neg s1, if_pos s2]
    rw [e]
    rw [s2] at c1
    have hd : (qDigit q b).done = false := by
      unfold qDigit qAdd
      repeat' split
      all_goals rfl
    unfold StepEnd
    rw [hd]
    have HS := Lib.hid s2
    have HI := Lib.hid (show QInv q from ⟨hl, hs⟩)
    clear s1 s2 e hd hr h2 hs
    go_enter Tryz.func203, Tryz.ntmps203
    go_wp2_with (first
      | (go_at_call 212; refine (digit_any _ g q b h0 h1 hq HS.out HI.out).mono ?_; rintro e w1 ⟨rfl, hs1⟩))
    go_ret2
    exact ⟨rfl, hs1⟩
  by_cases s3 : q.st = 3
  · have e : qStep q b = ⟨false, 2, q⟩ := by unfold qStep; rw [if_neg s1, if_neg s2, if_pos s3]
    rw [e]
    rw [s3] at c1
    clear s1 s2 s3 e hr h2 hs
    go_enter Tryz.func203, Tryz.ntmps203
    go_wp2
    go_ret2
    exact ⟨rfl, hq, Tch.refl _ _ _⟩
  have s0 : q.st = 0 := by omega
  have e : qStep q b = qPlain q b := by unfold qStep; rw [if_neg s1, if_neg s2, if_neg s3]
  rw [e]
  rw [s0] at c1
  clear e hs s1 s2 s3
  by_cases b1 : b < 32
  · have e : qPlain q b = ⟨false, 2, q⟩ := by unfold qPlain; rw [if_pos b1]
    rw [e]
    clear e
    go_enter Tryz.func203, Tryz.ntmps203
    go_wp2
    go_ret2
    exact ⟨rfl, hq, Tch.refl _ _ _⟩
  by_cases b2 : b = 34
  · have e : qPlain q b = ⟨true, 0, ⟨q.xs, 3, 0, 0⟩⟩ := by unfold qPlain; rw [if_neg b1, if_pos b2]
    rw [e]
    clear e b1
    subst b2
    go_enter Tryz.func203, Tryz.ntmps203
    go_wp2
    go_ret2
    exact ⟨rfl, ⟨_, _, hr.set 3, fun h => by cases h⟩, hr.touch 1 _⟩
  by_cases b3 : b = 92
  · have e : qPlain q b = ⟨false, 0, ⟨q.xs, 1, 0, 0⟩⟩ := by unfold qPlain; rw [if_neg b1, if_neg b2, if_pos b3]
    rw [e]
    clear e b1 b2
    subst b3
    go_enter Tryz.func203, Tryz.ntmps203
    go_wp2
    go_ret2
    exact ⟨rfl, ⟨_, _, hr.set 1, fun h => by cases h⟩, hr.touch 1 _⟩
  have e : qPlain q b = qAdd q [b8 b] := by unfold qPlain; rw [if_neg b1, if_neg b2, if_neg b3]
  have e0 : (qAdd q [b8 b]).e = addE q.xs [b8 b] := by rw [qadd_eq]
  have e1 : (qAdd q [b8 b]).done = false := by rw [qadd_eq]
  have n2 : (b == 34) = false := beq_eq_false_iff_ne.2 b2
  have n3 : (b == 92) = false := beq_eq_false_iff_ne.2 b3
  have hra : QRaw (w.alloc (.cells #[.int .u8 b] 5)) g q.xs q.st d n := hr.below ((Below.refl _ _).alloc (Nat.le_refl _) _)
  rw [e]
  unfold StepEnd
  rw [e0, e1]
  have H0 := Lib.hid s0
  clear e e0 e1 b2 b3 s0 h2
  go_enter Tryz.func203, Tryz.ntmps203
  go_wp2_with fail
  refine (add_any _ g q.xs q.st d n hra hl ⟨w.heap.size, 0, none⟩ [b8 b] 1 (by simp) ?_).mono ?_
  · have := cell_one_new w (.int .u8 b) 5
    simp only [List.map_cons, List.map_nil]
    rw [bV_b8 _ (by omega) (by omega)]
    exact this
  rintro e w1 ⟨rfl, hq1, hb1⟩
  go_wp2
  go_ret2
  refine ⟨rfl, qat_add (d := d) (n := n) (fun h => absurd h (by rw [H0.out]; decide)) ?_, ((Tch.refl g qObj w).alloc _).trans hb1⟩
  rw [H0.out] at hq1 ⊢
  simpa using hq1
end Go.Proofs.YtalkjgijmceifaaGreatDoor.Qt
namespace Go.Proofs.YtalkjgijmceifaaGreatDoor
open Go.RowKit Go.Maps
set_option maxRecDepth 100000
set_option linter.unusedSimpArgs false
set_option linter.unusedVariables false
set_option linter.unusedSectionVars false
variable [Tab] [Fo]

theorem line_q {w w' : World} {L g : Nat} {o : LO} {S : List UInt8} {a : Nat} (h : LAt w L o S a) (ht : Tch g Qt.qObj w w') : LAt w' L o S a := Blk.tch h ht (.inr (by simp only [Qt.qObj]; decide))
theorem fr3_q {w0 w w' : World} {L g : Nat} (hf : Fr3 L L L w0 w) (hg : w0.heap.size ≤ g) (ht : Tch g Qt.qObj w w') : Fr3 L L L w0 w' :=
  ⟨ht.os.trans hf.os, ht.tape.trans hf.tape, ht.output.trans hf.output, Nat.le_trans hf.size ht.size, fun k hk h1 h2 h3 => by
    have hk2 : k < w.heap.size := Nat.lt_of_lt_of_le hk hf.size
    obtain ⟨q, hq⟩ := heap_some (w := w) hk2
    rw [ht.block k q hq (.inl (by omega)), ← hq, hf.keep k hk h1 h2 h3]⟩
theorem fr3_ln {w w' : World} {L : Nat} {o : LO} {S : List UInt8} {a : Nat} (h : LAt w L o S a) (hf : Fr3 L L L w w') : LnF L w w' :=
  ⟨hf.os, hf.tape, hf.output, hf.size, fun k hk hn => by
    have hkL : k ≠ L := fun e => hn (by rw [e])
    rw [hf.keep k hk hkL hkL hkL]⟩
theorem grown_fr3 {w w' : World} {L : Nat} (h : w.grownBy w' (some L)) : Fr3 L L L w w' := ⟨h.os, h.tape, h.output, h.size, fun k hk h1 _ _ => h.block k hk (fun e => h1 (Option.some.inj e))⟩
theorem qat_set {w : World} {L g : Nat} {o : LO} {S : List UInt8} {a : Nat} {q : Qt.QS} (h : Qt.QAt w g q) (hl : LAt w L o S a) (u : Value) : Qt.QAt (w.setCell ⟨L, 1, none⟩ u) g q := by
  obtain ⟨d, n, ⟨v, hk, ho, h1, h2, h3⟩, h'⟩ := h
  have hl2 : w.heap[L]? = some (.cells #[.string ⟨S.toArray⟩, .int .i64 (a : Int), .pointer (some ⟨o.o, 0, none⟩), o.ot] 213 (0, 0)) := hl
  have hgL : g ≠ L := by
    rintro rfl
    unfold Blk at hk
    rw [hk] at hl2
    have e := Option.some.inj hl2
    injection e with _ e
    exact absurd e (by decide)
  refine ⟨d, n, ⟨v, hk.far (p := ⟨L, 1, none⟩) hgL u, ?_, h1, h2, by rw [Qt.size_set]; exact h3⟩, h'⟩
  unfold ORow at ho ⊢
  refine ⟨ho.1, ?_⟩
  rcases ho.2 with hv | ⟨g', cap, cur, hv, hg, hh, hr⟩
  · exact .inl hv
  · refine .inr ⟨g', cap, cur, hv, hg, (Below.heap_setCell w ⟨L, 1, none⟩ u g' ?_).trans hh, hr⟩
    rintro rfl
    rw [hh] at hl2
    have e := Option.some.inj hl2
    injection e with _ e
    exact absurd e (by decide)

/-- A quoted text, behind its first quote. -/
def qdRun : List UInt8 → Qt.QS → Nat → Option (ByteArray × Nat)
  | [], _, _ => none
  | b :: r, q, a => if (Qt.qStep q (b.toNat : Int)).e ≠ 0 then none else if (Qt.qStep q (b.toNat : Int)).done = true then some (⟨(Qt.qStep q (b.toNat : Int)).q.xs.toArray⟩, a) else qdRun r (Qt.qStep q (b.toNat : Int)).q (a + 1)
def quoP (S : List UInt8) (a : Nat) : Option (ByteArray × Nat) := (eatB S a 34).bind fun a1 => qdRun (S.drop a1) (Qt.plainQ []) a1
theorem qd_err {S : List UInt8} {q : Qt.QS} {a : Nat} (h : a < S.length) {r : Qt.QR} (hr : Qt.qStep q (S[a].toNat : Int) = r) (he : r.e ≠ 0) : qdRun (S.drop a) q a = none := by
  rw [List.drop_eq_getElem_cons h, qdRun, hr, if_pos he]
theorem qd_done {S : List UInt8} {q : Qt.QS} {a : Nat} (h : a < S.length) {r : Qt.QR} (hr : Qt.qStep q (S[a].toNat : Int) = r) (he : r.e = 0) (hd : r.done = true) : qdRun (S.drop a) q a = some (⟨r.q.xs.toArray⟩, a) := by
  rw [List.drop_eq_getElem_cons h, qdRun, hr, if_neg (by rw [he]; decide), if_pos hd]
theorem qd_on {S : List UInt8} {q : Qt.QS} {a : Nat} (h : a < S.length) {r : Qt.QR} (hr : Qt.qStep q (S[a].toNat : Int) = r) (he : r.e = 0) (hd : r.done = false) : qdRun (S.drop a) q a = qdRun (S.drop (a + 1)) r.q (a + 1) := by
  rw [List.drop_eq_getElem_cons h, qdRun, hr, if_neg (by rw [he]; decide), if_neg (by rw [hd]; decide)]
set_option maxHeartbeats 4000000 in
theorem quoted_any (w : World) (L : Nat) (o : LO) (S : List UInt8) (a : Nat) (h : LAt w L o S a) (hS : S.length ≤ 1000) (ha : a ≤ S.length) (hfl : Fo.lim ≤ w.heap.size) :
    Calls Tryz.prog 196 #[.pointer (some ⟨L, 0, none⟩)] w (TkP w L o S a (quoP S a)) := by
  have hC := expect_any w L o S a 34 h hS ha
  have HL := Lib.hid h
  have HC := Lib.hid hC
  clear hC h
  go_enter Tryz.func196, Tryz.ntmps196
  go_wp2_with fail
  refine HC.out.mono ?_
  rintro e w1 (⟨hb, rfl, h1, h2, h3, h4⟩ | ⟨hb, rfl, h1, h2, h3, h4⟩)
  case inr => exact ⟨rfl, .inr ⟨by unfold quoP eatB; rw [hb]; rfl, 2, a, by decide, rfl, h2, h3⟩, HL.out.lnf h4⟩
  obtain ⟨R, hR⟩ : ∃ R, qdRun (S.drop (a + 1)) (Qt.plainQ []) (a + 1) = R := ⟨_, rfl⟩
  have HQP : Hid (quoP S a = R) := Lib.hid (by unfold quoP eatB; rw [if_pos hb, ← hR]; rfl)
  have HR0 := Lib.hid hR
  clear hR
  have HF1 := Lib.hid (grown_fr3 h4)
  have H3 := Lib.hid h3
  have hQ := Qt.qnew_any w1 (Nat.le_trans hfl h4.size)
  clear h4 h3 hb HC
  go_wp2_with fail
  refine hQ.mono ?_
  rintro e w2 ⟨rfl, hq2, hb2⟩
  obtain ⟨g, hg⟩ : ∃ g, w1.heap.size = g := ⟨_, rfl⟩
  have hg0 : w.heap.size ≤ g := by rw [← hg]; exact HF1.out.size
  rw [hg] at hq2 ⊢
  have START := Lib.hid (show ∃ (a1 : Nat) (q : Qt.QS), a < a1 ∧ a1 ≤ S.length ∧ Hid (qdRun (S.drop a1) q a1 = R) ∧ Hid (LAt w2 L o S a1) ∧ Hid (Qt.QAt w2 g q) ∧ Hid (Qt.QInv q) ∧ Hid (Fr3 L L L w w2) from ⟨a + 1, _, Nat.lt_succ_self a, h2, HR0, Lib.hid (Blk.below H3.out hb2 (Blk.lt H3.out)), Lib.hid hq2, Lib.hid Qt.qInv0, Lib.hid (HF1.out.trans (Fr3.of_below hb2))⟩)
  clear hq2 hb2 hQ HF1 H3 hg
  go_wp2
  go_loopw [] (fun wr => ∃ (a1 : Nat) (q : Qt.QS), a < a1 ∧ a1 ≤ S.length ∧ Hid (qdRun (S.drop a1) q a1 = R) ∧ Hid (LAt wr L o S a1) ∧ Hid (Qt.QAt wr g q) ∧ Hid (Qt.QInv q) ∧ Hid (Fr3 L L L w wr)) (fun wr => S.length - atOf L wr)
  case atStart => exact START.out
  case round =>
    obtain ⟨a1, q, h1, h2, HRun, HLA, HQ, HQI, HF⟩ := hrel
    clear START
    have hC := over_any wr L o S a1 HLA.out hS (by omega)
    by_cases hov : a1 = S.length
    · rw [decide_eq_true hov] at hC
      have HC := Lib.hid hC
      have HE : Hid (quoP S a = none) := Lib.hid (by rw [HQP.out, ← HRun.out, List.drop_of_length_le (by omega)]; rfl)
      clear hC hov
      go_wp2_with fail
      refine HC.out.mono ?_
      rintro e w3 ⟨rfl, rfl⟩
      go_wp2_with fail
      refine (fail_any _ _ _).mono ?_
      rintro e w4 ⟨rfl, rfl⟩
      exact ⟨rfl, .inr ⟨HE.out, 2, a1, by decide, rfl, h2, HLA.out.drew 1⟩, fr3_ln HL.out (HF.out.trans (Fr3.of_below (below_drewN (Below.refl _ _) 1)))⟩
    · rw [decide_eq_false hov] at hC
      have hal : a1 < S.length := by omega
      have HC := Lib.hid hC
      have hz := bsize S
      clear hC
      go_wp2_with fail
      refine HC.out.mono ?_
      rintro e w3 ⟨rfl, rfl⟩
      have l0 : wr.cell? ⟨L, 0, none⟩ = some (.string ⟨S.toArray⟩) := Blk.cell HLA.out 0
      have l1 : wr.cell? ⟨L, 1, none⟩ = some (.int .i64 (a1 : Int)) := Blk.cell HLA.out 1
      have hlt := Blk.lt HLA.out
      have hSt := Qt.qstep_any (wr.drewN 2) g q (S[a1].toNat : Int) (by omega) (by have := S[a1].toNat_lt; omega) (HQ.out.below (below_drewN (Below.refl _ _) 2)) HQI.out
      have hqi := Qt.qInv_step (b := (S[a1].toNat : Int)) HQI.out
      obtain ⟨r, hr⟩ : ∃ r, Qt.qStep q (S[a1].toNat : Int) = r := ⟨_, rfl⟩
      rw [hr] at hSt hqi
      have HSt := Lib.hid hSt
      have HRq := Lib.hid hr
      have HQI4 := Lib.hid hqi
      have HAT := Lib.hid HLA.out.at_
      clear hSt hqi hr HC
      go_wp2
      refine region_g [] (S := (fun W => W.cell? ⟨L, 0, none⟩ = some (.string ⟨S.toArray⟩) ∧ W.cell? ⟨L, 1, none⟩ = some (.int .i64 (a1 : Int)))) (by kernel_rfl) ⟨l0, l1⟩ (fun hH => ?_)
      refine g_take (i := 0) (v := .pointer (some ⟨g, 0, none⟩)) (by rfl) (by kernel_rfl) (by kernel_rfl) (by kernel_rfl) (by kernel_rfl) (fun _ _ _ h => (by cases h.1)) (Or.inl ⟨by kernel_rfl, fun W hS => (by obtain ⟨s0, s1⟩ := hS; go_simp)⟩) hH ?_
      simp only [Act.put, List.setIfInBounds_toArray, List.set_cons_zero, List.set_cons_succ]
      refine g_take (i := 1) (v := .pointer (some ⟨L, 0, none⟩)) (by rfl) (by kernel_rfl) (by kernel_rfl) (by kernel_rfl) (by kernel_rfl) (fun _ _ _ h => (by cases h.1)) (Or.inl ⟨by kernel_rfl, fun W hS => (by obtain ⟨s0, s1⟩ := hS; go_simp)⟩) hH ?_
      simp only [Act.put, List.setIfInBounds_toArray, List.set_cons_zero, List.set_cons_succ]
      refine g_take (i := 2) (v := .pointer (some ⟨L, 0, none⟩)) (by rfl) (by kernel_rfl) (by kernel_rfl) (by kernel_rfl) (by kernel_rfl) (fun _ _ _ h => (by cases h.1)) (Or.inl ⟨by kernel_rfl, fun W hS => (by obtain ⟨s0, s1⟩ := hS; go_simp)⟩) hH ?_
      simp only [Act.put, List.setIfInBounds_toArray, List.set_cons_zero, List.set_cons_succ]
      refine g_take (i := 3) (v := .pointer (some ⟨L, 0, none⟩)) (by rfl) (by kernel_rfl) (by kernel_rfl) (by kernel_rfl) (by kernel_rfl) (fun _ _ _ h => (by cases h.1)) (Or.inl ⟨by kernel_rfl, fun W hS => (by obtain ⟨s0, s1⟩ := hS; go_simp)⟩) hH ?_
      simp only [Act.put, List.setIfInBounds_toArray, List.set_cons_zero, List.set_cons_succ]
      refine g_take (i := 4) (v := .string ⟨S.toArray⟩) (by rfl) (by kernel_rfl) (by kernel_rfl) (by kernel_rfl) (by kernel_rfl) (fun _ _ _ h => (by cases h.1)) (Or.inl ⟨by kernel_rfl, fun W hS => (by obtain ⟨s0, s1⟩ := hS; go_simp)⟩) hH ?_
      simp only [Act.put, List.setIfInBounds_toArray, List.set_cons_zero, List.set_cons_succ]
      refine g_take (i := 5) (v := .pointer (some ⟨L, 0, none⟩)) (by rfl) (by kernel_rfl) (by kernel_rfl) (by kernel_rfl) (by kernel_rfl) (fun _ _ _ h => (by cases h.1)) (Or.inl ⟨by kernel_rfl, fun W hS => (by obtain ⟨s0, s1⟩ := hS; go_simp)⟩) hH ?_
      simp only [Act.put, List.setIfInBounds_toArray, List.set_cons_zero, List.set_cons_succ]
      refine g_take (i := 6) (v := .pointer (some ⟨L, 0, none⟩)) (by rfl) (by kernel_rfl) (by kernel_rfl) (by kernel_rfl) (by kernel_rfl) (fun _ _ _ h => (by cases h.1)) (Or.inl ⟨by kernel_rfl, fun W hS => (by obtain ⟨s0, s1⟩ := hS; go_simp)⟩) hH ?_
      simp only [Act.put, List.setIfInBounds_toArray, List.set_cons_zero, List.set_cons_succ]
      refine g_take (i := 7) (v := .pointer (some ⟨L, 1, none⟩)) (by rfl) (by kernel_rfl) (by kernel_rfl) (by kernel_rfl) (by kernel_rfl) (fun _ _ _ h => (by cases h.1)) (Or.inl ⟨by kernel_rfl, fun W hS => (by obtain ⟨s0, s1⟩ := hS; go_simp)⟩) hH ?_
      simp only [Act.put, List.setIfInBounds_toArray, List.set_cons_zero, List.set_cons_succ]
      refine g_take (i := 8) (v := .int .i64 (a1 : Int)) (by rfl) (by kernel_rfl) (by kernel_rfl) (by kernel_rfl) (by kernel_rfl) (fun _ _ _ h => (by cases h.1)) (Or.inl ⟨by kernel_rfl, fun W hS => (by obtain ⟨s0, s1⟩ := hS; go_simp)⟩) hH ?_
      simp only [Act.put, List.setIfInBounds_toArray, List.set_cons_zero, List.set_cons_succ]
      refine g_take (i := 9) (v := .int .u8 (S[a1].toNat : Int)) (by rfl) (by kernel_rfl) (by kernel_rfl) (by kernel_rfl) (by kernel_rfl) (fun _ _ _ h => (by cases h.1)) (Or.inl ⟨by kernel_rfl, fun W hS => (by obtain ⟨s0, s1⟩ := hS; go_simp; rfl)⟩) hH ?_
      simp only [Act.put, List.setIfInBounds_toArray, List.set_cons_zero, List.set_cons_succ]
      refine g_one (i := 10) (by kernel_rfl) (by rfl) (fun K hK => ?_)
      go_simp
      refine HSt.out.mono ?_
      rintro e w4 ⟨rfl, hq4, ht4⟩
      unfold Qt.StepEnd
      have hLA4 := line_q (w := wr.drewN 2) (HLA.out.drew 2) ht4
      have hF4 := fr3_q (w := wr.drewN 2) (HF.out.trans (Fr3.of_below (below_drewN (Below.refl _ _) 2))) hg0 ht4
      have n0 : w4.cell? ⟨L, 0, none⟩ = some (.string ⟨S.toArray⟩) := Blk.cell hLA4 0
      have n1 : w4.cell? ⟨L, 1, none⟩ = some (.int .i64 (a1 : Int)) := Blk.cell hLA4 1
      have H4 := Lib.hid (And.intro hLA4 (And.intro hF4 hq4))
      clear hLA4 hF4 hq4 ht4 HSt
      refine hK.out _ _ (fun _ => ⟨n0, n1⟩) (fun _ => ?_)
      clear hK K
      refine g_one (i := 11) (by kernel_rfl) (by rfl) (fun K hK => ?_)
      go_simp
      refine hK.out _ _ (fun _ => ⟨n0, n1⟩) (fun _ => ?_)
      clear hK K
      have hH : w4.cell? ⟨L, 0, none⟩ = some (.string ⟨S.toArray⟩) ∧ w4.cell? ⟨L, 1, none⟩ = some (.int .i64 (a1 : Int)) := ⟨n0, n1⟩
      refine g_take (i := 12) (v := .bool r.done) (by rfl) (by kernel_rfl) (by kernel_rfl) (by kernel_rfl) (by kernel_rfl) (fun _ _ _ h => (by cases h.1)) (Or.inl ⟨by kernel_rfl, fun W hS => (by obtain ⟨s0, s1⟩ := hS; go_simp)⟩) hH ?_
      simp only [Act.put, List.setIfInBounds_toArray, List.set_cons_zero, List.set_cons_succ]
      refine g_take (i := 13) (v := .int .i64 r.e) (by rfl) (by kernel_rfl) (by kernel_rfl) (by kernel_rfl) (by kernel_rfl) (fun _ _ _ h => (by cases h.1)) (Or.inl ⟨by kernel_rfl, fun W hS => (by obtain ⟨s0, s1⟩ := hS; go_simp)⟩) hH ?_
      simp only [Act.put, List.setIfInBounds_toArray, List.set_cons_zero, List.set_cons_succ]
      refine g_one (i := 14) (by kernel_rfl) (by rfl) (fun K hK => ?_)
      go_simp
      refine hK.out _ _ (fun _ => ⟨n0, n1⟩) (fun _ => ?_)
      clear hK K
      refine g_one (i := 15) (by kernel_rfl) (by rfl) (fun K hK => ?_)
      go_simp
      refine hK.out _ _ (fun _ => ⟨n0, n1⟩) (fun _ => ?_)
      clear hK K
      refine g_done (by kernel_rfl) ⟨by first | rfl | trivial, ?_⟩ _
      clear HLA HQ HQI HF l0 l1 hlt hH hz
      go_wp2_with fail
      refine (must_any _ _ r.e).mono ?_
      rintro e w5 ⟨⟨hz0, rfl⟩ | ⟨hk0, rfl⟩, rfl⟩
      case inr => exact ⟨rfl, .inr ⟨by rw [HQP.out, ← HRun.out, qd_err hal HRq.out hk0], _, a1, hk0, rfl, h2, H4.out.1⟩, fr3_ln HL.out H4.out.2.1⟩
      have HZ := Lib.hid hz0
      cases hd : r.done with
      | true =>
        have HE : Hid (quoP S a = some (⟨r.q.xs.toArray⟩, a1)) := Lib.hid (by rw [HQP.out, ← HRun.out, qd_done hal HRq.out HZ.out hd])
        obtain ⟨dd, nn, hraw, _⟩ := H4.out.2.2
        have HT := Lib.hid (Qt.text_any w5 g r.q.xs r.q.st dd nn hraw)
        have hgl := hraw.lt
        have HX := Lib.hid HQI4.out.1
        clear hraw HQI4
        go_wp2_with fail
        refine HT.out.mono ?_
        rintro e w6 ⟨rfl, rfl⟩
        go_wp2
        go_ret
        exact ⟨.inl ⟨_, a1, HE.out, rfl, by have := HX.out; show (⟨r.q.xs.toArray⟩ : ByteArray).size ≤ 1000; rw [bsize]; omega, by omega, hal, H4.out.1⟩, fr3_ln HL.out H4.out.2.1⟩
      | false =>
        have HRun2 := Lib.hid ((qd_on hal HRq.out HZ.out hd).symm.trans HRun.out)
        obtain ⟨a2, ha2⟩ : ∃ a2 : Nat, (a1 : Int) + 1 = a2 := ⟨a1 + 1, rfl⟩
        have hn2 : a1 + 1 = a2 := by omega
        have pf := Blk.frozen H4.out.1 1
        have plt := Blk.lt H4.out.1
        have HR := Lib.hid (show LAt (w5.setCell ⟨L, 1, none⟩ (.int .i64 (a2 : Int))) L o S a2 ∧ Qt.QAt (w5.setCell ⟨L, 1, none⟩ (.int .i64 (a2 : Int))) g r.q ∧ Fr3 L L L w (w5.setCell ⟨L, 1, none⟩ (.int .i64 (a2 : Int))) from ⟨H4.out.1.go a2, qat_set H4.out.2.2 H4.out.1 _, H4.out.2.1.set ⟨L, 1, none⟩ _ (.inl rfl)⟩)
        rw [hn2] at HRun2
        have HA1 := Lib.hid (And.intro hn2 (And.intro HAT.out HR.out.1.at_))
        clear hn2 H4
        go_wp2
        go_roundw
        case rel => exact ⟨a2, r.q, by have := HA1.out.1; omega, by have := HA1.out.1; omega, HRun2, Lib.hid HR.out.1, Lib.hid HR.out.2.1, HQI4, Lib.hid HR.out.2.2⟩
        case measure => rw [HA1.out.2.2, HA1.out.2.1]; have := HA1.out.1; omega
end Go.Proofs.YtalkjgijmceifaaGreatDoor
namespace Go.Proofs.YtalkjgijmceifaaGreatDoor
set_option maxRecDepth 100000
set_option linter.unusedSimpArgs false
set_option linter.unusedVariables false
set_option linter.unusedSectionVars false
variable [Tab]

def dK (k : Int) : Int := if endsK k = true then -1 else if opensK k = true then 1 else 0
def dSum : List Ev → Int
  | [] => 0
  | x :: l => dK x.k + dSum l
theorem stp_deep {st : List Pt} {x : Ev} (h : stepE st x = 0) : ((stepS st x).length : Int) = st.length + dK x.k := by
  cases st with
  | nil => exact absurd (show (19 : Int) = 0 from h) (by decide)
  | cons p r =>
    unfold stepS
    rw [if_pos h]
    have hg : goS (p :: r) x = if endsK x.k = true then r else if opensK x.k = true then ⟨x.k, 0, []⟩ :: { p with last := x.k } :: r else if x.k = 8 ∨ x.k = 11 then { p with last := x.k, keys := x.t.data.toList :: p.keys } :: r else { p with last := x.k } :: r := rfl
    rw [hg]
    unfold dK
    by_cases h1 : endsK x.k = true
    · rw [if_pos h1, if_pos h1, List.length_cons]; omega
    · rw [if_neg h1, if_neg h1]
      by_cases h2 : opensK x.k = true
      · rw [if_pos h2, if_pos h2]; simp only [List.length_cons]; omega
      · rw [if_neg h2, if_neg h2]
        split <;> simp only [List.length_cons] <;> omega
theorem rn_deep : ∀ {l : List Ev} {st : List Pt}, allOk st l → ((runS st l).length : Int) = st.length + dSum l
  | [], st, _ => by simp [runS, dSum]
  | x :: l, st, h => by
    have h1 := stp_deep h.1
    have h2 := rn_deep (l := l) h.2
    have e : runS st (x :: l) = runS (stepS st x) l := rfl
    rw [e, h2, h1]
    simp only [dSum]
    omega
theorem done_deep {st : List Pt} (h : doneB st = true) : st.length = 1 := by
  match st, h with
  | [p], _ => rfl
/-- A document's events leave one as deep as one was. -/
theorem doc_deep {l : List Ev} (h : allOk [topP] l) (hd : doneB (runS [topP] l) = true) {st : List Pt} (hs : allOk st l) : (runS st l).length = st.length := by
  have h1 := rn_deep h
  have h2 := done_deep hd
  have h3 := rn_deep hs
  simp only [List.length_cons, List.length_nil] at h1
  omega
end Go.Proofs.YtalkjgijmceifaaGreatDoor

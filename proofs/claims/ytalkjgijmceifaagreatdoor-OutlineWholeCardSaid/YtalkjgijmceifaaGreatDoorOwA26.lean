/-
  lines: Quoted.
  lines: reading and telling as plain functions: values of the kinds that syntaxes of lines have in common. No contract of a call is stated here.
  outline: what a line does, as a function of what is known (pure).
-/
import Derived.Test.YtalkjgijmceifaaGreatDoorOwA24
import Derived.Test.YtalkjgijmceifaaGreatDoorOwA25
import Derived.Test.YtalkjgijmceifaaGreatDoorOwA19
import Derived.Test.YtalkjgijmceifaaGreatDoorOwA15
import Derived.Test.YtalkjgijmceifaaGreatDoorOwA22
import Derived.Test.YtalkjgijmceifaaGreatDoorOwA10
namespace Go.Proofs.YtalkjgijmceifaaGreatDoor
open Go.RowKit Go.Maps
set_option maxRecDepth 100000
set_option linter.unusedSimpArgs false
set_option linter.unusedVariables false
set_option linter.unusedSectionVars false
variable [Tab] [Fo]

theorem line_q {w w' : World} {L g : Nat} {o : LO} {S : List UInt8} {a : Nat} (h : LAt w L o S a) (ht : Tch g Qt.qObj w w') : LAt w' L o S a := Blk.tch h ht (.inr (by simp only [Qt.qObj]; decide))
theorem fr3_q {w0 w w' : World} {L g : Nat} (hf : Fr3 L L L w0 w) (hg : w0.heap.size ≤ g) (ht : Tch g Qt.qObj w w') : Fr3 L L L w0 w' :=
  ⟨ht.os.trans hf.os, ht.tape.trans hf.tape, ht.output.trans hf.output, Nat.le_trans hf.size ht.size, fun k hk h1 h2 h3 => by
    have hk2 : k < w.heap.size := Nat.lt_of_lt_of_le hk hf.size
    obtain ⟨q, hq⟩ := heap_some (w := w) hk2
    rw [ht.block k q hq (.inl (by omega)), ← hq, hf.keep k hk h1 h2 h3]⟩
theorem fr3_ln {w w' : World} {L : Nat} {o : LO} {S : List UInt8} {a : Nat} (h : LAt w L o S a) (hf : Fr3 L L L w w') : LnF L w w' :=
  ⟨hf.os, hf.tape, hf.output, hf.size, fun k hk hn => by
    have hkL : k ≠ L := fun e => hn (by rw [e])
    rw [hf.keep k hk hkL hkL hkL]⟩
theorem grown_fr3 {w w' : World} {L : Nat} (h : w.grownBy w' (some L)) : Fr3 L L L w w' := ⟨h.os, h.tape, h.output, h.size, fun k hk h1 _ _ => h.block k hk (fun e => h1 (Option.some.inj e))⟩
theorem qat_set {w : World} {L g : Nat} {o : LO} {S : List UInt8} {a : Nat} {q : Qt.QS} (h : Qt.QAt w g q) (hl : LAt w L o S a) (u : Value) : Qt.QAt (w.setCell ⟨L, 1, none⟩ u) g q := by
  obtain ⟨d, n, ⟨v, hk, ho, h1, h2, h3⟩, h'⟩ := h
  have hl2 : w.heap[L]? = some (.cells #[.string ⟨S.toArray⟩, .int .i64 (a : Int), .pointer (some ⟨o.o, 0, none⟩), o.ot] 213 (0, 0)) := hl
  have hgL : g ≠ L := by
    rintro rfl
    unfold Blk at hk
    rw [hk] at hl2
    have e := Option.some.inj hl2
    injection e with _ e
    exact absurd e (by decide)
  refine ⟨d, n, ⟨v, hk.far (p := ⟨L, 1, none⟩) hgL u, ?_, h1, h2, by rw [Qt.size_set]; exact h3⟩, h'⟩
  unfold ORow at ho ⊢
  refine ⟨ho.1, ?_⟩
  rcases ho.2 with hv | ⟨g', cap, cur, hv, hg, hh, hr⟩
  · exact .inl hv
  · refine .inr ⟨g', cap, cur, hv, hg, (Below.heap_setCell w ⟨L, 1, none⟩ u g' ?_).trans hh, hr⟩
    rintro rfl
    rw [hh] at hl2
    have e := Option.some.inj hl2
    injection e with _ e
    exact absurd e (by decide)

/-- A quoted text, behind its first quote. -/
def qdRun : List UInt8 → Qt.QS → Nat → Option (ByteArray × Nat)
  | [], _, _ => none
  | b :: r, q, a => if (Qt.qStep q (b.toNat : Int)).e ≠ 0 then none else if (Qt.qStep q (b.toNat : Int)).done = true then some (⟨(Qt.qStep q (b.toNat : Int)).q.xs.toArray⟩, a) else qdRun r (Qt.qStep q (b.toNat : Int)).q (a + 1)
def quoP (S : List UInt8) (a : Nat) : Option (ByteArray × Nat) := (eatB S a 34).bind fun a1 => qdRun (S.drop a1) (Qt.plainQ []) a1
theorem qd_err {S : List UInt8} {q : Qt.QS} {a : Nat} (h : a < S.length) {r : Qt.QR} (hr : Qt.qStep q (S[a].toNat : Int) = r) (he : r.e ≠ 0) : qdRun (S.drop a) q a = none := by
  rw [List.drop_eq_getElem_cons h, qdRun, hr, if_pos he]
theorem qd_done {S : List UInt8} {q : Qt.QS} {a : Nat} (h : a < S.length) {r : Qt.QR} (hr : Qt.qStep q (S[a].toNat : Int) = r) (he : r.e = 0) (hd : r.done = true) : qdRun (S.drop a) q a = some (⟨r.q.xs.toArray⟩, a) := by
  rw [List.drop_eq_getElem_cons h, qdRun, hr, if_neg (by rw [he]; decide), if_pos hd]
theorem qd_on {S : List UInt8} {q : Qt.QS} {a : Nat} (h : a < S.length) {r : Qt.QR} (hr : Qt.qStep q (S[a].toNat : Int) = r) (he : r.e = 0) (hd : r.done = false) : qdRun (S.drop a) q a = qdRun (S.drop (a + 1)) r.q (a + 1) := by
  rw [List.drop_eq_getElem_cons h, qdRun, hr, if_neg (by rw [he]; decide), if_neg (by rw [hd]; decide)]
set_option maxHeartbeats 4000000 in
theorem quoted_any (w : World) (L : Nat) (o : LO) (S : List UInt8) (a : Nat) (h : LAt w L o S a) (hS : S.length ≤ 1000) (ha : a ≤ S.length) (hfl : Fo.lim ≤ w.heap.size) :
    Calls Tryz.prog 196 #[.pointer (some ⟨L, 0, none⟩)] w (TkP w L o S a (quoP S a)) := by
  have hC := expect_any w L o S a 34 h hS ha
  have HL := Lib.hid h
  have HC := Lib.hid hC
  clear hC h
  go_enter Tryz.func196, Tryz.ntmps196
  go_wp2_with fail
  refine HC.out.mono ?_
  rintro e w1 (⟨hb, rfl, h1, h2, h3, h4⟩ | ⟨hb, rfl, h1, h2, h3, h4⟩)
  case inr => exact ⟨rfl, .inr ⟨by unfold quoP eatB; rw [hb]; rfl, 2, a, by decide, rfl, h2, h3⟩, HL.out.lnf h4⟩
  obtain ⟨R, hR⟩ : ∃ R, qdRun (S.drop (a + 1)) (Qt.plainQ []) (a + 1) = R := ⟨_, rfl⟩
  have HQP : Hid (quoP S a = R) := Lib.hid (by unfold quoP eatB; rw [if_pos hb, ← hR]; rfl)
  have HR0 := Lib.hid hR
  clear hR
  have HF1 := Lib.hid (grown_fr3 h4)
  have H3 := Lib.hid h3
  have hQ := Qt.qnew_any w1 (Nat.le_trans hfl h4.size)
  clear h4 h3 hb HC
  go_wp2_with fail
  refine hQ.mono ?_
  rintro e w2 ⟨rfl, hq2, hb2⟩
  obtain ⟨g, hg⟩ : ∃ g, w1.heap.size = g := ⟨_, rfl⟩
  have hg0 : w.heap.size ≤ g := by rw [← hg]; exact HF1.out.size
  rw [hg] at hq2 ⊢
  have START := Lib.hid (show ∃ (a1 : Nat) (q : Qt.QS), a < a1 ∧ a1 ≤ S.length ∧ Hid (qdRun (S.drop a1) q a1 = R) ∧ Hid (LAt w2 L o S a1) ∧ Hid (Qt.QAt w2 g q) ∧ Hid (Qt.QInv q) ∧ Hid (Fr3 L L L w w2) from ⟨a + 1, _, Nat.lt_succ_self a, h2, HR0, Lib.hid (Blk.below H3.out hb2 (Blk.lt H3.out)), Lib.hid hq2, Lib.hid Qt.qInv0, Lib.hid (HF1.out.trans (Fr3.of_below hb2))⟩)
  clear hq2 hb2 hQ HF1 H3 hg
  go_wp2
  go_loopw [] (fun wr => ∃ (a1 : Nat) (q : Qt.QS), a < a1 ∧ a1 ≤ S.length ∧ Hid (qdRun (S.drop a1) q a1 = R) ∧ Hid (LAt wr L o S a1) ∧ Hid (Qt.QAt wr g q) ∧ Hid (Qt.QInv q) ∧ Hid (Fr3 L L L w wr)) (fun wr => S.length - atOf L wr)
  case atStart => exact START.out
  case round =>
    obtain ⟨a1, q, h1, h2, HRun, HLA, HQ, HQI, HF⟩ := hrel
    clear START
    have hC := over_any wr L o S a1 HLA.out hS (by omega)
    by_cases hov : a1 = S.length
    · rw [decide_eq_true hov] at hC
      have HC := Lib.hid hC
      have HE : Hid (quoP S a = none) := Lib.hid (by rw [HQP.out, ← HRun.out, List.drop_of_length_le (by omega)]; rfl)
      clear hC hov
      go_wp2_with fail
      refine HC.out.mono ?_
      rintro e w3 ⟨rfl, rfl⟩
      go_wp2_with fail
      refine (fail_any _ _ _).mono ?_
      rintro e w4 ⟨rfl, rfl⟩
      exact ⟨rfl, .inr ⟨HE.out, 2, a1, by decide, rfl, h2, HLA.out.drew 1⟩, fr3_ln HL.out (HF.out.trans (Fr3.of_below (below_drewN (Below.refl _ _) 1)))⟩
    · rw [decide_eq_false hov] at hC
      have hal : a1 < S.length := by omega
      have HC := Lib.hid hC
      have hz := bsize S
      clear hC
      go_wp2_with fail
      refine HC.out.mono ?_
      rintro e w3 ⟨rfl, rfl⟩
      have l0 : wr.cell? ⟨L, 0, none⟩ = some (.string ⟨S.toArray⟩) := Blk.cell HLA.out 0
      have l1 : wr.cell? ⟨L, 1, none⟩ = some (.int .i64 (a1 : Int)) := Blk.cell HLA.out 1
      have hlt := Blk.lt HLA.out
      have hSt := Qt.qstep_any (wr.drewN 2) g q (S[a1].toNat : Int) (by omega) (by have := S[a1].toNat_lt; omega) (HQ.out.below (below_drewN (Below.refl _ _) 2)) HQI.out
      have hqi := Qt.qInv_step (b := (S[a1].toNat : Int)) HQI.out
      obtain ⟨r, hr⟩ : ∃ r, Qt.qStep q (S[a1].toNat : Int) = r := ⟨_, rfl⟩
      rw [hr] at hSt hqi
      have HSt := Lib.hid hSt
      have HRq := Lib.hid hr
      have HQI4 := Lib.hid hqi
      have HAT := Lib.hid HLA.out.at_
      clear hSt hqi hr HC
      go_wp2
      refine region_g [] (S := (fun W => W.cell? ⟨L, 0, none⟩ = some (.string ⟨S.toArray⟩) ∧ W.cell? ⟨L, 1, none⟩ = some (.int .i64 (a1 : Int)))) (by kernel_rfl) ⟨l0, l1⟩ (fun hH => ?_)
      refine g_take (i := 0) (v := .pointer (some ⟨g, 0, none⟩)) (by rfl) (by kernel_rfl) (by kernel_rfl) (by kernel_rfl) (by kernel_rfl) (fun _ _ _ h => (by cases h.1)) (Or.inl ⟨by kernel_rfl, fun W hS => (by obtain ⟨s0, s1⟩ := hS; go_simp)⟩) hH ?_
      simp only [Act.put, List.setIfInBounds_toArray, List.set_cons_zero, List.set_cons_succ]
      refine g_take (i := 1) (v := .pointer (some ⟨L, 0, none⟩)) (by rfl) (by kernel_rfl) (by kernel_rfl) (by kernel_rfl) (by kernel_rfl) (fun _ _ _ h => (by cases h.1)) (Or.inl ⟨by kernel_rfl, fun W hS => (by obtain ⟨s0, s1⟩ := hS; go_simp)⟩) hH ?_
      simp only [Act.put, List.setIfInBounds_toArray, List.set_cons_zero, List.set_cons_succ]
      refine g_take (i := 2) (v := .pointer (some ⟨L, 0, none⟩)) (by rfl) (by kernel_rfl) (by kernel_rfl) (by kernel_rfl) (by kernel_rfl) (fun _ _ _ h => (by cases h.1)) (Or.inl ⟨by kernel_rfl, fun W hS => (by obtain ⟨s0, s1⟩ := hS; go_simp)⟩) hH ?_
      simp only [Act.put, List.setIfInBounds_toArray, List.set_cons_zero, List.set_cons_succ]
      refine g_take (i := 3) (v := .pointer (some ⟨L, 0, none⟩)) (by rfl) (by kernel_rfl) (by kernel_rfl) (by kernel_rfl) (by kernel_rfl) (fun _ _ _ h => (by cases h.1)) (Or.inl ⟨by kernel_rfl, fun W hS => (by obtain ⟨s0, s1⟩ := hS; go_simp)⟩) hH ?_
      simp only [Act.put, List.setIfInBounds_toArray, List.set_cons_zero, List.set_cons_succ]
      refine g_take (i := 4) (v := .string ⟨S.toArray⟩) (by rfl) (by kernel_rfl) (by kernel_rfl) (by kernel_rfl) (by kernel_rfl) (fun _ _ _ h => (by cases h.1)) (Or.inl ⟨by kernel_rfl, fun W hS => (by obtain ⟨s0, s1⟩ := hS; go_simp)⟩) hH ?_
      simp only [Act.put, List.setIfInBounds_toArray, List.set_cons_zero, List.set_cons_succ]
      refine g_take (i := 5) (v := .pointer (some ⟨L, 0, none⟩)) (by rfl) (by kernel_rfl) (by kernel_rfl) (by kernel_rfl) (by kernel_rfl) (fun _ _ _ h => (by cases h.1)) (Or.inl ⟨by kernel_rfl, fun W hS => (by obtain ⟨s0, s1⟩ := hS; go_simp)⟩) hH ?_
      simp only [Act.put, List.setIfInBounds_toArray, List.set_cons_zero, List.set_cons_succ]
      refine g_take (i := 6) (v := .pointer (some ⟨L, 0, none⟩)) (by rfl) (by kernel_rfl) (by kernel_rfl) (by kernel_rfl) (by kernel_rfl) (fun _ _ _ h => (by cases h.1)) (Or.inl ⟨by kernel_rfl, fun W hS => (by obtain ⟨s0, s1⟩ := hS; go_simp)⟩) hH ?_
      simp only [Act.put, List.setIfInBounds_toArray, List.set_cons_zero, List.set_cons_succ]
      refine g_take (i := 7) (v := .pointer (some ⟨L, 1, none⟩)) (by rfl) (by kernel_rfl) (by kernel_rfl) (by kernel_rfl) (by kernel_rfl) (fun _ _ _ h => (by cases h.1)) (Or.inl ⟨by kernel_rfl, fun W hS => (by obtain ⟨s0, s1⟩ := hS; go_simp)⟩) hH ?_
      simp only [Act.put, List.setIfInBounds_toArray, List.set_cons_zero, List.set_cons_succ]
      refine g_take (i := 8) (v := .int .i64 (a1 : Int)) (by rfl) (by kernel_rfl) (by kernel_rfl) (by kernel_rfl) (by kernel_rfl) (fun _ _ _ h => (by cases h.1)) (Or.inl ⟨by kernel_rfl, fun W hS => (by obtain ⟨s0, s1⟩ := hS; go_simp)⟩) hH ?_
      simp only [Act.put, List.setIfInBounds_toArray, List.set_cons_zero, List.set_cons_succ]
      refine g_take (i := 9) (v := .int .u8 (S[a1].toNat : Int)) (by rfl) (by kernel_rfl) (by kernel_rfl) (by kernel_rfl) (by kernel_rfl) (fun _ _ _ h => (by cases h.1)) (Or.inl ⟨by kernel_rfl, fun W hS => (by obtain ⟨s0, s1⟩ := hS; go_simp; rfl)⟩) hH ?_
      simp only [Act.put, List.setIfInBounds_toArray, List.set_cons_zero, List.set_cons_succ]
      refine g_one (i := 10) (by kernel_rfl) (by rfl) (fun K hK => ?_)
      go_simp
      refine HSt.out.mono ?_
      rintro e w4 ⟨rfl, hq4, ht4⟩
      unfold Qt.StepEnd
      have hLA4 := line_q (w := wr.drewN 2) (HLA.out.drew 2) ht4
      have hF4 := fr3_q (w := wr.drewN 2) (HF.out.trans (Fr3.of_below (below_drewN (Below.refl _ _) 2))) hg0 ht4
      have n0 : w4.cell? ⟨L, 0, none⟩ = some (.string ⟨S.toArray⟩) := Blk.cell hLA4 0
      have n1 : w4.cell? ⟨L, 1, none⟩ = some (.int .i64 (a1 : Int)) := Blk.cell hLA4 1
      have H4 := Lib.hid (And.intro hLA4 (And.intro hF4 hq4))
      clear hLA4 hF4 hq4 ht4 HSt
      refine hK.out _ _ (fun _ => ⟨n0, n1⟩) (fun _ => ?_)
      clear hK K
      refine g_one (i := 11) (by kernel_rfl) (by rfl) (fun K hK => ?_)
      go_simp
      refine hK.out _ _ (fun _ => ⟨n0, n1⟩) (fun _ => ?_)
      clear hK K
      have hH : w4.cell? ⟨L, 0, none⟩ = some (.string ⟨S.toArray⟩) ∧ w4.cell? ⟨L, 1, none⟩ = some (.int .i64 (a1 : Int)) := ⟨n0, n1⟩
      refine g_take (i := 12) (v := .bool r.done) (by rfl) (by kernel_rfl) (by kernel_rfl) (by kernel_rfl) (by kernel_rfl) (fun _ _ _ h => (by cases h.1)) (Or.inl ⟨by kernel_rfl, fun W hS => (by obtain ⟨s0, s1⟩ := hS; go_simp)⟩) hH ?_
      simp only [Act.put, List.setIfInBounds_toArray, List.set_cons_zero, List.set_cons_succ]
      refine g_take (i := 13) (v := .int .i64 r.e) (by rfl) (by kernel_rfl) (by kernel_rfl) (by kernel_rfl) (by kernel_rfl) (fun _ _ _ h => (by cases h.1)) (Or.inl ⟨by kernel_rfl, fun W hS => (by obtain ⟨s0, s1⟩ := hS; go_simp)⟩) hH ?_
      simp only [Act.put, List.setIfInBounds_toArray, List.set_cons_zero, List.set_cons_succ]
      refine g_one (i := 14) (by kernel_rfl) (by rfl) (fun K hK => ?_)
      go_simp
      refine hK.out _ _ (fun _ => ⟨n0, n1⟩) (fun _ => ?_)
      clear hK K
      refine g_one (i := 15) (by kernel_rfl) (by rfl) (fun K hK => ?_)
      go_simp
      refine hK.out _ _ (fun _ => ⟨n0, n1⟩) (fun _ => ?_)
      clear hK K
      refine g_done (by kernel_rfl) ⟨by first | rfl | trivial, ?_⟩ _
      clear HLA HQ HQI HF l0 l1 hlt hH hz
      go_wp2_with fail
      refine (must_any _ _ r.e).mono ?_
      rintro e w5 ⟨⟨hz0, rfl⟩ | ⟨hk0, rfl⟩, rfl⟩
      case inr => exact ⟨rfl, .inr ⟨by rw [HQP.out, ← HRun.out, qd_err hal HRq.out hk0], _, a1, hk0, rfl, h2, H4.out.1⟩, fr3_ln HL.out H4.out.2.1⟩
      have HZ := Lib.hid hz0
      cases hd : r.done with
      | true =>
        have HE : Hid (quoP S a = some (⟨r.q.xs.toArray⟩, a1)) := Lib.hid (by rw [HQP.out, ← HRun.out, qd_done hal HRq.out HZ.out hd])
        obtain ⟨dd, nn, hraw, _⟩ := H4.out.2.2
        have HT := Lib.hid (Qt.text_any w5 g r.q.xs r.q.st dd nn hraw)
        have hgl := hraw.lt
        have HX := Lib.hid HQI4.out.1
        clear hraw HQI4
        go_wp2_with fail
        refine HT.out.mono ?_
        rintro e w6 ⟨rfl, rfl⟩
        go_wp2
        go_ret
        exact ⟨.inl ⟨_, a1, HE.out, rfl, by have := HX.out; show (⟨r.q.xs.toArray⟩ : ByteArray).size ≤ 1000; rw [bsize]; omega, by omega, hal, H4.out.1⟩, fr3_ln HL.out H4.out.2.1⟩
      | false =>
        have HRun2 := Lib.hid ((qd_on hal HRq.out HZ.out hd).symm.trans HRun.out)
        obtain ⟨a2, ha2⟩ : ∃ a2 : Nat, (a1 : Int) + 1 = a2 := ⟨a1 + 1, rfl⟩
        have hn2 : a1 + 1 = a2 := by omega
        have pf := Blk.frozen H4.out.1 1
        have plt := Blk.lt H4.out.1
        have HR := Lib.hid (show LAt (w5.setCell ⟨L, 1, none⟩ (.int .i64 (a2 : Int))) L o S a2 ∧ Qt.QAt (w5.setCell ⟨L, 1, none⟩ (.int .i64 (a2 : Int))) g r.q ∧ Fr3 L L L w (w5.setCell ⟨L, 1, none⟩ (.int .i64 (a2 : Int))) from ⟨H4.out.1.go a2, qat_set H4.out.2.2 H4.out.1 _, H4.out.2.1.set ⟨L, 1, none⟩ _ (.inl rfl)⟩)
        rw [hn2] at HRun2
        have HA1 := Lib.hid (And.intro hn2 (And.intro HAT.out HR.out.1.at_))
        clear hn2 H4
        go_wp2
        go_roundw
        case rel => exact ⟨a2, r.q, by have := HA1.out.1; omega, by have := HA1.out.1; omega, HRun2, Lib.hid HR.out.1, Lib.hid HR.out.2.1, HQI4, Lib.hid HR.out.2.2⟩
        case measure => rw [HA1.out.2.2, HA1.out.2.1]; have := HA1.out.1; omega
end Go.Proofs.YtalkjgijmceifaaGreatDoor
namespace Go.Proofs.YtalkjgijmceifaaGreatDoor
set_option maxRecDepth 100000
set_option linter.unusedSimpArgs false
set_option linter.unusedVariables false
set_option linter.unusedSectionVars false
variable [Tab] [Fo]

/-- How events are told: none where one is refused. -/
structure TM (σ : Type) where
  tell : σ → Ev → Option σ
  len : σ → Nat
  dep : σ → Int
  tl : ∀ {x e x'}, tell x e = some x' → len x' = len x + 1
  td : ∀ {x e x'}, tell x e = some x' → dep x' = dep x + dK e.k
def evB (k : Int) : Ev := ⟨k, ⟨#[]⟩, ⟨#[]⟩⟩
def evT (k : Int) (t : ByteArray) : Ev := ⟨k, t, ⟨#[]⟩⟩
def trueL : List UInt8 := [116, 114, 117, 101]
def falseL : List UInt8 := [102, 97, 108, 115, 101]
section
variable {σ : Type} (M : TM σ)
/-- An event is told at a byte, which is read then. -/
def lastM (a : Nat) (x : σ) (e : Ev) : Option (Nat × σ) := (M.tell x e).map fun x' => (a + 1, x')
def valueG (S : List UInt8) (val fld : Nat → σ → Option (Nat × σ)) (a : Nat) (x : σ) : Option (Nat × σ) :=
  if isB S a 91 = true then (M.tell x (evB 5)).bind fun x1 => (partsG S 93 val (a + 1) x1).bind fun q => lastM M q.1 q.2 (evB 6)
  else if isB S a 123 = true then (M.tell x (evB 7)).bind fun x1 => (partsG S 125 fld (a + 1) x1).bind fun q => lastM M q.1 q.2 (evB 9)
  else if isB S a 34 = true then (quoP S a).bind fun q => lastM M q.2 x (evT 4 q.1)
  else if isB S a 116 = true then (wordP S trueL a).bind fun a1 => lastM M a1 x (evT 2 ⟨trueL.toArray⟩)
  else if isB S a 102 = true then (wordP S falseL a).bind fun a1 => lastM M a1 x (evT 2 ⟨falseL.toArray⟩)
  else (numP S a).bind fun q => lastM M q.2 x (evT 3 q.1)
/-- What telling a value does: it reads on, tells at most two events a byte, and leaves one as deep as one was. -/
def Fa (S : List UInt8) (f : Nat → σ → Option (Nat × σ)) : Prop := ∀ a x a' x', f a x = some (a', x') → a < a' ∧ a' ≤ S.length ∧ M.len x' ≤ M.len x + 2 * (a' - a) ∧ M.dep x' = M.dep x
variable {M}
theorem lastM_some {a : Nat} {x : σ} {e : Ev} {a' : Nat} {x' : σ} (h : lastM M a x e = some (a', x')) : a' = a + 1 ∧ M.tell x e = some x' := by
  unfold lastM at h
  cases ht : M.tell x e with
  | none => rw [ht] at h; cases h
  | some y => rw [ht] at h; cases h; exact ⟨rfl, rfl⟩
theorem last_fa {a : Nat} {x : σ} {e : Ev} {a' : Nat} {x' : σ} (h : lastM M a x e = some (a', x')) : a' = a + 1 ∧ M.len x' = M.len x + 1 ∧ M.dep x' = M.dep x + dK e.k := by
  obtain ⟨h1, h2⟩ := lastM_some h
  exact ⟨h1, M.tl h2, M.td h2⟩
variable {S : List UInt8}
theorem blk_le {a : Nat} (h : a ≤ S.length) : blk S a ≤ S.length := by
  unfold blk
  have h1 : ((S.drop a).takeWhile (· == 32)).length ≤ (S.drop a).length := (List.takeWhile_sublist _).length_le
  rw [List.length_drop] at h1
  omega
theorem pLoop_fa {b : UInt8} {p : Nat → σ → Option (Nat × σ)} (hp : Fa M S p) : ∀ (n a : Nat) (x : σ) (a' : Nat) (x' : σ), pLoop S b p n a x = some (a', x') → a ≤ a' ∧ isB S a' b = true ∧ M.len x' ≤ M.len x + 2 * (a' - a) ∧ M.dep x' = M.dep x
  | 0, _, _, _, _, h => by cases h
  | n + 1, a, x, a', x', h => by
    rw [pLoop] at h
    split at h
    · have h0 := le_blk S (a + 1)
      cases hq : p (blk S (a + 1)) x with
      | none => rw [hq] at h; cases h
      | some q =>
        obtain ⟨a2, x2⟩ := q
        rw [hq] at h
        obtain ⟨h1, h2, h3, h4⟩ := hp _ _ _ _ hq
        obtain ⟨k1, k2, k3, k4⟩ := pLoop_fa hp n (blk S a2) x2 a' x' h
        have h5 := le_blk S a2
        exact ⟨by omega, k2, by omega, by omega⟩
    · split at h
      · rename_i hb
        cases h
        exact ⟨Nat.le_refl _, hb, by omega, rfl⟩
      · cases h
theorem parts_fa {b : UInt8} {p : Nat → σ → Option (Nat × σ)} (hp : Fa M S p) {a : Nat} {x : σ} {a' : Nat} {x' : σ} (h : partsG S b p a x = some (a', x')) : a ≤ a' ∧ isB S a' b = true ∧ M.len x' ≤ M.len x + 2 * (a' - a) ∧ M.dep x' = M.dep x := by
  unfold partsG at h
  have h0 := le_blk S a
  split at h
  · rename_i hb
    cases h
    exact ⟨h0, hb, by omega, rfl⟩
  · cases hq : p (blk S a) x with
    | none => rw [hq] at h; cases h
    | some q =>
      obtain ⟨a2, x2⟩ := q
      rw [hq] at h
      obtain ⟨h1, h2, h3, h4⟩ := hp _ _ _ _ hq
      obtain ⟨k1, k2, k3, k4⟩ := pLoop_fa hp _ (blk S a2) x2 a' x' h
      have h5 := le_blk S a2
      exact ⟨by omega, k2, by omega, by omega⟩
theorem lgRun_len {g : ByteArray → UInt8 → Bool} {mx : Nat} : ∀ (l : List UInt8) (s t : ByteArray), lgRun g mx l s = some t → t.size ≤ s.size + l.length
  | [], s, t, h => by rw [lgRun] at h; cases h; simp
  | b :: r, s, t, h => by
    rw [lgRun] at h
    split at h
    · split at h
      · cases h
      · have h1 := lgRun_len r _ t h
        have h2 : (s ++ (⟨#[b]⟩ : ByteArray)).size = s.size + 1 := ByteArray.size_append
        rw [List.length_cons]
        omega
    · cases h; simp
theorem lgP_fa {g : ByteArray → UInt8 → Bool} {mx : Nat} {et : ByteArray → ByteArray} {ec : ByteArray → Int} (h0 : ∀ s, ec s = 0 → 0 < s.size) {a : Nat} {t : ByteArray} {a' : Nat} (h : lgP g mx et ec S a = some (t, a')) : a ≤ a' ∧ a' < S.length := by
  unfold lgP at h
  cases hr : lgRun g mx (S.drop a) ⟨#[]⟩ with
  | none => rw [hr] at h; cases h
  | some s =>
    rw [hr] at h
    have h' : (if ec s = 0 then some (et s, a + s.size - 1) else none) = some (t, a') := h
    split at h'
    · rename_i he
      have h1 := h0 s he
      have h2 := lgRun_len _ _ _ hr
      rw [List.length_drop] at h2
      have h3 : (⟨#[]⟩ : ByteArray).size = 0 := rfl
      have h4 : a + s.size - 1 = a' := by injection h' with h'; injection h'
      omega
    · cases h'
theorem num_fa {a : Nat} {t : ByteArray} {a' : Nat} (h : numP S a = some (t, a')) : a ≤ a' ∧ a' < S.length := lgP_fa tkNum.ec0 h
theorem name_fa {a : Nat} {t : ByteArray} {a' : Nat} (h : nameP S a = some (t, a')) : a ≤ a' ∧ a' < S.length := lgP_fa tkName.ec0 h
theorem bare_fa {a : Nat} {t : ByteArray} {a' : Nat} (h : bareP S a = some (t, a')) : a ≤ a' ∧ a' < S.length := lgP_fa tkBare.ec0 h
theorem meetB_some {a : Nat} {b : UInt8} {a' : Nat} (h : meetB S a b = some a') : a' = a ∧ a < S.length := by
  unfold meetB at h
  split at h
  · rename_i hb; cases h; exact ⟨rfl, isB_true hb⟩
  · cases h
theorem eatB_some {a : Nat} {b : UInt8} {a' : Nat} (h : eatB S a b = some a') : a' = a + 1 ∧ a < S.length := by
  unfold eatB at h
  split at h
  · rename_i hb; cases h; exact ⟨rfl, isB_true hb⟩
  · cases h
theorem word_fa : ∀ (wd : List UInt8) (a a' : Nat), wordP S wd a = some a' → a ≤ a' ∧ a' < S.length
  | [], _, _, h => by cases h
  | [b], a, a', h => by
    obtain ⟨h1, h2⟩ := meetB_some (show meetB S a b = some a' from h)
    omega
  | b :: c :: r, a, a', h => by
    rw [wordP] at h
    cases he : eatB S a b with
    | none => rw [he] at h; cases h
    | some a1 =>
      rw [he] at h
      obtain ⟨h1, h2⟩ := eatB_some he
      have := word_fa (c :: r) a1 a' h
      omega
theorem qd_fa : ∀ (l : List UInt8) (q : Qt.QS) (a : Nat) (t : ByteArray) (a' : Nat), qdRun l q a = some (t, a') → a ≤ a' ∧ a' < a + l.length
  | [], _, _, _, _, h => by cases h
  | b :: r, q, a, t, a', h => by
    rw [qdRun] at h
    split at h
    · cases h
    · split at h
      · have h1 : a = a' := by injection h with h; injection h
        rw [List.length_cons]
        omega
      · have := qd_fa r _ _ _ _ h
        rw [List.length_cons]
        omega
theorem quo_fa {a : Nat} {t : ByteArray} {a' : Nat} (h : quoP S a = some (t, a')) : a < a' ∧ a' < S.length := by
  unfold quoP at h
  cases he : eatB S a 34 with
  | none => rw [he] at h; cases h
  | some a1 =>
    rw [he] at h
    obtain ⟨h1, h2⟩ := eatB_some he
    have := qd_fa _ _ _ _ _ (show qdRun (S.drop a1) (Qt.plainQ []) a1 = some (t, a') from h)
    rw [List.length_drop] at this
    omega
theorem qd_sz : ∀ (l : List UInt8) (q : Qt.QS) (a : Nat) (t : ByteArray) (a' : Nat), Qt.QInv q → qdRun l q a = some (t, a') → t.size ≤ 1000
  | [], _, _, _, _, _, h => by cases h
  | b :: r, q, a, t, a', hq, h => by
    have h1 := Qt.qInv_step (b := (b.toNat : Int)) hq
    rw [qdRun] at h
    split at h
    · cases h
    · split at h
      · have h2 : (⟨(Qt.qStep q (b.toNat : Int)).q.xs.toArray⟩ : ByteArray) = t := by injection h with h; injection h
        rw [← h2, bsize]
        have := h1.1
        omega
      · exact qd_sz r _ _ _ _ h1 h
theorem quo_sz {a : Nat} {t : ByteArray} {a' : Nat} (h : quoP S a = some (t, a')) : t.size ≤ 1000 := by
  unfold quoP at h
  cases he : eatB S a 34 with
  | none => rw [he] at h; cases h
  | some a1 => rw [he] at h; exact qd_sz _ _ _ _ _ Qt.qInv0 (show qdRun (S.drop a1) (Qt.plainQ []) a1 = some (t, a') from h)
theorem lgRun_sz {g : ByteArray → UInt8 → Bool} {mx : Nat} : ∀ (l : List UInt8) (s t : ByteArray), s.size ≤ mx → lgRun g mx l s = some t → t.size ≤ mx
  | [], s, t, hs, h => by rw [lgRun] at h; cases h; exact hs
  | b :: r, s, t, hs, h => by
    rw [lgRun] at h
    split at h
    · split at h
      · cases h
      · have h2 : (s ++ (⟨#[b]⟩ : ByteArray)).size = s.size + 1 := ByteArray.size_append
        exact lgRun_sz r _ t (by omega) h
    · cases h; exact hs
theorem lgP_sz {g : ByteArray → UInt8 → Bool} {mx : Nat} {et : ByteArray → ByteArray} {ec : ByteArray → Int} (hm : mx ≤ 900) (hz : ∀ s, s.size ≤ 1000 → (et s).size ≤ 1000) {a : Nat} {t : ByteArray} {a' : Nat} (h : lgP g mx et ec S a = some (t, a')) : t.size ≤ 1000 := by
  unfold lgP at h
  cases hr : lgRun g mx (S.drop a) ⟨#[]⟩ with
  | none => rw [hr] at h; cases h
  | some s =>
    rw [hr] at h
    have h' : (if ec s = 0 then some (et s, a + s.size - 1) else none) = some (t, a') := h
    split at h'
    · have h4 : et s = t := by injection h' with h'; injection h'
      have := lgRun_sz _ _ _ (Nat.zero_le _) hr
      rw [← h4]
      exact hz s (by omega)
    · cases h'
theorem num_sz {a : Nat} {t : ByteArray} {a' : Nat} (h : numP S a = some (t, a')) : t.size ≤ 1000 := lgP_sz tkNum.mx9 tkNum.etz h
theorem name_sz {a : Nat} {t : ByteArray} {a' : Nat} (h : nameP S a = some (t, a')) : t.size ≤ 1000 := lgP_sz tkName.mx9 tkName.etz h
theorem bare_sz {a : Nat} {t : ByteArray} {a' : Nat} (h : bareP S a = some (t, a')) : t.size ≤ 1000 := lgP_sz tkBare.mx9 tkBare.etz h
theorem value_fa {val fld : Nat → σ → Option (Nat × σ)} (hv : Fa M S val) (hf : Fa M S fld) : Fa M S (valueG M S val fld) := by
  intro a x a' x' h
  unfold valueG at h
  have two : ∀ (b1 b2 : UInt8) (e1 e2 : Ev) (p : Nat → σ → Option (Nat × σ)), Fa M S p → dK e1.k = 1 → dK e2.k = -1 → isB S a b1 = true → ((M.tell x e1).bind fun x1 => (partsG S b2 p (a + 1) x1).bind fun q => lastM M q.1 q.2 e2) = some (a', x') → a < a' ∧ a' ≤ S.length ∧ M.len x' ≤ M.len x + 2 * (a' - a) ∧ M.dep x' = M.dep x := by
    intro b1 b2 e1 e2 p hp d1 d2 hb h
    have hal := isB_true hb
    cases ht : M.tell x e1 with
    | none => rw [ht] at h; cases h
    | some x1 =>
      rw [ht] at h
      have h' : ((partsG S b2 p (a + 1) x1).bind fun q => lastM M q.1 q.2 e2) = some (a', x') := h
      cases hq : partsG S b2 p (a + 1) x1 with
      | none => rw [hq] at h'; cases h'
      | some q =>
        obtain ⟨a2, x2⟩ := q
        rw [hq] at h'
        obtain ⟨k1, k2, k3, k4⟩ := parts_fa hp hq
        obtain ⟨j1, j2, j3⟩ := last_fa (show lastM M a2 x2 e2 = some (a', x') from h')
        have := M.tl ht
        have := M.td ht
        have := isB_true k2
        refine ⟨by omega, by omega, by omega, ?_⟩
        rw [j3, k4, M.td ht, d1, d2]
        omega
  have one : ∀ (a2 : Nat) (e : Ev), dK e.k = 0 → a ≤ a2 → a2 < S.length → lastM M a2 x e = some (a', x') → a < a' ∧ a' ≤ S.length ∧ M.len x' ≤ M.len x + 2 * (a' - a) ∧ M.dep x' = M.dep x := by
    intro a2 e d h1 h2 h3
    obtain ⟨j1, j2, j3⟩ := last_fa h3
    exact ⟨by omega, by omega, by omega, by rw [j3, d]; omega⟩
  split at h
  · exact two 91 93 _ _ val hv rfl rfl (by assumption) h
  · split at h
    · exact two 123 125 _ _ fld hf rfl rfl (by assumption) h
    · split at h
      · cases hq : quoP S a with
        | none => rw [hq] at h; cases h
        | some q =>
          obtain ⟨t, a2⟩ := q
          rw [hq] at h
          obtain ⟨h1, h2⟩ := quo_fa hq
          exact one a2 _ rfl (by omega) h2 h
      · split at h
        · cases hq : wordP S trueL a with
          | none => rw [hq] at h; cases h
          | some a2 =>
            rw [hq] at h
            obtain ⟨h1, h2⟩ := word_fa _ _ _ hq
            exact one a2 _ rfl h1 h2 h
        · split at h
          · cases hq : wordP S falseL a with
            | none => rw [hq] at h; cases h
            | some a2 =>
              rw [hq] at h
              obtain ⟨h1, h2⟩ := word_fa _ _ _ hq
              exact one a2 _ rfl h1 h2 h
          · cases hq : numP S a with
            | none => rw [hq] at h; cases h
            | some q =>
              obtain ⟨t, a2⟩ := q
              rw [hq] at h
              obtain ⟨h1, h2⟩ := num_fa hq
              exact one a2 _ rfl h1 h2 h
end
end Go.Proofs.YtalkjgijmceifaaGreatDoor
namespace Go.Proofs.YtalkjgijmceifaaGreatDoor
set_option maxRecDepth 100000
set_option linter.unusedSimpArgs false
set_option linter.unusedVariables false
set_option linter.unusedSectionVars false
variable [Tab] [Fo]

structure Ox where
  st : List Pt
  l : List Ev
  am : Am
  bk : List Int
  lk : Bool
  en : Bool
def tellO (x : Ox) (e : Ev) : Option Ox := if stepE x.st e = 0 ∧ stepAE x.am e = 0 then some { x with st := stepS x.st e, l := x.l ++ [e], am := stepAM x.am e } else none
def lenO (x : Ox) : Nat := x.l.length + (40 - x.am.told)
def depO (x : Ox) : Int := x.st.length - x.bk.length
theorem tellO_some {x x' : Ox} {e : Ev} (h : tellO x e = some x') : stepE x.st e = 0 ∧ stepAE x.am e = 0 ∧ x' = { x with st := stepS x.st e, l := x.l ++ [e], am := stepAM x.am e } := by
  unfold tellO at h
  split at h
  · rename_i h0; exact ⟨h0.1, h0.2, (Option.some.inj h).symm⟩
  · cases h
theorem stepAM_told (s : Am) (x : Ev) : (stepAM s x).told = s.told := by unfold stepAM; split <;> rfl
theorem tellO_len {x x' : Ox} {e : Ev} (h : tellO x e = some x') : lenO x' = lenO x + 1 ∧ depO x' = depO x + dK e.k ∧ x'.bk = x.bk ∧ x'.lk = x.lk ∧ x'.en = x.en ∧ x'.am.told = x.am.told ∧ x'.l.length = x.l.length + 1 := by
  obtain ⟨h1, h2, rfl⟩ := tellO_some h
  have hd := stp_deep h1
  refine ⟨?_, ?_, rfl, rfl, rfl, stepAM_told _ _, by simp⟩
  · unfold lenO
    simp only [List.length_append, List.length_singleton, stepAM_told]
    omega
  · unfold depO
    simp only
    omega
@[reducible] def olM : TM Ox where
  tell := tellO
  len := lenO
  dep := depO
  tl := fun h => (tellO_len h).1
  td := fun h => (tellO_len h).2.1
structure TkO (x : Ox) : Prop where
  ok : allOk [topP] x.l
  run : x.st = runS [topP] x.l
  sz : ∀ e ∈ x.l, okE e
  good : Good x.st
  an : AInv x.am
theorem tkO_tell {x x' : Ox} {e : Ev} (h : TkO x) (he : okE e) (ht : tellO x e = some x') : TkO x' := by
  obtain ⟨h0, h0', rfl⟩ := tellO_some ht
  obtain ⟨h1, h2, h3, h4, h5⟩ := h
  refine ⟨?_, ?_, ?_, good_step h4 e, ainv_step h5 e⟩
  · rw [h2] at h0
    exact (allOk_snoc _ _ _).2 ⟨h1, h0⟩
  · show stepS x.st e = _
    rw [runS_snoc, ← h2]
  · intro y hy
    rcases List.mem_append.1 hy with hy | hy
    · exact h3 y hy
    · rw [List.mem_singleton.1 hy]; exact he
theorem TkO.of {x y : Ox} (h : TkO x) (h1 : y.st = x.st) (h2 : y.l = x.l) (h3 : y.am = x.am) : TkO y := ⟨by rw [h2]; exact h.ok, by rw [h1, h2]; exact h.run, by rw [h2]; exact h.sz, by rw [h1]; exact h.good, by rw [h3]; exact h.an⟩
theorem TkO.st7 {x : Ox} (h : TkO x) : 1 ≤ x.st.length ∧ x.st.length ≤ 7 := ⟨by obtain ⟨p, r, e⟩ := h.good.ne; rw [e]; simp, h.good.2⟩
/-- Where one is as deep as a text begins, and something was told, the document has ended. -/
theorem step_one {st : List Pt} {x : Ev} (h : stepE st x = 0) (hg : Good st) (hl : (stepS st x).length = 1) : doneB (stepS st x) = true := by
  unfold stepS at hl ⊢
  rw [if_pos h] at hl ⊢
  obtain ⟨p, r, rfl⟩ := hg.ne
  obtain ⟨hf, _⟩ := cont_of h
  have hk0 : x.k ≠ 0 := by
    intro e
    unfold formedB at hf
    rw [e] at hf
    simp [bareK] at hf
  simp only [goS] at hl ⊢
  split at hl
  · rename_i h1
    rw [if_pos h1]
    have ho := hg.1
    match r, hl, ho with
    | [q], _, ho =>
      have h2 := ho.2.1
      show decide (q.last ≠ 0) = true
      rw [decide_eq_true_iff]
      intro e
      rw [e] at h2
      exact absurd h2 (by decide)
  · rename_i h1
    rw [if_neg h1]
    split at hl
    · simp at hl
    · rename_i h2
      rw [if_neg h2]
      split at hl
      · rename_i h3
        rw [if_pos h3]
        have : r = [] := by simpa using hl
        subst this
        show decide (x.k ≠ 0) = true
        simpa using hk0
      · rename_i h3
        rw [if_neg h3]
        have : r = [] := by simpa using hl
        subst this
        show decide (x.k ≠ 0) = true
        simpa using hk0
theorem run_one {l : List Ev} (h : allOk [topP] l) (h0 : l ≠ []) (hl : (runS [topP] l).length = 1) : doneB (runS [topP] l) = true := by
  obtain ⟨r, e, rfl⟩ : ∃ r e, l = r ++ [e] := ⟨l.dropLast, l.getLast h0, (List.dropLast_concat_getLast h0).symm⟩
  obtain ⟨h1, h2⟩ := (allOk_snoc _ _ _).1 h
  rw [runS_snoc] at hl ⊢
  exact step_one h2 (good_run good_start r) hl

/-! The syntax. -/
def nullL : List UInt8 := [110, 117, 108, 108]
def tellsO : List Ev → Ox → Option Ox
  | [], x => some x
  | e :: r, x => (tellO x e).bind (tellsO r)
def keyO (S : List UInt8) (a : Nat) : Option (ByteArray × Nat) := if isB S a 34 = true then quoP S a else nameP S a
def colonO (S : List UInt8) (a : Nat) : Option Nat := eatB S (blk S a) 58
def gapO (S : List UInt8) (a : Nat) : Option Nat := if a = S.length then some a else eatB S a 32
def dashO (S : List UInt8) (a : Nat) : Option Nat := (eatB S a 45).bind (gapO S)
def kcO (S : List UInt8) (a : Nat) : Option Nat := (keyO S a).bind fun q => colonO S (q.2 + 1)
def refO (S : List UInt8) (a : Nat) (x : Ox) : Option (Nat × Ox) :=
  (nameP S (a + 1)).bind fun q => if getE x.am q.1.data.toList = 0 ∧ dSum (getL x.am q.1.data.toList) = 0 then (tellsO (getL x.am q.1.data.toList) { x with am := getM x.am q.1.data.toList }).map fun y => (q.2 + 1, y) else none
def fieldO (S : List UInt8) (v : Nat → Ox → Option (Nat × Ox)) (a : Nat) (x : Ox) : Option (Nat × Ox) :=
  (quoP S a).bind fun q => (lastM olM q.2 x (evT 8 q.1)).bind fun p => (colonO S p.1).bind fun a2 => v (blk S a2) p.2
def valueO (S : List UInt8) (v : Nat → Ox → Option (Nat × Ox)) (a : Nat) (x : Ox) : Option (Nat × Ox) :=
  if isB S a 42 = true then refO S a x else if isB S a 110 = true then (wordP S nullL a).bind fun a1 => lastM olM a1 x (evB 1) else valueG olM S v (fieldO S v) a x
def valO (S : List UInt8) : Nat → Nat → Ox → Option (Nat × Ox)
  | 0 => fun _ _ => none
  | n + 1 => valueO S (valO S n)
/-- The anchor ahead of a part. -/
def ampO (S : List UInt8) (a : Nat) (x : Ox) : Option (Nat × Ox) :=
  if isB S a 38 = true then (nameP S (a + 1)).bind fun q => if openE x.am q.1.data.toList = 0 then (gapO S (q.2 + 1)).map fun a3 => (blk S a3, { x with am := openM x.am q.1.data.toList }) else none else some (a, x)
/-- What lies behind it. -/
def restO (S : List UInt8) (a : Nat) (x : Ox) : Option (Nat × Ox × Bool) :=
  if a = S.length then some (a, x, false) else (valO S (S.length + 1) a x).bind fun q => (finB S q.1).map fun a2 => (a2, q.2, true)
def partO (S : List UInt8) (a : Nat) (x : Ox) : Option (Nat × Ox × Bool) := (ampO S (blk S a) x).bind fun q => restO S q.1 q.2
def entryHead (S : List UInt8) (a : Nat) (x : Ox) : Option (Nat × Ox) :=
  if x.bk.getLast? = some 5 then (dashO S a).map fun a1 => (a1, x) else (keyO S a).bind fun q => (lastM olM q.2 x (evT 8 q.1)).bind fun p => (colonO S p.1).bind fun a2 => (gapO S a2).map fun a3 => (a3, p.2)
def entryO (S : List UInt8) (a : Nat) (x : Ox) : Option (Nat × Ox) :=
  (entryHead S a x).bind fun q => (partO S q.1 q.2).map fun r => (r.1, { r.2.1 with lk := !r.2.2 })
def beginO (S : List UInt8) (k : Int) (a : Nat) (x : Ox) : Option (Nat × Ox) :=
  (tellO x (evB k)).bind fun y => entryO S a { y with bk := y.bk ++ [k] }
def endK (x : Ox) : Int := if x.bk.getLast? = some 7 then 9 else 6
def shutN (keep : Nat) : Nat → Ox → Option Ox
  | 0, x => some x
  | n + 1, x => if keep < x.bk.length then (tellO x (evB (endK x))).bind fun y => shutN keep n { y with bk := y.bk.dropLast } else some x
def nulO (x : Ox) : Option Ox := if x.lk = true then tellO x (evB 1) else some x
def shutO (keep : Nat) (x : Ox) : Option Ox := (nulO x).bind fun y => shutN keep y.bk.length y
def knownO (S : List UInt8) (a : Nat) : Option Nat := (nameP S a).bind fun q => if q.1 = ⟨nullL.toArray⟩ ∨ q.1 = ⟨trueL.toArray⟩ ∨ q.1 = ⟨falseL.toArray⟩ then some a else none
def textO (S : List UInt8) (a : Nat) (x : Ox) : Option (Nat × Ox) :=
  (if naB S a = true then knownO S a else some a).bind fun a1 => (partO S a1 x).bind fun r => if r.2.2 = true then some (r.1, { r.2.1 with en := true }) else none
def firstO (S : List UInt8) (a : Nat) (x : Ox) : Option (Nat × Ox) :=
  if (dashO S a).isSome = true then beginO S 5 a x else if (kcO S a).isSome = true then beginO S 7 a x else textO S a x
def fobO (S : List UInt8) (a : Nat) (x : Ox) : Option (Nat × Ox) :=
  if (dashO S a).isSome = true then beginO S 5 a x else if isB S a 34 = true ∨ naB S a = true then beginO S 7 a x else none
def indO (x : Ox) : Int := 2 * ((x.bk.length : Int) - 1)
def meanO (S : List UInt8) (i a : Nat) (x : Ox) : Option (Nat × Ox) :=
  if x.en = true then none
  else if x.bk = [] then (if 0 < i then none else firstO S a x)
  else if indO x < i then (if x.lk = true ∧ (i : Int) = indO x + 2 then fobO S a x else none)
  else (shutO (i / 2 + 1) x).bind fun y => if (i : Int) = indO y then entryO S a y else none
def lineO (S : List UInt8) (x : Ox) : Option Ox := if cmB S 0 = true then some x else (meanO S (blk S 0) (blk S 0) x).map fun q => q.2
def finO (x : Ox) : Option Ox := if x.en = true then some x else if x.bk = [] then none else shutO 0 x
end Go.Proofs.YtalkjgijmceifaaGreatDoor

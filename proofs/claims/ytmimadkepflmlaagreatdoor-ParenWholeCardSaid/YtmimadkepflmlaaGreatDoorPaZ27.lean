/-
  paren: a byte within a string; where a string begins.
-/
import Derived.Test.YtmimadkepflmlaaGreatDoorPaZ26
import Derived.Test.YtmimadkepflmlaaGreatDoorPaZ18
namespace Go.Proofs.YtmimadkepflmlaaGreatDoor
open Go.RowKit Go.Maps
set_option maxRecDepth 100000
set_option linter.unusedSimpArgs false
set_option linter.unusedVariables false
set_option linter.unusedSectionVars false
variable [Tab] [fo : Fo]

/-- The string has turned, and nothing else. -/
theorem PX.q {w w' : World} {base b2 U m o ck g : Nat} {s : Ps} {av : Value} {A : Nat → Prop} (h : PX w base b2 U m o ck s (.pointer (some ⟨g, 0, none⟩)) av A) (ht : Tch base Qt.qObj w w') (q' : Qt.QS) (hQ : Qt.QAt w' g q') (hg : base ≤ g) : PX w' base b2 U m o ck { s with m := { s.m with q := q' } } (.pointer (some ⟨g, 0, none⟩)) av A := by
  have hM := h.mc.tch ht (fun cs t fr hh hc => by simp only [Qt.qObj] at hc; rcases hh with rfl | rfl <;> exact absurd hc (by decide))
  refine ⟨⟨hM.ex, hM.bm, hM.nf, hM.lim⟩, h.us.tch ht (fun _ _ hc => hc), h.att.tch ht (fun cs t fr hh hc => by simp only [Qt.qObj] at hc; rcases hh with rfl | rfl <;> exact absurd hc (by decide)) (fun _ _ hc => hc), h.out.tch ht (fun cs t fr hh hc => by simp only [Qt.qObj] at hc; rcases hh with rfl | rfl | rfl | rfl <;> exact absurd hc (by decide)) (fun _ _ hc => hc), ⟨h.b2.1, Nat.le_trans h.b2.2 ht.size⟩, fun _ => ⟨g, rfl, hQ, hg⟩⟩

set_option maxHeartbeats 8000000 in
theorem character_any (w : World) (base b2 U m o ck : Nat) (s : Ps) (qp av : Value) (A : Nat → Prop) (b : UInt8) (h : PX w base b2 U m o ck s qp av A) (hw4 : s.m.wi = 4) (hqi : Qt.QInv s.m.q) (huk : s.m.uk = 0 ∨ s.m.uk = 4 ∨ s.m.uk = 8 ∨ s.m.uk = 10 ∨ s.m.uk = 11) (hsa : s.m.uk = 0 → s.m.sa ≠ [] ∧ Good s.m.sa) (hne : s.m.op ≠ []) (hat : s.m.at'.size ≤ 48) (hg : Good s.st) (hl : s.l.length ≤ 1000000) (hw : SW base w) :
    Calls Tryz.prog 167 #[.pointer (some ⟨m, 0, none⟩), .int .u8 (b.toNat : Int), .pointer (some ⟨o, 0, none⟩)] w (PPo w base b2 U m o ck (charP s b)) := by
  have hb : base ≤ w.heap.size := Nat.le_trans h.b2.1 h.b2.2
  obtain ⟨g, rfl, hQ, hbg⟩ := h.qa hw4
  obtain ⟨_, _, _, _, _, _, c6, _⟩ := h.mc.cells
  have hml := h.mc.lt
  have hb255 : (b.toNat : Int) ≤ 255 := by have := b.toNat_lt; omega
  have hS := Qt.qstep_any w g s.m.q (b.toNat : Int) (by omega) hb255 hQ hqi
  have hqr := (Qt.qInv_step (b := (b.toNat : Int)) hqi).1
  unfold charP
  simp only
  generalize Qt.qStep s.m.q (b.toNat : Int) = r at *
  unfold Qt.StepEnd Qt.Stepd at hS
  have HS := Lib.hid hS
  have H := Lib.hid h
  have HSW := Lib.hid hw
  have hqb : ∀ w1, Tch g Qt.qObj w w1 → Tch base Qt.qObj w w1 := fun w1 ht => Tch.of_up ht hbg
  have HQB := Lib.hid hqb
  clear h hw hS hQ hqb
  by_cases he : r.e = 0
  case neg =>
    rw [if_pos (.inl he)]
    have z1 : (r.e == 0) = false := by rw [beq_eq_false_iff_ne]; exact he
    have z2 : (r.e != 0) = true := by simp [bne, z1]
    clear he
    go_enter Tryz.func167, Tryz.ntmps167
    go_wp2_with fail
    refine HS.out.mono ?_
    rintro e w1 ⟨rfl, hQ1, hb1⟩
    have hq := HQB.out w1 hb1
    have HF : Hid (PPo w base b2 U m o ck ⟨{ s with m := { s.m with q := r.q } }, r.e⟩ (.returned (.int .i64 r.e)) w1) := Lib.hid ⟨rfl, ⟨_, _, _, H.out.q hq r.q hQ1 hbg⟩, hq.wide fun _ => p_q⟩
    clear hQ1 hb1 hq
    go_wp2
    go_ret
    exact HF.out
  case pos =>
    by_cases hd : r.done = false
    case pos =>
      rw [if_pos (.inr hd)]
      rw [he, hd] at HS
      rw [he]
      clear he hd
      go_enter Tryz.func167, Tryz.ntmps167
      go_wp2_with fail
      refine HS.out.mono ?_
      rintro e w1 ⟨rfl, hQ1, hb1⟩
      have hq := HQB.out w1 hb1
      have HF : Hid (PPo w base b2 U m o ck ⟨{ s with m := { s.m with q := r.q } }, 0⟩ (.returned (.int .i64 0)) w1) := Lib.hid ⟨rfl, ⟨_, _, _, H.out.q hq r.q hQ1 hbg⟩, hq.wide fun _ => p_q⟩
      clear hQ1 hb1 hq
      go_wp2
      go_ret
      exact HF.out
    case neg =>
      have hdt : r.done = true := by cases h : r.done; exact absurd h hd; rfl
      rw [if_neg (by simp [he, hdt])]
      rw [he, hdt] at HS
      clear he hd hdt
      go_enter Tryz.func167, Tryz.ntmps167
      go_wp2_with fail
      refine HS.out.mono ?_
      rintro e w1 ⟨rfl, hQ1, hb1⟩
      have hq := HQB.out w1 hb1
      have hP1 := H.out.q hq r.q hQ1 hbg
      obtain ⟨_, d0, d1, _, d4, d5, d6, _⟩ := hP1.mc.cells
      have f0 := hP1.mc.frz 0
      have f1 := hP1.mc.frz 1
      have hl1 := hP1.mc.lt
      have hM2 := hP1.mc.set 0 (.int .i64 0) (M' := { s.m with q := r.q, wi := 0 }) (fun ov => rfl) rfl
      have hM3 := hM2.set 1 (.int .i64 s.m.un) (M' := { s.m with q := r.q, wi := 0, du := s.m.un }) (fun ov => rfl) rfl
      have t3 := (hP1.mc.touch 0 (.int .i64 0)).trans (hM2.touch 1 (.int .i64 s.m.un))
      have hP3 := hP1.pm (t3.wide fun _ => pm_of) hM3 rfl (fun h => absurd h (by simp))
      have hQ3 := qat_tch hQ1 t3 (fun cs t fr hh hc => by simp only [pmOnly] at hc; rcases hh with rfl | rfl <;> exact absurd hc (by decide))
      have hw3 := (HSW.out.tch hq hb).tch t3 (Nat.le_trans hb hq.size)
      obtain ⟨dd, nn, hraw, _⟩ := hQ3
      have HTx := Lib.hid (Qt.text_any _ g r.q.xs r.q.st dd nn hraw)
      have hxs : (⟨r.q.xs.toArray⟩ : ByteArray).size ≤ 48 := by
        show r.q.xs.toArray.size ≤ 48
        rw [List.size_toArray]
        exact hqr
      have HC := Lib.hid (endString_any _ base b2 U m o ck _ _ av A ⟨r.q.xs.toArray⟩ hP3 hxs (by simp) huk hsa hne hat hg hl hw3)
      have HTT := Lib.hid ((hq.wide (q := pObj) fun _ => p_q).trans (t3.wide (q := pObj) fun _ => p_mo))
      obtain ⟨_, _, _, _, _, _, k6, _⟩ := hP3.mc.cells
      have hl3 := hP3.mc.lt
      clear hQ1 hb1 hq hP1 hM2 hM3 t3 hP3 hw3 hraw hxs HS H
      simp only at HC
      go_wp2_with fail
      refine HTx.out.mono ?_
      rintro e w' ⟨rfl, rfl⟩
      go_wp2_with fail
      refine HC.out.mono ?_
      intro e w5 hp
      have HF : Hid (PPo w base b2 U m o ck (endStringP { s with m := { s.m with q := r.q, wi := 0, du := s.m.un } } ⟨r.q.xs.toArray⟩) e w5) := Lib.hid ⟨hp.1, hp.2.1, HTT.out.trans hp.2.2⟩
      have he := hp.1
      clear hp
      subst he
      go_wp2
      go_ret
      exact HF.out

/-- What is asked of a map hangs on its block alone. -/
theorem look_same {w W : World} {b n : Nat} {D : DataW Unit} (h : w.ownsMap (H := Unit) Tryz.prog 71 elemU b n D) (hb : W.heap[b]? = w.heap[b]?) {d : Int} (hd : (Lit.int .i64 d).wf = true) {v : Value}
    (e : (Instr.lookup 86 (.map (some b)) (.int .i64 d) true).run Tryz.prog w = .ok v w) : (Instr.lookup 86 (.map (some b)) (.int .i64 d) true).run Tryz.prog W = .ok v W := by
  obtain ⟨v1, ps1, r1, q1⟩ := h.look_ok plLaw Tryz.underlying86 (zeroU w) (elemU_mk 0 0) (keyOf_int_mk Tryz.underlying71 hd)
  obtain ⟨v2, ps2, r2, q2⟩ := (own_keep h hb).look_ok plLaw Tryz.underlying86 (zeroU W) (elemU_mk 0 0) (keyOf_int_mk Tryz.underlying71 hd)
  obtain ⟨k1, n1, rfl, z1⟩ := elemU_inv q1
  obtain ⟨k2, n2, rfl, z2⟩ := elemU_inv q2
  simp only [Prod.mk.injEq] at z1 z2
  have hz := z1.1.symm.trans z2.1
  simp only [dU] at hz
  simp at hz
  obtain ⟨rfl, rfl⟩ := hz
  rw [e] at r1
  injection r1 with r1 _
  rw [r1]
  exact r2
theorem UsesAt.looks {w : World} {lo hi U : Nat} (h : UsesAt w lo hi U) (k d : Int) (hk : kindI k) (hd : 0 ≤ d ∧ d ≤ 7) (hs : hi ≤ w.heap.size) {bk : Nat} {a c : Int}
    (e1 : (Instr.lookup 68 (.map (some U)) (.int .i64 k) false).run Tryz.prog w = .ok (.map (some bk)) w)
    (e2 : (Instr.lookup 86 (.map (some bk)) (.int .i64 d) true).run Tryz.prog w = .ok (.tuple #[.agg #[.int .i64 a, .int .i64 c], .bool (usesP k d).isSome]) w) :
    ∀ W, Below w.heap.size w W → (Instr.lookup 68 (.map (some U)) (.int .i64 k) false).run Tryz.prog W = .ok (.map (some bk)) W ∧ (Instr.lookup 86 (.map (some bk)) (.int .i64 d) true).run Tryz.prog W = .ok (.tuple #[.agg #[.int .i64 a, .int .i64 c], .bool (usesP k d).isSome]) W := by
  intro W hb
  have hW := h.low (hb.mono hs)
  obtain ⟨bk', a', c', q1, q2, q3⟩ := hW.look k d hk hd
  obtain ⟨b0, b5, b7, b10, k0, k1, k2, k3, k4, ⟨l0, l1, l2, l3, l4⟩, r⟩ := h.ex
  have hwd := wf_small hd.1 (show d ≤ 100 by omega)
  have tr : ∀ {b n f}, UMn w b n f → b < hi → (Instr.lookup 86 (.map (some b)) (.int .i64 d) true).run Tryz.prog w = .ok (.tuple #[.agg #[.int .i64 a, .int .i64 c], .bool (usesP k d).isSome]) w → (Instr.lookup 86 (.map (some b)) (.int .i64 d) true).run Tryz.prog W = .ok (.tuple #[.agg #[.int .i64 a, .int .i64 c], .bool (usesP k d).isSome]) W := by
    rintro b n f ⟨D, hD, _, _⟩ hbl e
    exact look_same hD (hb.block b (by omega)) hwd e
  have hko : ∀ x, updF (updF (updF (updF (fun _ => none) 0 b0) 5 b5) 7 b7) 10 b10 k = some x → bk = x ∧ (Instr.lookup 68 (.map (some U)) (.int .i64 k) false).run Tryz.prog W = .ok (.map (some x)) W := fun x hx => by
    have hwk : (Lit.int .i64 k).wf = true := by rcases hk with rfl | rfl | rfl | rfl <;> decide
    have h1 := k0.look k x hx hwk
    rw [e1] at h1
    injection h1 with h1 _
    injection h1 with h1
    injection h1 with h1
    exact ⟨h1, (k0.keep (hb.block U (by omega))).look k x hx hwk⟩
  rcases hk with rfl | rfl | rfl | rfl
  · obtain ⟨rfl, hl⟩ := hko b0 rfl; exact ⟨hl, tr k1 l1 e2⟩
  · obtain ⟨rfl, hl⟩ := hko b5 rfl; exact ⟨hl, tr k2 l2 e2⟩
  · obtain ⟨rfl, hl⟩ := hko b7 rfl; exact ⟨hl, tr k3 l3 e2⟩
  · obtain ⟨rfl, hl⟩ := hko b10 rfl; exact ⟨hl, tr k4 l4 e2⟩
theorem cell_far (W : World) (m k : Nat) (h : k ≠ m) (i j : Nat) (u : Value) : (W.setCell ⟨m, i, none⟩ u).cell? ⟨k, j, none⟩ = W.cell? ⟨k, j, none⟩ := by
  unfold World.cell?
  rw [Below.heap_setCell W ⟨m, i, none⟩ u k h]
/-- The machine's own cells have turned, and which string is open. -/
theorem PX.pm2 {w w' : World} {base b2 U m o ck : Nat} {s : Ps} {qp qp' av : Value} {A : Nat → Prop} (h : PX w base b2 U m o ck s qp av A) {M' : Pm} (ht : Tch base pmObj w w') (hM : PmAt w' base m M' (.map (some U)) qp' av) (hs : M'.sa = s.m.sa) (hw : M'.wi = 4 → ∃ g, qp' = .pointer (some ⟨g, 0, none⟩) ∧ Qt.QAt w' g M'.q ∧ base ≤ g) : PX w' base b2 U m o ck { s with m := M' } qp' av A := by
  have n1 : ∀ cs t fr, t = 62 ∨ t = 59 ∨ t = 52 ∨ t = 36 → ¬ pmObj (.cells cs t fr) := fun cs t fr h hc => by
    simp only [pmObj] at hc
    rcases h with rfl | rfl | rfl | rfl <;> exact absurd hc (by decide)
  have n2 : ∀ es c, ¬ pmObj (.map es c) := fun _ _ hc => hc
  refine ⟨hM, h.us.tch ht n2, ?_, h.out.tch ht n1 n2, ⟨h.b2.1, Nat.le_trans h.b2.2 ht.size⟩, hw⟩
  show AttAt w' b2 A av M'.sa
  rw [hs]
  exact h.att.tch ht (fun cs t fr hh => n1 cs t fr (hh.imp id .inl)) n2
set_option maxHeartbeats 8000000 in
theorem beginString_no (w : World) (base b2 U m o ck : Nat) (s : Ps) (qp av : Value) (A : Nat → Prop) (h : PX w base b2 U m o ck s qp av A) (hw : SW base w) (hk : kindI (topI s.m.op)) (hd : 0 ≤ s.m.du ∧ s.m.du ≤ 7) (hne : s.m.op ≠ []) (hu : usesP (topI s.m.op) s.m.du = none) :
    Calls Tryz.prog 174 #[.pointer (some ⟨m, 0, none⟩)] w (PPo w base b2 U m o ck (stringP s)) := by
  have hI := fun W (hb : Below w.heap.size w W) => inner_any W base m s.m _ qp av (h.mc.below hb) hne
  obtain ⟨_, c0, c1, c3, c4, c5, c6, _⟩ := h.mc.cells
  have hml := h.mc.lt
  have hb : base ≤ w.heap.size := Nat.le_trans h.b2.1 h.b2.2
  obtain ⟨bk, a, c, e1, e2, e3⟩ := h.us.look (topI s.m.op) s.m.du hk hd
  have L1 := h.us.looks (topI s.m.op) s.m.du hk hd h.b2.2 e1 e2
  have hsp : stringP s = ⟨s, 2⟩ := by unfold stringP; rw [hu]
  rw [hsp]
  rw [hu] at L1
  simp only [Option.isSome] at L1
  have HSW := Lib.hid hw
  have H := Lib.hid h
  generalize topI s.m.op = tb at *
  obtain ⟨du, hdu⟩ : ∃ d, s.m.du = d := ⟨_, rfl⟩
  rw [hdu] at c1 L1
  clear h e1 e2 e3 hu hk hd hne hsp hw hdu
  go_enter Tryz.func174, Tryz.ntmps174
  go_wp2
  refine region_g [] (S := (fun W => W.cell? ⟨m, 3, none⟩ = some (.map (some U)) ∧ W.cell? ⟨m, 1, none⟩ = some (.int .i64 du) ∧ Below w.heap.size w W)) (by kernel_rfl) ⟨c3, c1, below_drew (Below.refl _ _)⟩ (fun hH => ?_)
  refine g_take (i := 0) (v := .pointer (some ⟨m, 0, none⟩)) (by rfl) (by kernel_rfl) (by kernel_rfl) (by kernel_rfl) (by kernel_rfl) (fun _ _ _ h => (by cases h.1)) (Or.inl ⟨by rfl, fun W hS => (by obtain ⟨s3, s1, sb⟩ := hS; have k1 := (L1 W sb).1; have k2 := (L1 W sb).2; go_simp)⟩) hH ?_
  simp only [Act.put, List.setIfInBounds_toArray, List.set_cons_zero, List.set_cons_succ]
  refine g_take (i := 1) (v := .pointer (some ⟨m, 0, none⟩)) (by rfl) (by kernel_rfl) (by kernel_rfl) (by kernel_rfl) (by kernel_rfl) (fun _ _ _ h => (by cases h.1)) (Or.inl ⟨by rfl, fun W hS => (by obtain ⟨s3, s1, sb⟩ := hS; have k1 := (L1 W sb).1; have k2 := (L1 W sb).2; go_simp)⟩) hH ?_
  simp only [Act.put, List.setIfInBounds_toArray, List.set_cons_zero, List.set_cons_succ]
  refine g_take (i := 2) (v := .pointer (some ⟨m, 3, none⟩)) (by rfl) (by kernel_rfl) (by kernel_rfl) (by kernel_rfl) (by kernel_rfl) (fun _ _ _ h => (by cases h.1)) (Or.inl ⟨by rfl, fun W hS => (by obtain ⟨s3, s1, sb⟩ := hS; have k1 := (L1 W sb).1; have k2 := (L1 W sb).2; go_simp)⟩) hH ?_
  simp only [Act.put, List.setIfInBounds_toArray, List.set_cons_zero, List.set_cons_succ]
  refine g_take (i := 3) (v := .map (some U)) (by rfl) (by kernel_rfl) (by kernel_rfl) (by kernel_rfl) (by kernel_rfl) (fun _ _ _ h => (by cases h.1)) (Or.inl ⟨by rfl, fun W hS => (by obtain ⟨s3, s1, sb⟩ := hS; have k1 := (L1 W sb).1; have k2 := (L1 W sb).2; go_simp)⟩) hH ?_
  simp only [Act.put, List.setIfInBounds_toArray, List.set_cons_zero, List.set_cons_succ]
  refine g_take (i := 4) (v := .pointer (some ⟨m, 0, none⟩)) (by rfl) (by kernel_rfl) (by kernel_rfl) (by kernel_rfl) (by kernel_rfl) (fun _ _ _ h => (by cases h.1)) (Or.inl ⟨by rfl, fun W hS => (by obtain ⟨s3, s1, sb⟩ := hS; have k1 := (L1 W sb).1; have k2 := (L1 W sb).2; go_simp)⟩) hH ?_
  simp only [Act.put, List.setIfInBounds_toArray, List.set_cons_zero, List.set_cons_succ]
  refine g_take (i := 7) (v := .pointer (some ⟨m, 0, none⟩)) (by rfl) (by kernel_rfl) (by kernel_rfl) (by kernel_rfl) (by kernel_rfl) (fun _ _ _ h => (by cases h.1)) (Or.inl ⟨by rfl, fun W hS => (by obtain ⟨s3, s1, sb⟩ := hS; have k1 := (L1 W sb).1; have k2 := (L1 W sb).2; go_simp)⟩) hH ?_
  simp only [Act.put, List.setIfInBounds_toArray, List.set_cons_zero, List.set_cons_succ]
  refine g_take (i := 8) (v := .pointer (some ⟨m, 0, none⟩)) (by rfl) (by kernel_rfl) (by kernel_rfl) (by kernel_rfl) (by kernel_rfl) (fun _ _ _ h => (by cases h.1)) (Or.inl ⟨by rfl, fun W hS => (by obtain ⟨s3, s1, sb⟩ := hS; have k1 := (L1 W sb).1; have k2 := (L1 W sb).2; go_simp)⟩) hH ?_
  simp only [Act.put, List.setIfInBounds_toArray, List.set_cons_zero, List.set_cons_succ]
  refine g_take (i := 9) (v := .pointer (some ⟨m, 1, none⟩)) (by rfl) (by kernel_rfl) (by kernel_rfl) (by kernel_rfl) (by kernel_rfl) (fun _ _ _ h => (by cases h.1)) (Or.inl ⟨by rfl, fun W hS => (by obtain ⟨s3, s1, sb⟩ := hS; have k1 := (L1 W sb).1; have k2 := (L1 W sb).2; go_simp)⟩) hH ?_
  simp only [Act.put, List.setIfInBounds_toArray, List.set_cons_zero, List.set_cons_succ]
  refine g_take (i := 10) (v := .int .i64 du) (by rfl) (by kernel_rfl) (by kernel_rfl) (by kernel_rfl) (by kernel_rfl) (fun _ _ _ h => (by cases h.1)) (Or.inl ⟨by rfl, fun W hS => (by obtain ⟨s3, s1, sb⟩ := hS; have k1 := (L1 W sb).1; have k2 := (L1 W sb).2; go_simp)⟩) hH ?_
  simp only [Act.put, List.setIfInBounds_toArray, List.set_cons_zero, List.set_cons_succ]
  have hdr : Below w.heap.size w w.drew := below_drew (Below.refl _ _)
  have hcs : ∀ W, Below w.heap.size w W → W.cell? ⟨m, 3, none⟩ = some (.map (some U)) ∧ W.cell? ⟨m, 1, none⟩ = some (.int .i64 du) ∧ Below w.heap.size w W := fun W hb => ⟨(hb.cell (p := ⟨m, 3, none⟩) hml).trans c3, (hb.cell (p := ⟨m, 1, none⟩) hml).trans c1, hb⟩
  have HCS := Lib.hid hcs
  clear hcs
  refine g_all (rs := [5, 15]) (by kernel_rfl) (by simp) (fun i hi => ?_)
  have hi' : i = 5 ∨ i = 15 := by simpa using hi
  rcases hi' with rfl | rfl
  · refine ⟨_, rfl, fun K hK => ?_⟩
    go_simp
    refine (hI w.drew hdr).mono ?_
    rintro e w' ⟨rfl, n, hn⟩
    have hbn : Below w.heap.size w w' := by rw [hn]; exact below_drewN hdr n
    have hsz : w'.heap.size = w.heap.size := by rw [hn]; rfl
    have hH1 := HCS.out w' hbn
    clear hn
    refine hK.out _ _ (fun _ => hH1) (fun hH => ?_)
    clear hK K
    refine g_take (i := 6) (v := .map (some bk)) (by rfl) (by kernel_rfl) (by kernel_rfl) (by kernel_rfl) (by kernel_rfl) (fun _ _ _ h => (by cases h.1)) (Or.inl ⟨by rfl, fun W hS => (by obtain ⟨s3, s1, sb⟩ := hS; have k1 := (L1 W sb).1; have k2 := (L1 W sb).2; go_simp)⟩) hH1 ?_
    simp only [Act.put, List.setIfInBounds_toArray, List.set_cons_zero, List.set_cons_succ]
    refine g_take (i := 11) (v := .tuple #[.agg #[.int .i64 a, .int .i64 c], .bool false]) (by rfl) (by kernel_rfl) (by kernel_rfl) (by kernel_rfl) (by kernel_rfl) (fun _ _ _ h => (by cases h.1)) (Or.inl ⟨by rfl, fun W hS => (by obtain ⟨s3, s1, sb⟩ := hS; have k1 := (L1 W sb).1; have k2 := (L1 W sb).2; go_simp)⟩) hH1 ?_
    simp only [Act.put, List.setIfInBounds_toArray, List.set_cons_zero, List.set_cons_succ]
    refine g_take (i := 12) (v := .tuple #[.agg #[.int .i64 a, .int .i64 c], .bool false]) (by rfl) (by kernel_rfl) (by kernel_rfl) (by kernel_rfl) (by kernel_rfl) (fun _ _ _ h => (by cases h.1)) (Or.inl ⟨by rfl, fun W hS => (by obtain ⟨s3, s1, sb⟩ := hS; have k1 := (L1 W sb).1; have k2 := (L1 W sb).2; go_simp)⟩) hH1 ?_
    simp only [Act.put, List.setIfInBounds_toArray, List.set_cons_zero, List.set_cons_succ]
    refine g_take (i := 13) (v := .agg #[.int .i64 a, .int .i64 c]) (by rfl) (by kernel_rfl) (by kernel_rfl) (by kernel_rfl) (by kernel_rfl) (fun _ _ _ h => (by cases h.1)) (Or.inl ⟨by rfl, fun W hS => (by obtain ⟨s3, s1, sb⟩ := hS; have k1 := (L1 W sb).1; have k2 := (L1 W sb).2; go_simp)⟩) hH1 ?_
    simp only [Act.put, List.setIfInBounds_toArray, List.set_cons_zero, List.set_cons_succ]
    refine g_take (i := 14) (v := .bool false) (by rfl) (by kernel_rfl) (by kernel_rfl) (by kernel_rfl) (by kernel_rfl) (fun _ _ _ h => (by cases h.1)) (Or.inl ⟨by rfl, fun W hS => (by obtain ⟨s3, s1, sb⟩ := hS; have k1 := (L1 W sb).1; have k2 := (L1 W sb).2; go_simp)⟩) hH1 ?_
    simp only [Act.put, List.setIfInBounds_toArray, List.set_cons_zero, List.set_cons_succ]
    refine g_one (i := 15) (by kernel_rfl) (by rfl) (fun K hK => ?_)
    go_simp
    refine hK.out _ _ (fun _ => HCS.out _ (hbn.alloc (by omega) _)) (fun _ => ?_)
    clear hK K
    refine g_one (i := 16) (by kernel_rfl) (by rfl) (fun K hK => ?_)
    go_simp
    have hbl : Below w.heap.size w (w'.alloc (.cells #[.int .i64 a, .int .i64 c] 73)) := hbn.alloc (by omega) _
    have x0 : (w'.alloc (.cells #[.int .i64 a, .int .i64 c] 73)).cell? ⟨w.heap.size, 0, none⟩ = some (.int .i64 a) := by have h := (Blk.new w' 73 #[.int .i64 a, .int .i64 c]).cell 0; rw [hsz] at h; exact h
    have x1 : (w'.alloc (.cells #[.int .i64 a, .int .i64 c] 73)).cell? ⟨w.heap.size, 1, none⟩ = some (.int .i64 c) := by have h := (Blk.new w' 73 #[.int .i64 a, .int .i64 c]).cell 1; rw [hsz] at h; exact h
    have hxl : w.heap.size < (w'.alloc (.cells #[.int .i64 a, .int .i64 c] 73)).heap.size := by simp [World.setCell]; omega
    have hbS := HCS.out _ hbl
    refine hK.out _ _ (fun _ => hbS) (fun _ => ?_)
    clear hK K
    generalize hW3 : w'.alloc (.cells #[.int .i64 a, .int .i64 c] 73) = W3 at *
    clear hW3 hbS
    refine g_one (i := 17) (by kernel_rfl) (by rfl) (fun K hK => ?_)
    go_simp
    refine hK.out _ _ (fun _ => HCS.out _ hbl) (fun _ => ?_)
    clear hK K
    refine g_done (by kernel_rfl) ⟨by first | rfl | trivial, ?_⟩ _
    have HBL := Lib.hid hbl
    have HF : Hid (PPo w base b2 U m o ck ⟨s, 2⟩ (.returned (.int .i64 2)) W3) := Lib.hid ⟨rfl, ⟨_, _, _, H.out.below hbl⟩, Tch.of_below hbl⟩
    clear hbl HCS L1 hI H HSW
    go_wp2
    go_ret
    exact HF.out
  · refine ⟨_, rfl, fun K hK => ?_⟩
    go_simp
    have hba : Below w.heap.size w (w.drew.alloc (.cells #[.int .i64 0, .int .i64 0] 73)) := hdr.alloc (by simp) _
    have hX0 : Blk (w.drew.alloc (.cells #[.int .i64 0, .int .i64 0] 73)) w.heap.size 73 #[.int .i64 0, .int .i64 0] := Blk.new w.drew _ _
    first | refine hK.out (Act.mk _ _) (w.drew.alloc (.cells #[.int .i64 0, .int .i64 0] 73)) (fun _ => HCS.out _ hba) (fun hH => ?_) | refine hK.out _ _ (fun _ => HCS.out _ hba) (fun hH => ?_)
    clear hK K
    refine g_one (i := 5) (by kernel_rfl) (by rfl) (fun K hK => ?_)
    go_simp
    refine (hI _ hba).mono ?_
    rintro e w' ⟨rfl, n, hn⟩
    have hbn : Below w.heap.size w w' := by rw [hn]; exact below_drewN hba n
    have hX1 : Blk w' w.heap.size 73 #[.int .i64 0, .int .i64 0] := by rw [hn]; exact hX0.drewN n
    have hsz : w.heap.size < w'.heap.size := hX1.lt
    have hH1 := HCS.out w' hbn
    have y0 := hX1.cell 0
    have y1 := hX1.cell 1
    have fy0 := hX1.frozen 0
    have fy1 := hX1.frozen 1
    have hX2 := (hX1.set_ 0 (.int .i64 a)).set_ 1 (.int .i64 c)
    have hbz := (hbn.setCell (p := ⟨w.heap.size, 0, none⟩) (Nat.le_refl _) (.int .i64 a)).setCell (p := ⟨w.heap.size, 1, none⟩) (Nat.le_refl _) (.int .i64 c)
    clear hn hX0 hba hX1
    refine hK.out _ _ (fun _ => hH1) (fun hH => ?_)
    clear hK K
    refine g_take (i := 6) (v := .map (some bk)) (by rfl) (by kernel_rfl) (by kernel_rfl) (by kernel_rfl) (by kernel_rfl) (fun _ _ _ h => (by cases h.1)) (Or.inl ⟨by rfl, fun W hS => (by obtain ⟨s3, s1, sb⟩ := hS; have k1 := (L1 W sb).1; have k2 := (L1 W sb).2; go_simp)⟩) hH1 ?_
    simp only [Act.put, List.setIfInBounds_toArray, List.set_cons_zero, List.set_cons_succ]
    refine g_take (i := 11) (v := .tuple #[.agg #[.int .i64 a, .int .i64 c], .bool false]) (by rfl) (by kernel_rfl) (by kernel_rfl) (by kernel_rfl) (by kernel_rfl) (fun _ _ _ h => (by cases h.1)) (Or.inl ⟨by rfl, fun W hS => (by obtain ⟨s3, s1, sb⟩ := hS; have k1 := (L1 W sb).1; have k2 := (L1 W sb).2; go_simp)⟩) hH1 ?_
    simp only [Act.put, List.setIfInBounds_toArray, List.set_cons_zero, List.set_cons_succ]
    refine g_take (i := 12) (v := .tuple #[.agg #[.int .i64 a, .int .i64 c], .bool false]) (by rfl) (by kernel_rfl) (by kernel_rfl) (by kernel_rfl) (by kernel_rfl) (fun _ _ _ h => (by cases h.1)) (Or.inl ⟨by rfl, fun W hS => (by obtain ⟨s3, s1, sb⟩ := hS; have k1 := (L1 W sb).1; have k2 := (L1 W sb).2; go_simp)⟩) hH1 ?_
    simp only [Act.put, List.setIfInBounds_toArray, List.set_cons_zero, List.set_cons_succ]
    refine g_take (i := 13) (v := .agg #[.int .i64 a, .int .i64 c]) (by rfl) (by kernel_rfl) (by kernel_rfl) (by kernel_rfl) (by kernel_rfl) (fun _ _ _ h => (by cases h.1)) (Or.inl ⟨by rfl, fun W hS => (by obtain ⟨s3, s1, sb⟩ := hS; have k1 := (L1 W sb).1; have k2 := (L1 W sb).2; go_simp)⟩) hH1 ?_
    simp only [Act.put, List.setIfInBounds_toArray, List.set_cons_zero, List.set_cons_succ]
    refine g_take (i := 14) (v := .bool false) (by rfl) (by kernel_rfl) (by kernel_rfl) (by kernel_rfl) (by kernel_rfl) (fun _ _ _ h => (by cases h.1)) (Or.inl ⟨by rfl, fun W hS => (by obtain ⟨s3, s1, sb⟩ := hS; have k1 := (L1 W sb).1; have k2 := (L1 W sb).2; go_simp)⟩) hH1 ?_
    simp only [Act.put, List.setIfInBounds_toArray, List.set_cons_zero, List.set_cons_succ]
    refine g_one (i := 16) (by kernel_rfl) (by rfl) (fun K hK => ?_)
    go_simp
    have hbl : Below w.heap.size w ((w'.setCell ⟨w.heap.size, 0, none⟩ (.int .i64 a)).setCell ⟨w.heap.size, 1, none⟩ (.int .i64 c)) := hbz
    have x0 : ((w'.setCell ⟨w.heap.size, 0, none⟩ (.int .i64 a)).setCell ⟨w.heap.size, 1, none⟩ (.int .i64 c)).cell? ⟨w.heap.size, 0, none⟩ = some (.int .i64 a) := hX2.cell 0
    have x1 : ((w'.setCell ⟨w.heap.size, 0, none⟩ (.int .i64 a)).setCell ⟨w.heap.size, 1, none⟩ (.int .i64 c)).cell? ⟨w.heap.size, 1, none⟩ = some (.int .i64 c) := hX2.cell 1
    have hxl : w.heap.size < ((w'.setCell ⟨w.heap.size, 0, none⟩ (.int .i64 a)).setCell ⟨w.heap.size, 1, none⟩ (.int .i64 c)).heap.size := by simp [World.setCell]; omega
    have hbS := HCS.out _ hbl
    refine hK.out _ _ (fun _ => hbS) (fun _ => ?_)
    clear hK K
    generalize hW3 : (w'.setCell ⟨w.heap.size, 0, none⟩ (.int .i64 a)).setCell ⟨w.heap.size, 1, none⟩ (.int .i64 c) = W3 at *
    clear hW3 hbS
    refine g_one (i := 17) (by kernel_rfl) (by rfl) (fun K hK => ?_)
    go_simp
    refine hK.out _ _ (fun _ => HCS.out _ hbl) (fun _ => ?_)
    clear hK K
    refine g_done (by kernel_rfl) ⟨by first | rfl | trivial, ?_⟩ _
    have HBL := Lib.hid hbl
    have HF : Hid (PPo w base b2 U m o ck ⟨s, 2⟩ (.returned (.int .i64 2)) W3) := Lib.hid ⟨rfl, ⟨_, _, _, H.out.below hbl⟩, Tch.of_below hbl⟩
    clear hbl HCS L1 hI H HSW
    go_wp2
    go_ret
    exact HF.out
set_option maxHeartbeats 8000000 in
theorem beginString_yes (w : World) (base b2 U m o ck : Nat) (s : Ps) (qp av : Value) (A : Nat → Prop) (h : PX w base b2 U m o ck s qp av A) (hw : SW base w) (hk : kindI (topI s.m.op)) (hd : 0 ≤ s.m.du ∧ s.m.du ≤ 7) (hne : s.m.op ≠ []) (a c : Int) (hu : usesP (topI s.m.op) s.m.du = some (a, c)) :
    Calls Tryz.prog 174 #[.pointer (some ⟨m, 0, none⟩)] w (PPo w base b2 U m o ck (stringP s)) := by
  have hI := fun W (hb : Below w.heap.size w W) => inner_any W base m s.m _ qp av (h.mc.below hb) hne
  obtain ⟨_, c0, c1, c3, c4, c5, c6, _⟩ := h.mc.cells
  have hml := h.mc.lt
  have hb : base ≤ w.heap.size := Nat.le_trans h.b2.1 h.b2.2
  obtain ⟨bk, a', c', e1, e2, e3⟩ := h.us.look (topI s.m.op) s.m.du hk hd
  obtain ⟨rfl, rfl⟩ : a = a' ∧ c = c' := by have := e3 _ hu; simpa using this
  have L1 := h.us.looks (topI s.m.op) s.m.du hk hd h.b2.2 e1 e2
  have hsp : stringP s = ⟨{ s with m := { s.m with wi := 4, uk := a, un := c, q := Qt.plainQ [] } }, 0⟩ := by unfold stringP; rw [hu]
  rw [hsp]
  rw [hu] at L1
  simp only [Option.isSome] at L1
  have HSW := Lib.hid hw
  have H := Lib.hid h
  generalize topI s.m.op = tb at *
  obtain ⟨du, hdu⟩ : ∃ d, s.m.du = d := ⟨_, rfl⟩
  rw [hdu] at c1 L1
  clear h e1 e2 e3 hu hk hd hne hsp hw hdu
  go_enter Tryz.func174, Tryz.ntmps174
  go_wp2
  refine region_g [] (S := (fun W => W.cell? ⟨m, 3, none⟩ = some (.map (some U)) ∧ W.cell? ⟨m, 1, none⟩ = some (.int .i64 du) ∧ Below w.heap.size w W)) (by kernel_rfl) ⟨c3, c1, below_drew (Below.refl _ _)⟩ (fun hH => ?_)
  refine g_take (i := 0) (v := .pointer (some ⟨m, 0, none⟩)) (by rfl) (by kernel_rfl) (by kernel_rfl) (by kernel_rfl) (by kernel_rfl) (fun _ _ _ h => (by cases h.1)) (Or.inl ⟨by rfl, fun W hS => (by obtain ⟨s3, s1, sb⟩ := hS; have k1 := (L1 W sb).1; have k2 := (L1 W sb).2; go_simp)⟩) hH ?_
  simp only [Act.put, List.setIfInBounds_toArray, List.set_cons_zero, List.set_cons_succ]
  refine g_take (i := 1) (v := .pointer (some ⟨m, 0, none⟩)) (by rfl) (by kernel_rfl) (by kernel_rfl) (by kernel_rfl) (by kernel_rfl) (fun _ _ _ h => (by cases h.1)) (Or.inl ⟨by rfl, fun W hS => (by obtain ⟨s3, s1, sb⟩ := hS; have k1 := (L1 W sb).1; have k2 := (L1 W sb).2; go_simp)⟩) hH ?_
  simp only [Act.put, List.setIfInBounds_toArray, List.set_cons_zero, List.set_cons_succ]
  refine g_take (i := 2) (v := .pointer (some ⟨m, 3, none⟩)) (by rfl) (by kernel_rfl) (by kernel_rfl) (by kernel_rfl) (by kernel_rfl) (fun _ _ _ h => (by cases h.1)) (Or.inl ⟨by rfl, fun W hS => (by obtain ⟨s3, s1, sb⟩ := hS; have k1 := (L1 W sb).1; have k2 := (L1 W sb).2; go_simp)⟩) hH ?_
  simp only [Act.put, List.setIfInBounds_toArray, List.set_cons_zero, List.set_cons_succ]
  refine g_take (i := 3) (v := .map (some U)) (by rfl) (by kernel_rfl) (by kernel_rfl) (by kernel_rfl) (by kernel_rfl) (fun _ _ _ h => (by cases h.1)) (Or.inl ⟨by rfl, fun W hS => (by obtain ⟨s3, s1, sb⟩ := hS; have k1 := (L1 W sb).1; have k2 := (L1 W sb).2; go_simp)⟩) hH ?_
  simp only [Act.put, List.setIfInBounds_toArray, List.set_cons_zero, List.set_cons_succ]
  refine g_take (i := 4) (v := .pointer (some ⟨m, 0, none⟩)) (by rfl) (by kernel_rfl) (by kernel_rfl) (by kernel_rfl) (by kernel_rfl) (fun _ _ _ h => (by cases h.1)) (Or.inl ⟨by rfl, fun W hS => (by obtain ⟨s3, s1, sb⟩ := hS; have k1 := (L1 W sb).1; have k2 := (L1 W sb).2; go_simp)⟩) hH ?_
  simp only [Act.put, List.setIfInBounds_toArray, List.set_cons_zero, List.set_cons_succ]
  refine g_take (i := 7) (v := .pointer (some ⟨m, 0, none⟩)) (by rfl) (by kernel_rfl) (by kernel_rfl) (by kernel_rfl) (by kernel_rfl) (fun _ _ _ h => (by cases h.1)) (Or.inl ⟨by rfl, fun W hS => (by obtain ⟨s3, s1, sb⟩ := hS; have k1 := (L1 W sb).1; have k2 := (L1 W sb).2; go_simp)⟩) hH ?_
  simp only [Act.put, List.setIfInBounds_toArray, List.set_cons_zero, List.set_cons_succ]
  refine g_take (i := 8) (v := .pointer (some ⟨m, 0, none⟩)) (by rfl) (by kernel_rfl) (by kernel_rfl) (by kernel_rfl) (by kernel_rfl) (fun _ _ _ h => (by cases h.1)) (Or.inl ⟨by rfl, fun W hS => (by obtain ⟨s3, s1, sb⟩ := hS; have k1 := (L1 W sb).1; have k2 := (L1 W sb).2; go_simp)⟩) hH ?_
  simp only [Act.put, List.setIfInBounds_toArray, List.set_cons_zero, List.set_cons_succ]
  refine g_take (i := 9) (v := .pointer (some ⟨m, 1, none⟩)) (by rfl) (by kernel_rfl) (by kernel_rfl) (by kernel_rfl) (by kernel_rfl) (fun _ _ _ h => (by cases h.1)) (Or.inl ⟨by rfl, fun W hS => (by obtain ⟨s3, s1, sb⟩ := hS; have k1 := (L1 W sb).1; have k2 := (L1 W sb).2; go_simp)⟩) hH ?_
  simp only [Act.put, List.setIfInBounds_toArray, List.set_cons_zero, List.set_cons_succ]
  refine g_take (i := 10) (v := .int .i64 du) (by rfl) (by kernel_rfl) (by kernel_rfl) (by kernel_rfl) (by kernel_rfl) (fun _ _ _ h => (by cases h.1)) (Or.inl ⟨by rfl, fun W hS => (by obtain ⟨s3, s1, sb⟩ := hS; have k1 := (L1 W sb).1; have k2 := (L1 W sb).2; go_simp)⟩) hH ?_
  simp only [Act.put, List.setIfInBounds_toArray, List.set_cons_zero, List.set_cons_succ]
  have hdr : Below w.heap.size w w.drew := below_drew (Below.refl _ _)
  have hcs : ∀ W, Below w.heap.size w W → W.cell? ⟨m, 3, none⟩ = some (.map (some U)) ∧ W.cell? ⟨m, 1, none⟩ = some (.int .i64 du) ∧ Below w.heap.size w W := fun W hb => ⟨(hb.cell (p := ⟨m, 3, none⟩) hml).trans c3, (hb.cell (p := ⟨m, 1, none⟩) hml).trans c1, hb⟩
  have HCS := Lib.hid hcs
  clear hcs
  refine g_all (rs := [5, 15]) (by kernel_rfl) (by simp) (fun i hi => ?_)
  have hi' : i = 5 ∨ i = 15 := by simpa using hi
  rcases hi' with rfl | rfl
  · refine ⟨_, rfl, fun K hK => ?_⟩
    go_simp
    refine (hI w.drew hdr).mono ?_
    rintro e w' ⟨rfl, n, hn⟩
    have hbn : Below w.heap.size w w' := by rw [hn]; exact below_drewN hdr n
    have hsz : w'.heap.size = w.heap.size := by rw [hn]; rfl
    have hH1 := HCS.out w' hbn
    clear hn
    refine hK.out _ _ (fun _ => hH1) (fun hH => ?_)
    clear hK K
    refine g_take (i := 6) (v := .map (some bk)) (by rfl) (by kernel_rfl) (by kernel_rfl) (by kernel_rfl) (by kernel_rfl) (fun _ _ _ h => (by cases h.1)) (Or.inl ⟨by rfl, fun W hS => (by obtain ⟨s3, s1, sb⟩ := hS; have k1 := (L1 W sb).1; have k2 := (L1 W sb).2; go_simp)⟩) hH1 ?_
    simp only [Act.put, List.setIfInBounds_toArray, List.set_cons_zero, List.set_cons_succ]
    refine g_take (i := 11) (v := .tuple #[.agg #[.int .i64 a, .int .i64 c], .bool true]) (by rfl) (by kernel_rfl) (by kernel_rfl) (by kernel_rfl) (by kernel_rfl) (fun _ _ _ h => (by cases h.1)) (Or.inl ⟨by rfl, fun W hS => (by obtain ⟨s3, s1, sb⟩ := hS; have k1 := (L1 W sb).1; have k2 := (L1 W sb).2; go_simp)⟩) hH1 ?_
    simp only [Act.put, List.setIfInBounds_toArray, List.set_cons_zero, List.set_cons_succ]
    refine g_take (i := 12) (v := .tuple #[.agg #[.int .i64 a, .int .i64 c], .bool true]) (by rfl) (by kernel_rfl) (by kernel_rfl) (by kernel_rfl) (by kernel_rfl) (fun _ _ _ h => (by cases h.1)) (Or.inl ⟨by rfl, fun W hS => (by obtain ⟨s3, s1, sb⟩ := hS; have k1 := (L1 W sb).1; have k2 := (L1 W sb).2; go_simp)⟩) hH1 ?_
    simp only [Act.put, List.setIfInBounds_toArray, List.set_cons_zero, List.set_cons_succ]
    refine g_take (i := 13) (v := .agg #[.int .i64 a, .int .i64 c]) (by rfl) (by kernel_rfl) (by kernel_rfl) (by kernel_rfl) (by kernel_rfl) (fun _ _ _ h => (by cases h.1)) (Or.inl ⟨by rfl, fun W hS => (by obtain ⟨s3, s1, sb⟩ := hS; have k1 := (L1 W sb).1; have k2 := (L1 W sb).2; go_simp)⟩) hH1 ?_
    simp only [Act.put, List.setIfInBounds_toArray, List.set_cons_zero, List.set_cons_succ]
    refine g_take (i := 14) (v := .bool true) (by rfl) (by kernel_rfl) (by kernel_rfl) (by kernel_rfl) (by kernel_rfl) (fun _ _ _ h => (by cases h.1)) (Or.inl ⟨by rfl, fun W hS => (by obtain ⟨s3, s1, sb⟩ := hS; have k1 := (L1 W sb).1; have k2 := (L1 W sb).2; go_simp)⟩) hH1 ?_
    simp only [Act.put, List.setIfInBounds_toArray, List.set_cons_zero, List.set_cons_succ]
    refine g_one (i := 15) (by kernel_rfl) (by rfl) (fun K hK => ?_)
    go_simp
    refine hK.out _ _ (fun _ => HCS.out _ (hbn.alloc (by omega) _)) (fun _ => ?_)
    clear hK K
    refine g_one (i := 16) (by kernel_rfl) (by rfl) (fun K hK => ?_)
    go_simp
    have hbl : Below w.heap.size w (w'.alloc (.cells #[.int .i64 a, .int .i64 c] 73)) := hbn.alloc (by omega) _
    have x0 : (w'.alloc (.cells #[.int .i64 a, .int .i64 c] 73)).cell? ⟨w.heap.size, 0, none⟩ = some (.int .i64 a) := by have h := (Blk.new w' 73 #[.int .i64 a, .int .i64 c]).cell 0; rw [hsz] at h; exact h
    have x1 : (w'.alloc (.cells #[.int .i64 a, .int .i64 c] 73)).cell? ⟨w.heap.size, 1, none⟩ = some (.int .i64 c) := by have h := (Blk.new w' 73 #[.int .i64 a, .int .i64 c]).cell 1; rw [hsz] at h; exact h
    have hxl : w.heap.size < (w'.alloc (.cells #[.int .i64 a, .int .i64 c] 73)).heap.size := by simp [World.setCell]; omega
    have hbS := HCS.out _ hbl
    refine hK.out _ _ (fun _ => hbS) (fun _ => ?_)
    clear hK K
    generalize hW3 : w'.alloc (.cells #[.int .i64 a, .int .i64 c] 73) = W3 at *
    clear hW3 hbS
    refine g_one (i := 17) (by kernel_rfl) (by rfl) (fun K hK => ?_)
    go_simp
    refine hK.out _ _ (fun _ => HCS.out _ hbl) (fun _ => ?_)
    clear hK K
    refine g_done (by kernel_rfl) ⟨by first | rfl | trivial, ?_⟩ _
    have HBL := Lib.hid hbl
    have hfl := Nat.le_trans H.out.mc.lim hbl.size
    clear hbl HCS L1 hI c0 c1 c3 c4 c5 c6
    go_wp2
    refine region_g [] (S := (fun W => W.cell? ⟨w.heap.size, 0, none⟩ = some (.int .i64 a) ∧ W.cell? ⟨w.heap.size, 1, none⟩ = some (.int .i64 c))) (by kernel_rfl) ⟨x0, x1⟩ (fun hH4 => ?_)
    refine g_take (i := 0) (v := .pointer (some ⟨m, 0, none⟩)) (by rfl) (by kernel_rfl) (by kernel_rfl) (by kernel_rfl) (by kernel_rfl) (fun _ _ _ h => (by cases h.1)) (Or.inl ⟨by rfl, fun W hS => (by obtain ⟨s0, s1⟩ := hS; go_simp)⟩) hH4 ?_
    simp only [Act.put, List.setIfInBounds_toArray, List.set_cons_zero, List.set_cons_succ]
    refine g_take (i := 1) (v := .pointer (some ⟨m, 0, none⟩)) (by rfl) (by kernel_rfl) (by kernel_rfl) (by kernel_rfl) (by kernel_rfl) (fun _ _ _ h => (by cases h.1)) (Or.inl ⟨by rfl, fun W hS => (by obtain ⟨s0, s1⟩ := hS; go_simp)⟩) hH4 ?_
    simp only [Act.put, List.setIfInBounds_toArray, List.set_cons_zero, List.set_cons_succ]
    refine g_take (i := 2) (v := .pointer (some ⟨m, 0, none⟩)) (by rfl) (by kernel_rfl) (by kernel_rfl) (by kernel_rfl) (by kernel_rfl) (fun _ _ _ h => (by cases h.1)) (Or.inl ⟨by rfl, fun W hS => (by obtain ⟨s0, s1⟩ := hS; go_simp)⟩) hH4 ?_
    simp only [Act.put, List.setIfInBounds_toArray, List.set_cons_zero, List.set_cons_succ]
    refine g_take (i := 3) (v := .agg #[.int .i64 a, .int .i64 c]) (by rfl) (by kernel_rfl) (by kernel_rfl) (by kernel_rfl) (by kernel_rfl) (fun _ _ _ h => (by cases h.1)) (Or.inl ⟨by rfl, fun W hS => (by obtain ⟨s0, s1⟩ := hS; go_simp)⟩) hH4 ?_
    simp only [Act.put, List.setIfInBounds_toArray, List.set_cons_zero, List.set_cons_succ]
    have hQN := Qt.qnew_any W3.drew hfl
    have hb3 : Below w.heap.size w W3.drew := HBL.out.trans (below_drew (Below.refl _ _))
    refine g_one (i := 4) (by kernel_rfl) (by rfl) (fun K hK => ?_)
    go_simp
    refine hQN.mono ?_
    rintro e W4 ⟨rfl, hQ4, hb4⟩
    obtain ⟨g, hgd⟩ : ∃ g, W3.drew.heap.size = g := ⟨_, rfl⟩
    rw [hgd] at hQ4 ⊢
    have hbg : base ≤ g := by have := hb3.size; omega
    have y0 : W4.cell? ⟨w.heap.size, 0, none⟩ = some (.int .i64 a) := (hb4.cell (p := ⟨w.heap.size, 0, none⟩) hxl).trans x0
    have y1 : W4.cell? ⟨w.heap.size, 1, none⟩ = some (.int .i64 c) := (hb4.cell (p := ⟨w.heap.size, 1, none⟩) hxl).trans x1
    have hb04 : Below w.heap.size w W4 := hb3.trans (hb4.mono hb3.size)
    have hP4 := H.out.below hb04
    obtain ⟨_, d0, _, _, d4, d5, d6, _⟩ := hP4.mc.cells
    have f0 := hP4.mc.frz 0
    have f4 := hP4.mc.frz 4
    have f5 := hP4.mc.frz 5
    have f6 := hP4.mc.frz 6
    have hl4 := hP4.mc.lt
    have s1 := hP4.mc.set 0 (.int .i64 4) (M' := { s.m with wi := 4 }) (fun ov => rfl) rfl
    have s2 := s1.set 4 (.int .i64 a) (M' := { s.m with wi := 4, uk := a }) (fun ov => rfl) rfl
    have s3 := s2.set 5 (.int .i64 c) (M' := { s.m with wi := 4, uk := a, un := c }) (fun ov => rfl) rfl
    have s4 := s3.set 6 (.pointer (some ⟨g, 0, none⟩)) (M' := { s.m with wi := 4, uk := a, un := c, q := Qt.plainQ [] }) (uv' := .map (some U)) (qp' := .pointer (some ⟨g, 0, none⟩)) (av' := av) (fun ov => rfl) rfl
    have ht := (((hP4.mc.touch 0 (.int .i64 4)).trans (s1.touch 4 (.int .i64 a))).trans (s2.touch 5 (.int .i64 c))).trans (s3.touch 6 (.pointer (some ⟨g, 0, none⟩)))
    have hQ7 := qat_tch hQ4 ht (fun cs t fr hh hc => by simp only [pmOnly] at hc; rcases hh with rfl | rfl <;> exact absurd hc (by decide))
    have HF := Lib.hid (show PPo w base b2 U m o ck ⟨{ s with m := { s.m with wi := 4, uk := a, un := c, q := Qt.plainQ [] } }, 0⟩ (.returned (.int .i64 0)) _ from ⟨rfl, ⟨_, _, _, hP4.pm2 (ht.wide fun _ => pm_of) s4 rfl (fun _ => ⟨g, rfl, hQ7, hbg⟩)⟩, (Tch.of_below hb04).trans (ht.wide fun _ => p_mo)⟩)
    have hfar : ∀ (W : World) (i j : Nat) (u : Value), (W.setCell ⟨m, i, none⟩ u).cell? ⟨w.heap.size, j, none⟩ = W.cell? ⟨w.heap.size, j, none⟩ := fun W i j u => cell_far W _ _ (by omega) i j u
    clear hb3 hb04 hb4 hP4 s1 s2 s3 s4 ht hQ7 hQ4 hQN hgd H HSW HBL x0 x1 hxl hfl
    refine hK.out _ _ (fun _ => ⟨y0, y1⟩) (fun hH5 => ?_)
    clear hK K
    refine g_take (i := 5) (v := .pointer (some ⟨m, 0, none⟩)) (by rfl) (by kernel_rfl) (by kernel_rfl) (by kernel_rfl) (by kernel_rfl) (fun _ _ _ h => (by cases h.1)) (Or.inl ⟨by rfl, fun W hS => (by obtain ⟨s0, s1⟩ := hS; go_simp)⟩) (hH5 (by simp)) ?_
    simp only [Act.put, List.setIfInBounds_toArray, List.set_cons_zero, List.set_cons_succ]
    refine g_take (i := 6) (v := .pointer (some ⟨m, 0, none⟩)) (by rfl) (by kernel_rfl) (by kernel_rfl) (by kernel_rfl) (by kernel_rfl) (fun _ _ _ h => (by cases h.1)) (Or.inl ⟨by rfl, fun W hS => (by obtain ⟨s0, s1⟩ := hS; go_simp)⟩) (hH5 (by simp)) ?_
    simp only [Act.put, List.setIfInBounds_toArray, List.set_cons_zero, List.set_cons_succ]
    refine g_one (i := 7) (by kernel_rfl) (by rfl) (fun K hK => ?_)
    go_simp
    refine hK.out _ _ (fun _ => ⟨(hfar _ _ _ _).trans y0, (hfar _ _ _ _).trans y1⟩) (fun hH6 => ?_)
    clear hK K
    refine g_take (i := 8) (v := .pointer (some ⟨m, 0, none⟩)) (by rfl) (by kernel_rfl) (by kernel_rfl) (by kernel_rfl) (by kernel_rfl) (fun _ _ _ h => (by cases h.1)) (Or.inl ⟨by rfl, fun W hS => (by obtain ⟨s0, s1⟩ := hS; go_simp)⟩) (hH6 (by simp)) ?_
    simp only [Act.put, List.setIfInBounds_toArray, List.set_cons_zero, List.set_cons_succ]
    refine g_take (i := 9) (v := .pointer (some ⟨m, 4, none⟩)) (by rfl) (by kernel_rfl) (by kernel_rfl) (by kernel_rfl) (by kernel_rfl) (fun _ _ _ h => (by cases h.1)) (Or.inl ⟨by rfl, fun W hS => (by obtain ⟨s0, s1⟩ := hS; go_simp)⟩) (hH6 (by simp)) ?_
    simp only [Act.put, List.setIfInBounds_toArray, List.set_cons_zero, List.set_cons_succ]
    refine g_one (i := 10) (by kernel_rfl) (by rfl) (fun K hK => ?_)
    go_simp
    refine hK.out _ _ (fun _ => ⟨by rw [hfar, hfar, hfar]; exact y0, by rw [hfar, hfar, hfar]; exact y1⟩) (fun hH7 => ?_)
    clear hK K
    refine g_take (i := 11) (v := .pointer (some ⟨m, 0, none⟩)) (by rfl) (by kernel_rfl) (by kernel_rfl) (by kernel_rfl) (by kernel_rfl) (fun _ _ _ h => (by cases h.1)) (Or.inl ⟨by rfl, fun W hS => (by obtain ⟨s0, s1⟩ := hS; go_simp)⟩) (hH7 (by simp)) ?_
    simp only [Act.put, List.setIfInBounds_toArray, List.set_cons_zero, List.set_cons_succ]
    refine g_take (i := 12) (v := .pointer (some ⟨m, 6, none⟩)) (by rfl) (by kernel_rfl) (by kernel_rfl) (by kernel_rfl) (by kernel_rfl) (fun _ _ _ h => (by cases h.1)) (Or.inl ⟨by rfl, fun W hS => (by obtain ⟨s0, s1⟩ := hS; go_simp)⟩) (hH7 (by simp)) ?_
    simp only [Act.put, List.setIfInBounds_toArray, List.set_cons_zero, List.set_cons_succ]
    refine g_one (i := 13) (by kernel_rfl) (by rfl) (fun K hK => ?_)
    go_simp
    refine hK.out _ _ (fun _ => ⟨by rw [hfar, hfar, hfar, hfar]; exact y0, by rw [hfar, hfar, hfar, hfar]; exact y1⟩) (fun _ => ?_)
    clear hK K
    refine g_done (by kernel_rfl) ⟨by first | rfl | trivial, ?_⟩ _
    go_wp2
    go_ret
    exact HF.out
  · refine ⟨_, rfl, fun K hK => ?_⟩
    go_simp
    have hba : Below w.heap.size w (w.drew.alloc (.cells #[.int .i64 0, .int .i64 0] 73)) := hdr.alloc (by simp) _
    have hX0 : Blk (w.drew.alloc (.cells #[.int .i64 0, .int .i64 0] 73)) w.heap.size 73 #[.int .i64 0, .int .i64 0] := Blk.new w.drew _ _
    first | refine hK.out (Act.mk _ _) (w.drew.alloc (.cells #[.int .i64 0, .int .i64 0] 73)) (fun _ => HCS.out _ hba) (fun hH => ?_) | refine hK.out _ _ (fun _ => HCS.out _ hba) (fun hH => ?_)
    clear hK K
    refine g_one (i := 5) (by kernel_rfl) (by rfl) (fun K hK => ?_)
    go_simp
    refine (hI _ hba).mono ?_
    rintro e w' ⟨rfl, n, hn⟩
    have hbn : Below w.heap.size w w' := by rw [hn]; exact below_drewN hba n
    have hX1 : Blk w' w.heap.size 73 #[.int .i64 0, .int .i64 0] := by rw [hn]; exact hX0.drewN n
    have hsz : w.heap.size < w'.heap.size := hX1.lt
    have hH1 := HCS.out w' hbn
    have y0 := hX1.cell 0
    have y1 := hX1.cell 1
    have fy0 := hX1.frozen 0
    have fy1 := hX1.frozen 1
    have hX2 := (hX1.set_ 0 (.int .i64 a)).set_ 1 (.int .i64 c)
    have hbz := (hbn.setCell (p := ⟨w.heap.size, 0, none⟩) (Nat.le_refl _) (.int .i64 a)).setCell (p := ⟨w.heap.size, 1, none⟩) (Nat.le_refl _) (.int .i64 c)
    clear hn hX0 hba hX1
    refine hK.out _ _ (fun _ => hH1) (fun hH => ?_)
    clear hK K
    refine g_take (i := 6) (v := .map (some bk)) (by rfl) (by kernel_rfl) (by kernel_rfl) (by kernel_rfl) (by kernel_rfl) (fun _ _ _ h => (by cases h.1)) (Or.inl ⟨by rfl, fun W hS => (by obtain ⟨s3, s1, sb⟩ := hS; have k1 := (L1 W sb).1; have k2 := (L1 W sb).2; go_simp)⟩) hH1 ?_
    simp only [Act.put, List.setIfInBounds_toArray, List.set_cons_zero, List.set_cons_succ]
    refine g_take (i := 11) (v := .tuple #[.agg #[.int .i64 a, .int .i64 c], .bool true]) (by rfl) (by kernel_rfl) (by kernel_rfl) (by kernel_rfl) (by kernel_rfl) (fun _ _ _ h => (by cases h.1)) (Or.inl ⟨by rfl, fun W hS => (by obtain ⟨s3, s1, sb⟩ := hS; have k1 := (L1 W sb).1; have k2 := (L1 W sb).2; go_simp)⟩) hH1 ?_
    simp only [Act.put, List.setIfInBounds_toArray, List.set_cons_zero, List.set_cons_succ]
    refine g_take (i := 12) (v := .tuple #[.agg #[.int .i64 a, .int .i64 c], .bool true]) (by rfl) (by kernel_rfl) (by kernel_rfl) (by kernel_rfl) (by kernel_rfl) (fun _ _ _ h => (by cases h.1)) (Or.inl ⟨by rfl, fun W hS => (by obtain ⟨s3, s1, sb⟩ := hS; have k1 := (L1 W sb).1; have k2 := (L1 W sb).2; go_simp)⟩) hH1 ?_
    simp only [Act.put, List.setIfInBounds_toArray, List.set_cons_zero, List.set_cons_succ]
    refine g_take (i := 13) (v := .agg #[.int .i64 a, .int .i64 c]) (by rfl) (by kernel_rfl) (by kernel_rfl) (by kernel_rfl) (by kernel_rfl) (fun _ _ _ h => (by cases h.1)) (Or.inl ⟨by rfl, fun W hS => (by obtain ⟨s3, s1, sb⟩ := hS; have k1 := (L1 W sb).1; have k2 := (L1 W sb).2; go_simp)⟩) hH1 ?_
    simp only [Act.put, List.setIfInBounds_toArray, List.set_cons_zero, List.set_cons_succ]
    refine g_take (i := 14) (v := .bool true) (by rfl) (by kernel_rfl) (by kernel_rfl) (by kernel_rfl) (by kernel_rfl) (fun _ _ _ h => (by cases h.1)) (Or.inl ⟨by rfl, fun W hS => (by obtain ⟨s3, s1, sb⟩ := hS; have k1 := (L1 W sb).1; have k2 := (L1 W sb).2; go_simp)⟩) hH1 ?_
    simp only [Act.put, List.setIfInBounds_toArray, List.set_cons_zero, List.set_cons_succ]
    refine g_one (i := 16) (by kernel_rfl) (by rfl) (fun K hK => ?_)
    go_simp
    have hbl : Below w.heap.size w ((w'.setCell ⟨w.heap.size, 0, none⟩ (.int .i64 a)).setCell ⟨w.heap.size, 1, none⟩ (.int .i64 c)) := hbz
    have x0 : ((w'.setCell ⟨w.heap.size, 0, none⟩ (.int .i64 a)).setCell ⟨w.heap.size, 1, none⟩ (.int .i64 c)).cell? ⟨w.heap.size, 0, none⟩ = some (.int .i64 a) := hX2.cell 0
    have x1 : ((w'.setCell ⟨w.heap.size, 0, none⟩ (.int .i64 a)).setCell ⟨w.heap.size, 1, none⟩ (.int .i64 c)).cell? ⟨w.heap.size, 1, none⟩ = some (.int .i64 c) := hX2.cell 1
    have hxl : w.heap.size < ((w'.setCell ⟨w.heap.size, 0, none⟩ (.int .i64 a)).setCell ⟨w.heap.size, 1, none⟩ (.int .i64 c)).heap.size := by simp [World.setCell]; omega
    have hbS := HCS.out _ hbl
    refine hK.out _ _ (fun _ => hbS) (fun _ => ?_)
    clear hK K
    generalize hW3 : (w'.setCell ⟨w.heap.size, 0, none⟩ (.int .i64 a)).setCell ⟨w.heap.size, 1, none⟩ (.int .i64 c) = W3 at *
    clear hW3 hbS
    refine g_one (i := 17) (by kernel_rfl) (by rfl) (fun K hK => ?_)
    go_simp
    refine hK.out _ _ (fun _ => HCS.out _ hbl) (fun _ => ?_)
    clear hK K
    refine g_done (by kernel_rfl) ⟨by first | rfl | trivial, ?_⟩ _
    have HBL := Lib.hid hbl
    have hfl := Nat.le_trans H.out.mc.lim hbl.size
    clear hbl HCS L1 hI c0 c1 c3 c4 c5 c6
    go_wp2
    refine region_g [] (S := (fun W => W.cell? ⟨w.heap.size, 0, none⟩ = some (.int .i64 a) ∧ W.cell? ⟨w.heap.size, 1, none⟩ = some (.int .i64 c))) (by kernel_rfl) ⟨x0, x1⟩ (fun hH4 => ?_)
    refine g_take (i := 0) (v := .pointer (some ⟨m, 0, none⟩)) (by rfl) (by kernel_rfl) (by kernel_rfl) (by kernel_rfl) (by kernel_rfl) (fun _ _ _ h => (by cases h.1)) (Or.inl ⟨by rfl, fun W hS => (by obtain ⟨s0, s1⟩ := hS; go_simp)⟩) hH4 ?_
    simp only [Act.put, List.setIfInBounds_toArray, List.set_cons_zero, List.set_cons_succ]
    refine g_take (i := 1) (v := .pointer (some ⟨m, 0, none⟩)) (by rfl) (by kernel_rfl) (by kernel_rfl) (by kernel_rfl) (by kernel_rfl) (fun _ _ _ h => (by cases h.1)) (Or.inl ⟨by rfl, fun W hS => (by obtain ⟨s0, s1⟩ := hS; go_simp)⟩) hH4 ?_
    simp only [Act.put, List.setIfInBounds_toArray, List.set_cons_zero, List.set_cons_succ]
    refine g_take (i := 2) (v := .pointer (some ⟨m, 0, none⟩)) (by rfl) (by kernel_rfl) (by kernel_rfl) (by kernel_rfl) (by kernel_rfl) (fun _ _ _ h => (by cases h.1)) (Or.inl ⟨by rfl, fun W hS => (by obtain ⟨s0, s1⟩ := hS; go_simp)⟩) hH4 ?_
    simp only [Act.put, List.setIfInBounds_toArray, List.set_cons_zero, List.set_cons_succ]
    refine g_take (i := 3) (v := .agg #[.int .i64 a, .int .i64 c]) (by rfl) (by kernel_rfl) (by kernel_rfl) (by kernel_rfl) (by kernel_rfl) (fun _ _ _ h => (by cases h.1)) (Or.inl ⟨by rfl, fun W hS => (by obtain ⟨s0, s1⟩ := hS; go_simp)⟩) hH4 ?_
    simp only [Act.put, List.setIfInBounds_toArray, List.set_cons_zero, List.set_cons_succ]
    have hQN := Qt.qnew_any W3.drew hfl
    have hb3 : Below w.heap.size w W3.drew := HBL.out.trans (below_drew (Below.refl _ _))
    refine g_one (i := 4) (by kernel_rfl) (by rfl) (fun K hK => ?_)
    go_simp
    refine hQN.mono ?_
    rintro e W4 ⟨rfl, hQ4, hb4⟩
    obtain ⟨g, hgd⟩ : ∃ g, W3.drew.heap.size = g := ⟨_, rfl⟩
    rw [hgd] at hQ4 ⊢
    have hbg : base ≤ g := by have := hb3.size; omega
    have y0 : W4.cell? ⟨w.heap.size, 0, none⟩ = some (.int .i64 a) := (hb4.cell (p := ⟨w.heap.size, 0, none⟩) hxl).trans x0
    have y1 : W4.cell? ⟨w.heap.size, 1, none⟩ = some (.int .i64 c) := (hb4.cell (p := ⟨w.heap.size, 1, none⟩) hxl).trans x1
    have hb04 : Below w.heap.size w W4 := hb3.trans (hb4.mono hb3.size)
    have hP4 := H.out.below hb04
    obtain ⟨_, d0, _, _, d4, d5, d6, _⟩ := hP4.mc.cells
    have f0 := hP4.mc.frz 0
    have f4 := hP4.mc.frz 4
    have f5 := hP4.mc.frz 5
    have f6 := hP4.mc.frz 6
    have hl4 := hP4.mc.lt
    have s1 := hP4.mc.set 0 (.int .i64 4) (M' := { s.m with wi := 4 }) (fun ov => rfl) rfl
    have s2 := s1.set 4 (.int .i64 a) (M' := { s.m with wi := 4, uk := a }) (fun ov => rfl) rfl
    have s3 := s2.set 5 (.int .i64 c) (M' := { s.m with wi := 4, uk := a, un := c }) (fun ov => rfl) rfl
    have s4 := s3.set 6 (.pointer (some ⟨g, 0, none⟩)) (M' := { s.m with wi := 4, uk := a, un := c, q := Qt.plainQ [] }) (uv' := .map (some U)) (qp' := .pointer (some ⟨g, 0, none⟩)) (av' := av) (fun ov => rfl) rfl
    have ht := (((hP4.mc.touch 0 (.int .i64 4)).trans (s1.touch 4 (.int .i64 a))).trans (s2.touch 5 (.int .i64 c))).trans (s3.touch 6 (.pointer (some ⟨g, 0, none⟩)))
    have hQ7 := qat_tch hQ4 ht (fun cs t fr hh hc => by simp only [pmOnly] at hc; rcases hh with rfl | rfl <;> exact absurd hc (by decide))
    have HF := Lib.hid (show PPo w base b2 U m o ck ⟨{ s with m := { s.m with wi := 4, uk := a, un := c, q := Qt.plainQ [] } }, 0⟩ (.returned (.int .i64 0)) _ from ⟨rfl, ⟨_, _, _, hP4.pm2 (ht.wide fun _ => pm_of) s4 rfl (fun _ => ⟨g, rfl, hQ7, hbg⟩)⟩, (Tch.of_below hb04).trans (ht.wide fun _ => p_mo)⟩)
    have hfar : ∀ (W : World) (i j : Nat) (u : Value), (W.setCell ⟨m, i, none⟩ u).cell? ⟨w.heap.size, j, none⟩ = W.cell? ⟨w.heap.size, j, none⟩ := fun W i j u => cell_far W _ _ (by omega) i j u
    clear hb3 hb04 hb4 hP4 s1 s2 s3 s4 ht hQ7 hQ4 hQN hgd H HSW HBL x0 x1 hxl hfl
    refine hK.out _ _ (fun _ => ⟨y0, y1⟩) (fun hH5 => ?_)
    clear hK K
    refine g_take (i := 5) (v := .pointer (some ⟨m, 0, none⟩)) (by rfl) (by kernel_rfl) (by kernel_rfl) (by kernel_rfl) (by kernel_rfl) (fun _ _ _ h => (by cases h.1)) (Or.inl ⟨by rfl, fun W hS => (by obtain ⟨s0, s1⟩ := hS; go_simp)⟩) (hH5 (by simp)) ?_
    simp only [Act.put, List.setIfInBounds_toArray, List.set_cons_zero, List.set_cons_succ]
    refine g_take (i := 6) (v := .pointer (some ⟨m, 0, none⟩)) (by rfl) (by kernel_rfl) (by kernel_rfl) (by kernel_rfl) (by kernel_rfl) (fun _ _ _ h => (by cases h.1)) (Or.inl ⟨by rfl, fun W hS => (by obtain ⟨s0, s1⟩ := hS; go_simp)⟩) (hH5 (by simp)) ?_
    simp only [Act.put, List.setIfInBounds_toArray, List.set_cons_zero, List.set_cons_succ]
    refine g_one (i := 7) (by kernel_rfl) (by rfl) (fun K hK => ?_)
    go_simp
    refine hK.out _ _ (fun _ => ⟨(hfar _ _ _ _).trans y0, (hfar _ _ _ _).trans y1⟩) (fun hH6 => ?_)
    clear hK K
    refine g_take (i := 8) (v := .pointer (some ⟨m, 0, none⟩)) (by rfl) (by kernel_rfl) (by kernel_rfl) (by kernel_rfl) (by kernel_rfl) (fun _ _ _ h => (by cases h.1)) (Or.inl ⟨by rfl, fun W hS => (by obtain ⟨s0, s1⟩ := hS; go_simp)⟩) (hH6 (by simp)) ?_
    simp only [Act.put, List.setIfInBounds_toArray, List.set_cons_zero, List.set_cons_succ]
    refine g_take (i := 9) (v := .pointer (some ⟨m, 4, none⟩)) (by rfl) (by kernel_rfl) (by kernel_rfl) (by kernel_rfl) (by kernel_rfl) (fun _ _ _ h => (by cases h.1)) (Or.inl ⟨by rfl, fun W hS => (by obtain ⟨s0, s1⟩ := hS; go_simp)⟩) (hH6 (by simp)) ?_
    simp only [Act.put, List.setIfInBounds_toArray, List.set_cons_zero, List.set_cons_succ]
    refine g_one (i := 10) (by kernel_rfl) (by rfl) (fun K hK => ?_)
    go_simp
    refine hK.out _ _ (fun _ => ⟨by rw [hfar, hfar, hfar]; exact y0, by rw [hfar, hfar, hfar]; exact y1⟩) (fun hH7 => ?_)
    clear hK K
    refine g_take (i := 11) (v := .pointer (some ⟨m, 0, none⟩)) (by rfl) (by kernel_rfl) (by kernel_rfl) (by kernel_rfl) (by kernel_rfl) (fun _ _ _ h => (by cases h.1)) (Or.inl ⟨by rfl, fun W hS => (by obtain ⟨s0, s1⟩ := hS; go_simp)⟩) (hH7 (by simp)) ?_
    simp only [Act.put, List.setIfInBounds_toArray, List.set_cons_zero, List.set_cons_succ]
    refine g_take (i := 12) (v := .pointer (some ⟨m, 6, none⟩)) (by rfl) (by kernel_rfl) (by kernel_rfl) (by kernel_rfl) (by kernel_rfl) (fun _ _ _ h => (by cases h.1)) (Or.inl ⟨by rfl, fun W hS => (by obtain ⟨s0, s1⟩ := hS; go_simp)⟩) (hH7 (by simp)) ?_
    simp only [Act.put, List.setIfInBounds_toArray, List.set_cons_zero, List.set_cons_succ]
    refine g_one (i := 13) (by kernel_rfl) (by rfl) (fun K hK => ?_)
    go_simp
    refine hK.out _ _ (fun _ => ⟨by rw [hfar, hfar, hfar, hfar]; exact y0, by rw [hfar, hfar, hfar, hfar]; exact y1⟩) (fun _ => ?_)
    clear hK K
    refine g_done (by kernel_rfl) ⟨by first | rfl | trivial, ?_⟩ _
    go_wp2
    go_ret
    exact HF.out
end Go.Proofs.YtmimadkepflmlaaGreatDoor

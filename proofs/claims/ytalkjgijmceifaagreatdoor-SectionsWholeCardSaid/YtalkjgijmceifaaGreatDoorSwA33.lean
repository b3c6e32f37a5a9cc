/-
  sections: header.
-/
import Derived.Test.YtalkjgijmceifaaGreatDoorSwA32
namespace Go.Proofs.YtalkjgijmceifaaGreatDoor
open Go.RowKit Go.Maps
set_option maxRecDepth 100000
set_option linter.unusedSimpArgs false
set_option linter.unusedVariables false
set_option linter.unusedSectionVars false
variable [Tab] [Fo]

section
variable {base L p o ck : Nat} {S : List UInt8} {x : Sx} {a : Nat} {w w' : World}
theorem pathA_fa : ∀ (n a : Nat) (acc : List ByteArray) (ks : List ByteArray) (a' : Nat), a ≤ S.length → acc.length ≤ a → (∀ k ∈ acc, k.size ≤ 1000) → pathA S n a acc = some (ks, a') → 0 < ks.length ∧ ks.length ≤ a' ∧ (∀ k ∈ ks, k.size ≤ 1000) ∧ a < a' ∧ a' ≤ S.length
  | 0, _, _, _, _, _, _, _, h => by cases h
  | n + 1, a, acc, ks, a', ha, hl, hs, h => by
    rw [pathA] at h
    cases hk : keyP S a with
    | none => rw [hk] at h; cases h
    | some q =>
      obtain ⟨t, a1⟩ := q
      rw [hk] at h
      obtain ⟨h1, h2, h3⟩ := key_fa hk
      have hs' : ∀ k ∈ acc ++ [t], k.size ≤ 1000 := fun k hk => by
        rcases List.mem_append.1 hk with hk | hk
        · exact hs k hk
        · rw [List.mem_singleton.1 hk]; exact h3
      have h' : (if isB S (a1 + 1) 46 = true then pathA S n (a1 + 2) (acc ++ [t]) else some (acc ++ [t], a1 + 1)) = some (ks, a') := h
      split at h'
      · rename_i hb
        have := isB_true hb
        obtain ⟨k1, k2, k3, k4, k5⟩ := pathA_fa n (a1 + 2) (acc ++ [t]) ks a' (by omega) (by simp; omega) hs' h'
        exact ⟨k1, k2, k3, by omega, k5⟩
      · injection h' with h'
        injection h' with e1 e2
        subst e1 e2
        exact ⟨by simp, by simp; omega, hs', by omega, by omega⟩
theorem path_fa {a : Nat} {ks : List ByteArray} {a' : Nat} (ha : a ≤ S.length) (h : pathP S a = some (ks, a')) : 0 < ks.length ∧ ks.length ≤ S.length ∧ (∀ k ∈ ks, k.size ≤ 1000) ∧ a < a' ∧ a' ≤ S.length := by
  obtain ⟨h1, h2, h3, h4, h5⟩ := pathA_fa _ a [] ks a' ha (Nat.zero_le _) (fun k hk => by cases hk) h
  exact ⟨h1, by omega, h3, h4, h5⟩
theorem begin_facts {x y : Sx} (h : beginS x = some y) : y.l.length ≤ x.l.length + 1 ∧ y.pos = x.pos ∧ y.bs = x.bs ∧ y.bg = true ∧ depX y = depX x ∧ (TkS x → TkS y) := by
  unfold beginS at h
  split at h
  · rename_i hb
    cases h
    exact ⟨Nat.le_succ _, rfl, rfl, hb, rfl, fun h => h⟩
  · rename_i hb
    cases ht : tellX x (evB 7) with
    | none => rw [ht] at h; cases h
    | some z =>
      rw [ht] at h
      have e := Option.some.inj h
      subst e
      obtain ⟨k1, k2, k3, k4, k5⟩ := tell_len ht
      refine ⟨by simp only; omega, k4, k5, rfl, ?_, fun hk => (tkS_tell hk (okE_B (by decide)) ht).of rfl rfl⟩
      have k2' : (z.st.length : Int) = x.st.length + 1 := by rw [k2]; show _ + dK 7 = _; rw [dK_7]
      unfold depX
      simp only
      rw [k4, if_neg hb]
      simp only [if_true]
      omega
/-- What the box of a reading and the parser's block say, of the path. -/
theorem pb_cells {g : Nat} {W : World} (h : SI base L p o ck S secObj W x a w) (hB : Blk W g 278 #[.pointer (some ⟨L, 0, none⟩), .pointer (some ⟨p, 0, none⟩)]) :
    ∃ A c, w.cell? ⟨g, 0, none⟩ = some (.pointer (some ⟨L, 0, none⟩)) ∧ w.cell? ⟨g, 1, none⟩ = some (.pointer (some ⟨p, 0, none⟩)) ∧ w.cell? ⟨p, 2, none⟩ = some (.slice A x.bs.length c) ∧ SRd w (.slice A x.bs.length c) x.bs ∧ g < w.heap.size ∧ p < w.heap.size := by
  obtain ⟨b0, b1, hl⟩ := rb_cells (rb_tch hB h.2)
  obtain ⟨pv, bv, hP, _, _, hS⟩ := h.1.blk
  obtain ⟨A, c, e, hc⟩ := hS.len
  subst e
  exact ⟨A, c, b0, b1, hP.cell 2, hS, hl, hP.lt⟩
theorem SFup {w0 W : World} {q : Obj → Prop} {k : Int} (ht : Tch base q w0 W) (h : SF base L p o ck S q W k w) : SF base L p o ck S q w0 k w := by
  obtain ⟨h1, y, b, h2, h3⟩ := h
  exact ⟨h1, y, b, h2, ht.trans h3⟩
theorem si_drew {W : World} (h : SI base L p o ck S secObj W x a w) : SI base L p o ck S secObj W x a w.drew := ⟨h.1.belowS (below_drew (Below.refl _ _)), h.2.trans (Tch.of_below (below_drew (Below.refl _ _)))⟩
theorem si_below {W : World} (h : SI base L p o ck S secObj W x a w) (hb : Below w.heap.size w w') : SI base L p o ck S secObj W x a w' := ⟨h.1.belowS hb, h.2.trans (Tch.of_below hb)⟩
set_option maxHeartbeats 16000000 in
theorem header_S (h : SecI base L p o ck S x a w) (hl : x.l.length ≤ 500000) (hpn : x.pos.length ≤ 100) :
    Calls Tryz.prog 247 #[rV L p] w (Pq (SI base L p o ck S secObj w) (SF base L p o ck S secObj w) (headerS S a x)) := by
  obtain ⟨g, W, hg, hW, hB, hlt, hi, hT⟩ := rbox (q := secObj) h
  have HU := Lib.hid hT
  have HB := Lib.hid hB
  obtain ⟨R, hR⟩ : ∃ R, headerS S a x = R := ⟨_, rfl⟩
  rw [hR]
  unfold headerS at hR
  have HR := Lib.hid hR
  have h160 := hi.s9
  have h1000 : S.length ≤ 1000 := by omega
  have HX := Lib.hid (And.intro hl hpn)
  have HC := Lib.hid (expect_I ((secT (q := secObj) (w0 := W) h1000 sx_sec).rd x) 91 (si_refl hi))
  obtain ⟨b0, b1, _⟩ := rb_cells hB
  unfold rV
  clear h hT hB hi hR hl hpn
  go_enter Tryz.func247, Tryz.ntmps247
  go_wp2_with fail
  refine HC.out.mono ?_
  rintro e w1 (⟨a1, hr, rfl, h1⟩ | ⟨hr, k, rfl, hF⟩)
  case inr => exact ⟨rfl, pq_up HU.out (.inr ⟨by rw [← HR.out, hr]; rfl, k, rfl, hF⟩)⟩
  rw [hr] at HR
  have HR1 : Hid (((pathP S (if isB S a1 91 = true then a1 + 1 else a1)).bind fun q => headTo S (isB S a1 91) q.1 q.2 x) = R) := Lib.hid HR.out
  have HIs := Lib.hid (is_I ((secT (q := secObj) (w0 := W) h1000 sx_sec).rd x) 91 h1)
  obtain ⟨b0, b1, hgl⟩ := rb_cells (rb_tch HB.out h1.2)
  clear h1 hr HR HC
  go_wp2_with fail
  refine HIs.out.mono ?_
  rintro e w2 ⟨rfl, h2⟩
  obtain ⟨b0, b1, hgl⟩ := rb_cells (rb_tch HB.out h2.2)
  have HI2 := Lib.hid h2
  have l1 : w2.cell? ⟨L, 1, none⟩ = some (.int .i64 (a1 : Int)) := Blk.cell h2.1.ln 1
  have f1 := Blk.frozen h2.1.ln 1
  have hLl := Blk.lt h2.1.ln
  have hal2 := h2.1.al
  clear h2 HIs
  cases hb : isB S a1 91 with
  | true =>
    rw [hb, if_pos rfl] at HR1
    have hal := isB_true hb
    have hi3 := next_I ((secT (q := secObj) (w0 := W) h1000 sx_sec).rd x) HI2.out hal
    obtain ⟨a2, ha2⟩ : ∃ a2 : Nat, (a1 : Int) + 1 = a2 := ⟨a1 + 1, rfl⟩
    have hn2 : a1 + 1 = a2 := by omega
    rw [hn2] at hi3 HR1
    have HI3 := Lib.hid hi3
    have hBr3 := rb_tch HB.out hi3.2
    have HRow := Lib.hid hb
    clear hb hi3 hn2 HI2
    have HId := Lib.hid (si_drew HI3.out)
    have hP := path_any (p := p) HId.out.1.ln h160 HId.out.1.al HId.out.1.lim'
    unfold rV at hP
    have HP := Lib.hid hP
    have HFa := Lib.hid (fun ks a' (hh : pathP S a2 = some (ks, a')) => path_fa HI3.out.1.al hh)
    obtain ⟨d0, d1, hgd⟩ := rb_cells (rb_tch HB.out HId.out.2)
    have hnL : g ≠ L := by
      intro e
      subst e
      have h1 := HI3.out.1.ln
      have h2 := rb_tch HB.out HI3.out.2
      unfold LAt Blk at h1
      unfold Blk at h2
      rw [h2] at h1
      injection h1 with h1
      injection h1 with _ h1
      exact absurd h1 (by decide)
    clear hP hBr3
    go_wp2
    refine region_gp [6] (S := (fun W => W.cell? ⟨g, 0, none⟩ = some (.pointer (some ⟨L, 0, none⟩)) ∧ W.cell? ⟨g, 1, none⟩ = some (.pointer (some ⟨p, 0, none⟩)))) (fun c w' => Pq (SI base L p o ck S secObj w) (SF base L p o ck S secObj w) R (.panicked c) w') (by kernel_rfl) ⟨d0, d1⟩ (fun c a' w' hd hR => ⟨hd, hR⟩) (fun hH => ?_)
    refine g_take (i := 0) (v := .pointer (some ⟨g, 1, none⟩)) (by rfl) (by kernel_rfl) (by kernel_rfl) (by kernel_rfl) (by kernel_rfl) (fun _ _ _ h => pan_put h) (Or.inl ⟨by kernel_rfl, fun W hS => (by obtain ⟨q1, q2⟩ := hS; go_simp)⟩) hH ?_
    simp only [Act.put, List.setIfInBounds_toArray, List.set_cons_zero, List.set_cons_succ]
    refine g_take (i := 1) (v := .pointer (some ⟨p, 0, none⟩)) (by rfl) (by kernel_rfl) (by kernel_rfl) (by kernel_rfl) (by kernel_rfl) (fun _ _ _ h => pan_put h) (Or.inl ⟨by kernel_rfl, fun W hS => (by obtain ⟨q1, q2⟩ := hS; go_simp)⟩) hH ?_
    simp only [Act.put, List.setIfInBounds_toArray, List.set_cons_zero, List.set_cons_succ]
    refine g_take (i := 2) (v := .agg #[.pointer (some ⟨L, 0, none⟩), .pointer (some ⟨p, 0, none⟩)]) (by rfl) (by kernel_rfl) (by kernel_rfl) (by kernel_rfl) (by kernel_rfl) (fun _ _ _ h => pan_put h) (Or.inl ⟨by kernel_rfl, fun W hS => (by obtain ⟨q1, q2⟩ := hS; go_simp)⟩) hH ?_
    simp only [Act.put, List.setIfInBounds_toArray, List.set_cons_zero, List.set_cons_succ]
    refine g_one (i := 3) (by kernel_rfl) (by rfl) (fun K hK => ?_)
    go_simp
    refine HP.out.mono ?_
    rintro e w5 (⟨ks, a5, v, hr, rfl, hv5, h5⟩ | ⟨hr, k, rfl, hk0, b, hF⟩)
    case inr => exact .inr ⟨_, rfl, pq_up HU.out (.inr ⟨by rw [← HR1.out, hr]; rfl, k, rfl, hk0, x, b, HId.out.1.go hF.1 hF.2.1 hF.2.2, HId.out.2.trans ((HId.out.1.line_tch hF.2.2).wide fun r hr => .inl (.inr hr))⟩), rfl⟩
    have hfa := HFa.out ks a5 hr
    obtain ⟨A5, c5, ev, _⟩ := hv5.len
    subst ev
    rw [hr] at HR1
    have HR2 : Hid (headTo S true ks a5 x = R) := Lib.hid HR1.out
    have hi5 : SI base L p o ck S secObj W x a5 w5 := ⟨HId.out.1.go h5.1 h5.2.1 h5.2.2, HId.out.2.trans ((HId.out.1.line_tch h5.2.2).wide fun r hr => .inl (.inr hr))⟩
    obtain ⟨e0, e1, hge⟩ := rb_cells (rb_tch HB.out hi5.2)
    obtain ⟨pv, bv, hPB, _⟩ := hi5.1.blk
    have p2 := hPB.cell 2
    have fp2 := hPB.frozen 2
    have hpl5 := hPB.lt
    have hset := hi5.1.setbs hv5
    have HI6 : Hid (SI base L p o ck S secObj W { x with bs := ks } a5 (w5.setCell ⟨p, 2, none⟩ (.slice A5 ks.length c5))) := Lib.hid ⟨hset.1, hi5.2.trans (hset.2.wide pa_sec)⟩
    have HK := Lib.hid hfa
    refine hK.out _ _ (fun _ => ⟨e0, e1⟩) (fun _ => ?_)
    clear hK K hr HR1 hv5 h5 hi5 hPB hset hfa HP HId HFa hH d0 d1
    refine g_one (i := 4) (by kernel_rfl) (by rfl) (fun K hK => ?_)
    go_simp
    refine hK.out _ _ (fun _ => ⟨e0, e1⟩) (fun _ => ?_)
    clear hK K
    refine g_one (i := 5) (by kernel_rfl) (by rfl) (fun K hK => ?_)
    go_simp
    refine hK.out _ _ (fun _ => ⟨e0, e1⟩) (fun _ => ?_)
    clear hK K
    refine g_one (i := 6) (by kernel_rfl) (by rfl) (fun K hK => ?_)
    go_simp
    refine hK.out _ _ (fun h => absurd (List.mem_singleton.2 rfl) h) (fun _ => ?_)
    clear hK K
    refine g_done (by kernel_rfl) (.inl ⟨by first | rfl | trivial, ?_⟩) _
    clear e0 e1 p2 fp2
    generalize w5.setCell ⟨p, 2, none⟩ (.slice A5 ks.length c5) = w6 at *
    obtain ⟨m0, m1, hgm⟩ := rb_cells (rb_tch HB.out HI6.out.2)
    have HM := Lib.hid (meet_I ((secT (q := secObj) (w0 := W) h1000 sx_sec).rd _) 93 HI6.out)
    go_wp2_with fail
    refine HM.out.mono ?_
    rintro e w7 (⟨a7, hr, rfl, h7⟩ | ⟨hr, k, rfl, hF⟩)
    case inr => exact ⟨rfl, pq_up HU.out (.inr ⟨by rw [← HR2.out]; unfold headTo; rw [hr]; rfl, k, rfl, hF⟩)⟩
    obtain ⟨rfl, hal7⟩ := meetB_some hr
    have HR3 : Hid (((beginS { x with bs := ks }).bind fun x2 => (if (true && inRowS x2.pos ks) = true then nextRowS ks.length x2 else enterS ks true x2).bind fun x3 =>
        (if true = true then eatB S (a7 + 1) 93 else some (a7 + 1)).map fun a5 => (a5, x3)) = R) := Lib.hid (by have h1 := HR2.out; unfold headTo at h1; rw [hr] at h1; exact h1)
    obtain ⟨m0, m1, hgm⟩ := rb_cells (rb_tch HB.out h7.2)
    have hBg := begin_S h7.1 (by have := HX.out.1; show x.l.length ≤ 900000; omega)
    unfold rV at hBg
    have HBg := Lib.hid hBg
    have HT7 := Lib.hid h7.2
    have HFb := Lib.hid (fun y (hy : beginS { x with bs := ks } = some y) => begin_facts hy)
    clear h7 hr hBg HM HR2 HI6
    go_wp2_with fail
    refine HBg.out.mono ?_
    rintro e w8 (⟨y, hr, rfl, h8⟩ | ⟨hr, k, rfl, hF⟩)
    case inr => exact ⟨rfl, pq_up HU.out (.inr ⟨by rw [← HR3.out, hr]; rfl, k, rfl, SFup HT7.out hF⟩)⟩
    have hfb := HFb.out y hr
    rw [hr] at HR3
    have HR4 : Hid (((if (true && inRowS y.pos ks) = true then nextRowS ks.length y else enterS ks true y).bind fun x3 =>
        (if true = true then eatB S (a7 + 1) 93 else some (a7 + 1)).map fun a5 => (a5, x3)) = R) := Lib.hid HR3.out
    have hy1 : y.l.length ≤ 500001 := by have h1 : y.l.length ≤ x.l.length + 1 := hfb.1; have := HX.out.1; omega
    have hy2 : y.pos.length ≤ 100 := by rw [hfb.2.1]; exact HX.out.2
    have hy3 : y.bs = ks := hfb.2.2.1
    have hi8 := si_up HT7.out h8
    have hi8d := si_drew hi8
    obtain ⟨A8, c8, q0, q1, q2, hS8, hg8, hp8⟩ := pb_cells hi8d HB.out
    rw [hy3] at q2 hS8
    obtain ⟨kl, hkl⟩ : ∃ kl, ks.length = kl := ⟨_, rfl⟩
    rw [hkl] at q2 hS8
    have HKL := Lib.hid hkl
    have HY := Lib.hid (And.intro hy1 hy2)
    have HI8 := Lib.hid hi8d
    have HS8 := Lib.hid hS8
    have hIR := inRow_S (.slice A8 kl c8) ks hi8d.1 (by exact hkl ▸ hS8) HK.out.1 (by have := HK.out.2.1; omega)
    unfold rV at hIR
    obtain ⟨ir, hir⟩ : ∃ ir, inRowS y.pos ks = ir := ⟨_, rfl⟩
    rw [hir] at hIR HR4
    have HIR := Lib.hid hIR
    clear hr HR3 HFb HBg hfb hi8 hi8d hS8 hkl hIR hir h8 HT7 hy1 hy2 hy3
    go_wp2
    refine region_g [] (S := (fun W => W.cell? ⟨g, 0, none⟩ = some (.pointer (some ⟨L, 0, none⟩)) ∧ W.cell? ⟨g, 1, none⟩ = some (.pointer (some ⟨p, 0, none⟩)) ∧ W.cell? ⟨p, 2, none⟩ = some (.slice A8 kl c8))) (by kernel_rfl) ⟨q0, q1, q2⟩ (fun hH => ?_)
    refine g_take (i := 0) (v := .bool true) (by rfl) (by kernel_rfl) (by kernel_rfl) (by kernel_rfl) (by kernel_rfl) (fun _ _ _ h => (by cases h.1)) (Or.inl ⟨by kernel_rfl, fun W hS => (by obtain ⟨z1, z2, z3⟩ := hS; go_simp)⟩) hH ?_
    simp only [Act.put, List.setIfInBounds_toArray, List.set_cons_zero, List.set_cons_succ]
    refine g_take (i := 1) (v := .bool true) (by rfl) (by kernel_rfl) (by kernel_rfl) (by kernel_rfl) (by kernel_rfl) (fun _ _ _ h => (by cases h.1)) (Or.inl ⟨by kernel_rfl, fun W hS => (by obtain ⟨z1, z2, z3⟩ := hS; go_simp)⟩) hH ?_
    simp only [Act.put, List.setIfInBounds_toArray, List.set_cons_zero, List.set_cons_succ]
    refine g_take (i := 2) (v := .agg #[.pointer (some ⟨L, 0, none⟩), .pointer (some ⟨p, 0, none⟩)]) (by rfl) (by kernel_rfl) (by kernel_rfl) (by kernel_rfl) (by kernel_rfl) (fun _ _ _ h => (by cases h.1)) (Or.inl ⟨by kernel_rfl, fun W hS => (by obtain ⟨z1, z2, z3⟩ := hS; go_simp)⟩) hH ?_
    simp only [Act.put, List.setIfInBounds_toArray, List.set_cons_zero, List.set_cons_succ]
    refine g_take (i := 3) (v := .pointer (some ⟨g, 1, none⟩)) (by rfl) (by kernel_rfl) (by kernel_rfl) (by kernel_rfl) (by kernel_rfl) (fun _ _ _ h => (by cases h.1)) (Or.inl ⟨by kernel_rfl, fun W hS => (by obtain ⟨z1, z2, z3⟩ := hS; go_simp)⟩) hH ?_
    simp only [Act.put, List.setIfInBounds_toArray, List.set_cons_zero, List.set_cons_succ]
    refine g_take (i := 4) (v := .pointer (some ⟨p, 0, none⟩)) (by rfl) (by kernel_rfl) (by kernel_rfl) (by kernel_rfl) (by kernel_rfl) (fun _ _ _ h => (by cases h.1)) (Or.inl ⟨by kernel_rfl, fun W hS => (by obtain ⟨z1, z2, z3⟩ := hS; go_simp)⟩) hH ?_
    simp only [Act.put, List.setIfInBounds_toArray, List.set_cons_zero, List.set_cons_succ]
    refine g_take (i := 5) (v := .pointer (some ⟨p, 0, none⟩)) (by rfl) (by kernel_rfl) (by kernel_rfl) (by kernel_rfl) (by kernel_rfl) (fun _ _ _ h => (by cases h.1)) (Or.inl ⟨by kernel_rfl, fun W hS => (by obtain ⟨z1, z2, z3⟩ := hS; go_simp)⟩) hH ?_
    simp only [Act.put, List.setIfInBounds_toArray, List.set_cons_zero, List.set_cons_succ]
    refine g_take (i := 6) (v := .pointer (some ⟨p, 2, none⟩)) (by rfl) (by kernel_rfl) (by kernel_rfl) (by kernel_rfl) (by kernel_rfl) (fun _ _ _ h => (by cases h.1)) (Or.inl ⟨by kernel_rfl, fun W hS => (by obtain ⟨z1, z2, z3⟩ := hS; go_simp)⟩) hH ?_
    simp only [Act.put, List.setIfInBounds_toArray, List.set_cons_zero, List.set_cons_succ]
    refine g_take (i := 7) (v := .slice A8 kl c8) (by rfl) (by kernel_rfl) (by kernel_rfl) (by kernel_rfl) (by kernel_rfl) (fun _ _ _ h => (by cases h.1)) (Or.inl ⟨by kernel_rfl, fun W hS => (by obtain ⟨z1, z2, z3⟩ := hS; go_simp)⟩) hH ?_
    simp only [Act.put, List.setIfInBounds_toArray, List.set_cons_zero, List.set_cons_succ]
    refine g_one (i := 8) (by kernel_rfl) (by rfl) (fun K hK => ?_)
    go_simp
    refine HIR.out.mono ?_
    rintro e w9 ⟨rfl, hb9⟩
    have r0 := (hb9.cell (cell_lt q0)).trans q0
    have r1 := (hb9.cell (cell_lt q1)).trans q1
    have r2 := (hb9.cell (cell_lt q2)).trans q2
    have HI9 := Lib.hid (si_below HI8.out hb9)
    have HS9 := Lib.hid (HS8.out.below hb9)
    refine hK.out _ _ (fun _ => ⟨r0, r1, r2⟩) (fun _ => ?_)
    clear hK K hb9 HIR HI8 HS8 hH q0 q1 q2
    refine g_one (i := 9) (by kernel_rfl) (by rfl) (fun K hK => ?_)
    go_simp
    refine hK.out _ _ (fun _ => ⟨r0, r1, r2⟩) (fun _ => ?_)
    clear hK K
    refine g_done (by kernel_rfl) ⟨by first | rfl | trivial, ?_⟩ _
    cases ir with
    | true =>
      have HR5 : Hid ((nextRowS ks.length y).bind (fun x3 => (eatB S (a7 + 1) 93).map fun a5 => (a5, x3)) = R) := Lib.hid HR4.out
      have HI10 := Lib.hid (si_drew HI9.out)
      obtain ⟨u0, u1, hgu⟩ := rb_cells (rb_tch HB.out HI10.out.2)
      have u2 : w9.drew.cell? ⟨p, 2, none⟩ = some (.slice A8 kl c8) := r2
      have hN := nextRow_S kl HI10.out.1 (by have := HY.out.1; omega) (by have := HKL.out; have := HK.out.2.1; omega)
      rw [← HKL.out] at hN
      unfold rV at hN
      have HN := Lib.hid hN
      clear hN HI9 HS9 r0 r1 r2 HR4
      go_wp2
      refine region_gp [7] (S := (fun W => W.cell? ⟨g, 0, none⟩ = some (.pointer (some ⟨L, 0, none⟩)) ∧ W.cell? ⟨g, 1, none⟩ = some (.pointer (some ⟨p, 0, none⟩)) ∧ W.cell? ⟨p, 2, none⟩ = some (.slice A8 kl c8))) (fun c w' => Pq (SI base L p o ck S secObj w) (SF base L p o ck S secObj w) R (.panicked c) w') (by kernel_rfl) ⟨u0, u1, u2⟩ (fun c a' w' hd hR => ⟨hd, hR⟩) (fun hH => ?_)
      refine g_takeT 20 (i := 0) (v := .agg #[.pointer (some ⟨L, 0, none⟩), .pointer (some ⟨p, 0, none⟩)]) (by rfl) (by kernel_rfl) (by kernel_rfl) (by kernel_rfl) (by kernel_rfl) (by kernel_rfl) (fun _ _ _ h => pan_put h) (Or.inl ⟨by kernel_rfl, fun W hS => (by obtain ⟨z1, z2, z3⟩ := hS; go_simp)⟩) hH ?_
      simp only [Act.put, List.setIfInBounds_toArray, List.set_cons_zero, List.set_cons_succ]
      refine g_takeT 20 (i := 1) (v := .pointer (some ⟨g, 1, none⟩)) (by rfl) (by kernel_rfl) (by kernel_rfl) (by kernel_rfl) (by kernel_rfl) (by kernel_rfl) (fun _ _ _ h => pan_put h) (Or.inl ⟨by kernel_rfl, fun W hS => (by obtain ⟨z1, z2, z3⟩ := hS; go_simp)⟩) hH ?_
      simp only [Act.put, List.setIfInBounds_toArray, List.set_cons_zero, List.set_cons_succ]
      refine g_takeT 20 (i := 2) (v := .pointer (some ⟨p, 0, none⟩)) (by rfl) (by kernel_rfl) (by kernel_rfl) (by kernel_rfl) (by kernel_rfl) (by kernel_rfl) (fun _ _ _ h => pan_put h) (Or.inl ⟨by kernel_rfl, fun W hS => (by obtain ⟨z1, z2, z3⟩ := hS; go_simp)⟩) hH ?_
      simp only [Act.put, List.setIfInBounds_toArray, List.set_cons_zero, List.set_cons_succ]
      refine g_takeT 20 (i := 3) (v := .pointer (some ⟨p, 0, none⟩)) (by rfl) (by kernel_rfl) (by kernel_rfl) (by kernel_rfl) (by kernel_rfl) (by kernel_rfl) (fun _ _ _ h => pan_put h) (Or.inl ⟨by kernel_rfl, fun W hS => (by obtain ⟨z1, z2, z3⟩ := hS; go_simp)⟩) hH ?_
      simp only [Act.put, List.setIfInBounds_toArray, List.set_cons_zero, List.set_cons_succ]
      refine g_takeT 20 (i := 4) (v := .pointer (some ⟨p, 2, none⟩)) (by rfl) (by kernel_rfl) (by kernel_rfl) (by kernel_rfl) (by kernel_rfl) (by kernel_rfl) (fun _ _ _ h => pan_put h) (Or.inl ⟨by kernel_rfl, fun W hS => (by obtain ⟨z1, z2, z3⟩ := hS; go_simp)⟩) hH ?_
      simp only [Act.put, List.setIfInBounds_toArray, List.set_cons_zero, List.set_cons_succ]
      refine g_takeT 20 (i := 5) (v := .slice A8 kl c8) (by rfl) (by kernel_rfl) (by kernel_rfl) (by kernel_rfl) (by kernel_rfl) (by kernel_rfl) (fun _ _ _ h => pan_put h) (Or.inl ⟨by kernel_rfl, fun W hS => (by obtain ⟨z1, z2, z3⟩ := hS; go_simp)⟩) hH ?_
      simp only [Act.put, List.setIfInBounds_toArray, List.set_cons_zero, List.set_cons_succ]
      refine g_takeT 20 (i := 6) (v := .int .i64 (kl : Int)) (by rfl) (by kernel_rfl) (by kernel_rfl) (by kernel_rfl) (by kernel_rfl) (by kernel_rfl) (fun _ _ _ h => pan_put h) (Or.inl ⟨by kernel_rfl, fun W hS => (by obtain ⟨z1, z2, z3⟩ := hS; go_simp)⟩) hH ?_
      simp only [Act.put, List.setIfInBounds_toArray, List.set_cons_zero, List.set_cons_succ]
      refine g_one (i := 7) (by kernel_rfl) (by rfl) (fun K hK => ?_)
      go_simp
      have hkl := HKL.out
      subst hkl
      refine HN.out.mono ?_
      rintro e w11 (⟨z, hr, rfl, h11⟩ | ⟨hr, k, rfl, hF⟩)
      case inr => exact .inr ⟨_, rfl, pq_up HU.out (.inr ⟨by rw [← HR5.out, hr]; rfl, k, rfl, SFup HI10.out.2 hF⟩), rfl⟩
      rw [hr] at HR5
      have hi11 := si_up HI10.out.2 h11
      obtain ⟨v0, v1, hg11⟩ := rb_cells (rb_tch HB.out hi11.2)
      have l1 : w11.cell? ⟨L, 1, none⟩ = some (.int .i64 (a7 : Int)) := Blk.cell hi11.1.ln 1
      have f1 := Blk.frozen hi11.1.ln 1
      have hLl := Blk.lt hi11.1.ln
      have hi12 := next_I ((secT (q := secObj) (w0 := W) h1000 sx_sec).rd z) hi11 hal7
      obtain ⟨a8, ha8⟩ : ∃ a8 : Nat, (a7 : Int) + 1 = a8 := ⟨a7 + 1, rfl⟩
      have hn8 : a7 + 1 = a8 := by omega
      rw [hn8] at hi12 HR5
      have HI12 := Lib.hid hi12
      refine hK.out _ _ (fun h => absurd (List.mem_singleton.2 rfl) h) (fun _ => ?_)
      clear hK K hr h11 hi11 hi12 HN HI10 u0 u1 u2 hH hn8
      refine g_done (by kernel_rfl) (.inl ⟨by first | rfl | trivial, ?_⟩) _
      have HE := Lib.hid (expect_I ((secT (q := secObj) (w0 := W) h1000 sx_sec).rd z) 93 HI12.out)
      obtain ⟨y0, y1, hgy⟩ := rb_cells (rb_tch HB.out HI12.out.2)
      go_wp2_with fail
      refine HE.out.mono ?_
      rintro e w13 (⟨a9, hr, rfl, h13⟩ | ⟨hr, k, rfl, hF⟩)
      case inr => exact ⟨rfl, pq_up HU.out (.inr ⟨by rw [← HR5.out]; show (eatB S a8 93).map _ = none; rw [hr]; rfl, k, rfl, hF⟩)⟩
      have HF := Lib.hid (show R = some (a9, z) ∧ _ from ⟨by rw [← HR5.out]; show (eatB S a8 93).map _ = _; rw [hr]; rfl, h13⟩)
      clear hr h13 HE
      go_wp2
      go_end0
      exact pq_up HU.out (.inl ⟨a9, z, HF.out.1, rfl, HF.out.2⟩)
    | false =>
      have HR5 : Hid ((enterS ks true y).bind (fun x3 => (eatB S (a7 + 1) 93).map fun a5 => (a5, x3)) = R) := Lib.hid HR4.out
      have HI10 := Lib.hid (si_drew HI9.out)
      obtain ⟨u0, u1, hgu⟩ := rb_cells (rb_tch HB.out HI10.out.2)
      have u2 : w9.drew.cell? ⟨p, 2, none⟩ = some (.slice A8 kl c8) := r2
      have hN := enter_S (.slice A8 kl c8) ks true HI10.out.1 (by have h1 := (HS9.out.below (below_drew (Below.refl _ _))); exact h1) HK.out.2.2.1 HK.out.1 (by have := HK.out.2.1; omega) (by have := HY.out.1; omega) (by have := HY.out.2; omega)
      unfold rV at hN
      have HN := Lib.hid hN
      clear hN HI9 HS9 r0 r1 r2 HR4
      go_wp2
      refine region_gp [7] (S := (fun W => W.cell? ⟨g, 0, none⟩ = some (.pointer (some ⟨L, 0, none⟩)) ∧ W.cell? ⟨g, 1, none⟩ = some (.pointer (some ⟨p, 0, none⟩)) ∧ W.cell? ⟨p, 2, none⟩ = some (.slice A8 kl c8))) (fun c w' => Pq (SI base L p o ck S secObj w) (SF base L p o ck S secObj w) R (.panicked c) w') (by kernel_rfl) ⟨u0, u1, u2⟩ (fun c a' w' hd hR => ⟨hd, hR⟩) (fun hH => ?_)
      refine g_takeT 20 (i := 0) (v := .agg #[.pointer (some ⟨L, 0, none⟩), .pointer (some ⟨p, 0, none⟩)]) (by rfl) (by kernel_rfl) (by kernel_rfl) (by kernel_rfl) (by kernel_rfl) (by kernel_rfl) (fun _ _ _ h => pan_put h) (Or.inl ⟨by kernel_rfl, fun W hS => (by obtain ⟨z1, z2, z3⟩ := hS; go_simp)⟩) hH ?_
      simp only [Act.put, List.setIfInBounds_toArray, List.set_cons_zero, List.set_cons_succ]
      refine g_takeT 20 (i := 1) (v := .pointer (some ⟨g, 1, none⟩)) (by rfl) (by kernel_rfl) (by kernel_rfl) (by kernel_rfl) (by kernel_rfl) (by kernel_rfl) (fun _ _ _ h => pan_put h) (Or.inl ⟨by kernel_rfl, fun W hS => (by obtain ⟨z1, z2, z3⟩ := hS; go_simp)⟩) hH ?_
      simp only [Act.put, List.setIfInBounds_toArray, List.set_cons_zero, List.set_cons_succ]
      refine g_takeT 20 (i := 2) (v := .pointer (some ⟨p, 0, none⟩)) (by rfl) (by kernel_rfl) (by kernel_rfl) (by kernel_rfl) (by kernel_rfl) (by kernel_rfl) (fun _ _ _ h => pan_put h) (Or.inl ⟨by kernel_rfl, fun W hS => (by obtain ⟨z1, z2, z3⟩ := hS; go_simp)⟩) hH ?_
      simp only [Act.put, List.setIfInBounds_toArray, List.set_cons_zero, List.set_cons_succ]
      refine g_takeT 20 (i := 3) (v := .pointer (some ⟨p, 0, none⟩)) (by rfl) (by kernel_rfl) (by kernel_rfl) (by kernel_rfl) (by kernel_rfl) (by kernel_rfl) (fun _ _ _ h => pan_put h) (Or.inl ⟨by kernel_rfl, fun W hS => (by obtain ⟨z1, z2, z3⟩ := hS; go_simp)⟩) hH ?_
      simp only [Act.put, List.setIfInBounds_toArray, List.set_cons_zero, List.set_cons_succ]
      refine g_takeT 20 (i := 4) (v := .pointer (some ⟨p, 2, none⟩)) (by rfl) (by kernel_rfl) (by kernel_rfl) (by kernel_rfl) (by kernel_rfl) (by kernel_rfl) (fun _ _ _ h => pan_put h) (Or.inl ⟨by kernel_rfl, fun W hS => (by obtain ⟨z1, z2, z3⟩ := hS; go_simp)⟩) hH ?_
      simp only [Act.put, List.setIfInBounds_toArray, List.set_cons_zero, List.set_cons_succ]
      refine g_takeT 20 (i := 5) (v := .slice A8 kl c8) (by rfl) (by kernel_rfl) (by kernel_rfl) (by kernel_rfl) (by kernel_rfl) (by kernel_rfl) (fun _ _ _ h => pan_put h) (Or.inl ⟨by kernel_rfl, fun W hS => (by obtain ⟨z1, z2, z3⟩ := hS; go_simp)⟩) hH ?_
      simp only [Act.put, List.setIfInBounds_toArray, List.set_cons_zero, List.set_cons_succ]
      refine g_takeT 20 (i := 6) (v := .bool true) (by rfl) (by kernel_rfl) (by kernel_rfl) (by kernel_rfl) (by kernel_rfl) (by kernel_rfl) (fun _ _ _ h => pan_put h) (Or.inl ⟨by kernel_rfl, fun W hS => (by obtain ⟨z1, z2, z3⟩ := hS; go_simp)⟩) hH ?_
      simp only [Act.put, List.setIfInBounds_toArray, List.set_cons_zero, List.set_cons_succ]
      refine g_one (i := 7) (by kernel_rfl) (by rfl) (fun K hK => ?_)
      go_simp
      refine HN.out.mono ?_
      rintro e w11 (⟨z, hr, rfl, h11⟩ | ⟨hr, k, rfl, hF⟩)
      case inr => exact .inr ⟨_, rfl, pq_up HU.out (.inr ⟨by rw [← HR5.out, hr]; rfl, k, rfl, SFup HI10.out.2 hF⟩), rfl⟩
      rw [hr] at HR5
      have hi11 := si_up HI10.out.2 h11
      obtain ⟨v0, v1, hg11⟩ := rb_cells (rb_tch HB.out hi11.2)
      have l1 : w11.cell? ⟨L, 1, none⟩ = some (.int .i64 (a7 : Int)) := Blk.cell hi11.1.ln 1
      have f1 := Blk.frozen hi11.1.ln 1
      have hLl := Blk.lt hi11.1.ln
      have hi12 := next_I ((secT (q := secObj) (w0 := W) h1000 sx_sec).rd z) hi11 hal7
      obtain ⟨a8, ha8⟩ : ∃ a8 : Nat, (a7 : Int) + 1 = a8 := ⟨a7 + 1, rfl⟩
      have hn8 : a7 + 1 = a8 := by omega
      rw [hn8] at hi12 HR5
      have HI12 := Lib.hid hi12
      refine hK.out _ _ (fun h => absurd (List.mem_singleton.2 rfl) h) (fun _ => ?_)
      clear hK K hr h11 hi11 hi12 HN HI10 u0 u1 u2 hH hn8
      refine g_done (by kernel_rfl) (.inl ⟨by first | rfl | trivial, ?_⟩) _
      have HE := Lib.hid (expect_I ((secT (q := secObj) (w0 := W) h1000 sx_sec).rd z) 93 HI12.out)
      obtain ⟨y0, y1, hgy⟩ := rb_cells (rb_tch HB.out HI12.out.2)
      go_wp2_with fail
      refine HE.out.mono ?_
      rintro e w13 (⟨a9, hr, rfl, h13⟩ | ⟨hr, k, rfl, hF⟩)
      case inr => exact ⟨rfl, pq_up HU.out (.inr ⟨by rw [← HR5.out]; show (eatB S a8 93).map _ = none; rw [hr]; rfl, k, rfl, hF⟩)⟩
      have HF := Lib.hid (show R = some (a9, z) ∧ _ from ⟨by rw [← HR5.out]; show (eatB S a8 93).map _ = _; rw [hr]; rfl, h13⟩)
      clear hr h13 HE
      go_wp2
      go_end0
      exact pq_up HU.out (.inl ⟨a9, z, HF.out.1, rfl, HF.out.2⟩)
  | false =>
    rw [hb, if_neg (by decide)] at HR1
    have HRow := Lib.hid hb
    have hBr3 := rb_tch HB.out HI2.out.2
    clear hb
    have HId := Lib.hid (si_drew HI2.out)
    have hP := path_any (p := p) HId.out.1.ln h160 HId.out.1.al HId.out.1.lim'
    unfold rV at hP
    have HP := Lib.hid hP
    have HFa := Lib.hid (fun ks a' (hh : pathP S a1 = some (ks, a')) => path_fa HI2.out.1.al hh)
    obtain ⟨d0, d1, hgd⟩ := rb_cells (rb_tch HB.out HId.out.2)
    have hnL : g ≠ L := by
      intro e
      subst e
      have h1 := HI2.out.1.ln
      have h2 := rb_tch HB.out HI2.out.2
      unfold LAt Blk at h1
      unfold Blk at h2
      rw [h2] at h1
      injection h1 with h1
      injection h1 with _ h1
      exact absurd h1 (by decide)
    clear hP hBr3
    clear l1 f1
    go_wp2
    refine region_gp [6] (S := (fun W => W.cell? ⟨g, 0, none⟩ = some (.pointer (some ⟨L, 0, none⟩)) ∧ W.cell? ⟨g, 1, none⟩ = some (.pointer (some ⟨p, 0, none⟩)))) (fun c w' => Pq (SI base L p o ck S secObj w) (SF base L p o ck S secObj w) R (.panicked c) w') (by kernel_rfl) ⟨d0, d1⟩ (fun c a' w' hd hR => ⟨hd, hR⟩) (fun hH => ?_)
    refine g_take (i := 0) (v := .pointer (some ⟨g, 1, none⟩)) (by rfl) (by kernel_rfl) (by kernel_rfl) (by kernel_rfl) (by kernel_rfl) (fun _ _ _ h => pan_put h) (Or.inl ⟨by kernel_rfl, fun W hS => (by obtain ⟨q1, q2⟩ := hS; go_simp)⟩) hH ?_
    simp only [Act.put, List.setIfInBounds_toArray, List.set_cons_zero, List.set_cons_succ]
    refine g_take (i := 1) (v := .pointer (some ⟨p, 0, none⟩)) (by rfl) (by kernel_rfl) (by kernel_rfl) (by kernel_rfl) (by kernel_rfl) (fun _ _ _ h => pan_put h) (Or.inl ⟨by kernel_rfl, fun W hS => (by obtain ⟨q1, q2⟩ := hS; go_simp)⟩) hH ?_
    simp only [Act.put, List.setIfInBounds_toArray, List.set_cons_zero, List.set_cons_succ]
    refine g_take (i := 2) (v := .agg #[.pointer (some ⟨L, 0, none⟩), .pointer (some ⟨p, 0, none⟩)]) (by rfl) (by kernel_rfl) (by kernel_rfl) (by kernel_rfl) (by kernel_rfl) (fun _ _ _ h => pan_put h) (Or.inl ⟨by kernel_rfl, fun W hS => (by obtain ⟨q1, q2⟩ := hS; go_simp)⟩) hH ?_
    simp only [Act.put, List.setIfInBounds_toArray, List.set_cons_zero, List.set_cons_succ]
    refine g_one (i := 3) (by kernel_rfl) (by rfl) (fun K hK => ?_)
    go_simp
    refine HP.out.mono ?_
    rintro e w5 (⟨ks, a5, v, hr, rfl, hv5, h5⟩ | ⟨hr, k, rfl, hk0, b, hF⟩)
    case inr => exact .inr ⟨_, rfl, pq_up HU.out (.inr ⟨by rw [← HR1.out, hr]; rfl, k, rfl, hk0, x, b, HId.out.1.go hF.1 hF.2.1 hF.2.2, HId.out.2.trans ((HId.out.1.line_tch hF.2.2).wide fun r hr => .inl (.inr hr))⟩), rfl⟩
    have hfa := HFa.out ks a5 hr
    obtain ⟨A5, c5, ev, _⟩ := hv5.len
    subst ev
    rw [hr] at HR1
    have HR2 : Hid (headTo S false ks a5 x = R) := Lib.hid HR1.out
    have hi5 : SI base L p o ck S secObj W x a5 w5 := ⟨HId.out.1.go h5.1 h5.2.1 h5.2.2, HId.out.2.trans ((HId.out.1.line_tch h5.2.2).wide fun r hr => .inl (.inr hr))⟩
    obtain ⟨e0, e1, hge⟩ := rb_cells (rb_tch HB.out hi5.2)
    obtain ⟨pv, bv, hPB, _⟩ := hi5.1.blk
    have p2 := hPB.cell 2
    have fp2 := hPB.frozen 2
    have hpl5 := hPB.lt
    have hset := hi5.1.setbs hv5
    have HI6 : Hid (SI base L p o ck S secObj W { x with bs := ks } a5 (w5.setCell ⟨p, 2, none⟩ (.slice A5 ks.length c5))) := Lib.hid ⟨hset.1, hi5.2.trans (hset.2.wide pa_sec)⟩
    have HK := Lib.hid hfa
    refine hK.out _ _ (fun _ => ⟨e0, e1⟩) (fun _ => ?_)
    clear hK K hr HR1 hv5 h5 hi5 hPB hset hfa HP HId HFa hH d0 d1
    refine g_one (i := 4) (by kernel_rfl) (by rfl) (fun K hK => ?_)
    go_simp
    refine hK.out _ _ (fun _ => ⟨e0, e1⟩) (fun _ => ?_)
    clear hK K
    refine g_one (i := 5) (by kernel_rfl) (by rfl) (fun K hK => ?_)
    go_simp
    refine hK.out _ _ (fun _ => ⟨e0, e1⟩) (fun _ => ?_)
    clear hK K
    refine g_one (i := 6) (by kernel_rfl) (by rfl) (fun K hK => ?_)
    go_simp
    refine hK.out _ _ (fun h => absurd (List.mem_singleton.2 rfl) h) (fun _ => ?_)
    clear hK K
    refine g_done (by kernel_rfl) (.inl ⟨by first | rfl | trivial, ?_⟩) _
    clear e0 e1 p2 fp2
    generalize w5.setCell ⟨p, 2, none⟩ (.slice A5 ks.length c5) = w6 at *
    obtain ⟨m0, m1, hgm⟩ := rb_cells (rb_tch HB.out HI6.out.2)
    have HM := Lib.hid (meet_I ((secT (q := secObj) (w0 := W) h1000 sx_sec).rd _) 93 HI6.out)
    go_wp2_with fail
    refine HM.out.mono ?_
    rintro e w7 (⟨a7, hr, rfl, h7⟩ | ⟨hr, k, rfl, hF⟩)
    case inr => exact ⟨rfl, pq_up HU.out (.inr ⟨by rw [← HR2.out]; unfold headTo; rw [hr]; rfl, k, rfl, hF⟩)⟩
    obtain ⟨rfl, hal7⟩ := meetB_some hr
    have HR3 : Hid (((beginS { x with bs := ks }).bind fun x2 => (if (false && inRowS x2.pos ks) = true then nextRowS ks.length x2 else enterS ks false x2).bind fun x3 =>
        (if false = true then eatB S (a7 + 1) 93 else some (a7 + 1)).map fun a5 => (a5, x3)) = R) := Lib.hid (by have h1 := HR2.out; unfold headTo at h1; rw [hr] at h1; exact h1)
    obtain ⟨m0, m1, hgm⟩ := rb_cells (rb_tch HB.out h7.2)
    have hBg := begin_S h7.1 (by have := HX.out.1; show x.l.length ≤ 900000; omega)
    unfold rV at hBg
    have HBg := Lib.hid hBg
    have HT7 := Lib.hid h7.2
    have HFb := Lib.hid (fun y (hy : beginS { x with bs := ks } = some y) => begin_facts hy)
    clear h7 hr hBg HM HR2 HI6
    go_wp2_with fail
    refine HBg.out.mono ?_
    rintro e w8 (⟨y, hr, rfl, h8⟩ | ⟨hr, k, rfl, hF⟩)
    case inr => exact ⟨rfl, pq_up HU.out (.inr ⟨by rw [← HR3.out, hr]; rfl, k, rfl, SFup HT7.out hF⟩)⟩
    have hfb := HFb.out y hr
    rw [hr] at HR3
    have HR4 : Hid (((if (false && inRowS y.pos ks) = true then nextRowS ks.length y else enterS ks false y).bind fun x3 =>
        (if false = true then eatB S (a7 + 1) 93 else some (a7 + 1)).map fun a5 => (a5, x3)) = R) := Lib.hid HR3.out
    have hy1 : y.l.length ≤ 500001 := by have h1 : y.l.length ≤ x.l.length + 1 := hfb.1; have := HX.out.1; omega
    have hy2 : y.pos.length ≤ 100 := by rw [hfb.2.1]; exact HX.out.2
    have hy3 : y.bs = ks := hfb.2.2.1
    have hi8 := si_up HT7.out h8
    have hi8d := si_drew hi8
    obtain ⟨A8, c8, q0, q1, q2, hS8, hg8, hp8⟩ := pb_cells hi8d HB.out
    rw [hy3] at q2 hS8
    obtain ⟨kl, hkl⟩ : ∃ kl, ks.length = kl := ⟨_, rfl⟩
    rw [hkl] at q2 hS8
    have HKL := Lib.hid hkl
    have HY := Lib.hid (And.intro hy1 hy2)
    have HI8 := Lib.hid hi8d
    have HS8 := Lib.hid hS8
    clear hr HR3 HFb HBg hfb hi8 hi8d hS8 hkl h8 HT7 hy1 hy2 hy3
    go_wp2
    refine region_g [] (S := (fun W => W.cell? ⟨g, 0, none⟩ = some (.pointer (some ⟨L, 0, none⟩)) ∧ W.cell? ⟨g, 1, none⟩ = some (.pointer (some ⟨p, 0, none⟩)) ∧ W.cell? ⟨p, 2, none⟩ = some (.slice A8 kl c8))) (by kernel_rfl) ⟨q0, q1, q2⟩ (fun hH => ?_)
    refine g_take (i := 0) (v := .bool false) (by rfl) (by kernel_rfl) (by kernel_rfl) (by kernel_rfl) (by kernel_rfl) (fun _ _ _ h => (by cases h.1)) (Or.inl ⟨by kernel_rfl, fun W hS => (by obtain ⟨z1, z2, z3⟩ := hS; go_simp)⟩) hH ?_
    simp only [Act.put, List.setIfInBounds_toArray, List.set_cons_zero, List.set_cons_succ]
    refine g_take (i := 1) (v := .bool false) (by rfl) (by kernel_rfl) (by kernel_rfl) (by kernel_rfl) (by kernel_rfl) (fun _ _ _ h => (by cases h.1)) (Or.inl ⟨by kernel_rfl, fun W hS => (by obtain ⟨z1, z2, z3⟩ := hS; go_simp)⟩) hH ?_
    simp only [Act.put, List.setIfInBounds_toArray, List.set_cons_zero, List.set_cons_succ]
    refine g_take (i := 2) (v := undef) (by rfl) (by kernel_rfl) (by kernel_rfl) (by kernel_rfl) (by kernel_rfl) (fun _ _ _ h => (by cases h.1)) (Or.inr ⟨by kernel_rfl, rfl⟩) hH ?_
    simp only [Act.put, List.setIfInBounds_toArray, List.set_cons_zero, List.set_cons_succ]
    refine g_take (i := 3) (v := undef) (by rfl) (by kernel_rfl) (by kernel_rfl) (by kernel_rfl) (by kernel_rfl) (fun _ _ _ h => (by cases h.1)) (Or.inr ⟨by kernel_rfl, rfl⟩) hH ?_
    simp only [Act.put, List.setIfInBounds_toArray, List.set_cons_zero, List.set_cons_succ]
    refine g_take (i := 4) (v := undef) (by rfl) (by kernel_rfl) (by kernel_rfl) (by kernel_rfl) (by kernel_rfl) (fun _ _ _ h => (by cases h.1)) (Or.inr ⟨by kernel_rfl, rfl⟩) hH ?_
    simp only [Act.put, List.setIfInBounds_toArray, List.set_cons_zero, List.set_cons_succ]
    refine g_take (i := 5) (v := undef) (by rfl) (by kernel_rfl) (by kernel_rfl) (by kernel_rfl) (by kernel_rfl) (fun _ _ _ h => (by cases h.1)) (Or.inr ⟨by kernel_rfl, rfl⟩) hH ?_
    simp only [Act.put, List.setIfInBounds_toArray, List.set_cons_zero, List.set_cons_succ]
    refine g_take (i := 6) (v := undef) (by rfl) (by kernel_rfl) (by kernel_rfl) (by kernel_rfl) (by kernel_rfl) (fun _ _ _ h => (by cases h.1)) (Or.inr ⟨by kernel_rfl, rfl⟩) hH ?_
    simp only [Act.put, List.setIfInBounds_toArray, List.set_cons_zero, List.set_cons_succ]
    refine g_take (i := 7) (v := undef) (by rfl) (by kernel_rfl) (by kernel_rfl) (by kernel_rfl) (by kernel_rfl) (fun _ _ _ h => (by cases h.1)) (Or.inr ⟨by kernel_rfl, rfl⟩) hH ?_
    simp only [Act.put, List.setIfInBounds_toArray, List.set_cons_zero, List.set_cons_succ]
    refine g_take (i := 8) (v := undef) (by rfl) (by kernel_rfl) (by kernel_rfl) (by kernel_rfl) (by kernel_rfl) (fun _ _ _ h => (by cases h.1)) (Or.inr ⟨by kernel_rfl, rfl⟩) hH ?_
    simp only [Act.put, List.setIfInBounds_toArray, List.set_cons_zero, List.set_cons_succ]
    refine g_one (i := 9) (by kernel_rfl) (by rfl) (fun K hK => ?_)
    go_simp
    refine hK.out _ _ (fun _ => ⟨q0, q1, q2⟩) (fun _ => ?_)
    clear hK K
    refine g_done (by kernel_rfl) ⟨by first | rfl | trivial, ?_⟩ _
    have HI9 := HI8
    have HS9 := HS8
    have r0 := q0
    have r1 := q1
    have r2 := q2
    have HR5 : Hid ((enterS ks false y).bind (fun x3 => some ((a7 + 1, x3))) = R) := Lib.hid HR4.out
    have HI10 := Lib.hid (si_drew HI9.out)
    obtain ⟨u0, u1, hgu⟩ := rb_cells (rb_tch HB.out HI10.out.2)
    have u2 : w8.drew.drew.cell? ⟨p, 2, none⟩ = some (.slice A8 kl c8) := r2
    have hN := enter_S (.slice A8 kl c8) ks false HI10.out.1 (by have h1 := (HS9.out.below (below_drew (Below.refl _ _))); exact h1) HK.out.2.2.1 HK.out.1 (by have := HK.out.2.1; omega) (by have := HY.out.1; omega) (by have := HY.out.2; omega)
    unfold rV at hN
    have HN := Lib.hid hN
    clear hN HI9 HS9 r0 r1 r2 HR4
    go_wp2
    refine region_gp [7] (S := (fun W => W.cell? ⟨g, 0, none⟩ = some (.pointer (some ⟨L, 0, none⟩)) ∧ W.cell? ⟨g, 1, none⟩ = some (.pointer (some ⟨p, 0, none⟩)) ∧ W.cell? ⟨p, 2, none⟩ = some (.slice A8 kl c8))) (fun c w' => Pq (SI base L p o ck S secObj w) (SF base L p o ck S secObj w) R (.panicked c) w') (by kernel_rfl) ⟨u0, u1, u2⟩ (fun c a' w' hd hR => ⟨hd, hR⟩) (fun hH => ?_)
    refine g_takeT 20 (i := 0) (v := .agg #[.pointer (some ⟨L, 0, none⟩), .pointer (some ⟨p, 0, none⟩)]) (by rfl) (by kernel_rfl) (by kernel_rfl) (by kernel_rfl) (by kernel_rfl) (by kernel_rfl) (fun _ _ _ h => pan_put h) (Or.inl ⟨by kernel_rfl, fun W hS => (by obtain ⟨z1, z2, z3⟩ := hS; go_simp)⟩) hH ?_
    simp only [Act.put, List.setIfInBounds_toArray, List.set_cons_zero, List.set_cons_succ]
    refine g_takeT 20 (i := 1) (v := .pointer (some ⟨g, 1, none⟩)) (by rfl) (by kernel_rfl) (by kernel_rfl) (by kernel_rfl) (by kernel_rfl) (by kernel_rfl) (fun _ _ _ h => pan_put h) (Or.inl ⟨by kernel_rfl, fun W hS => (by obtain ⟨z1, z2, z3⟩ := hS; go_simp)⟩) hH ?_
    simp only [Act.put, List.setIfInBounds_toArray, List.set_cons_zero, List.set_cons_succ]
    refine g_takeT 20 (i := 2) (v := .pointer (some ⟨p, 0, none⟩)) (by rfl) (by kernel_rfl) (by kernel_rfl) (by kernel_rfl) (by kernel_rfl) (by kernel_rfl) (fun _ _ _ h => pan_put h) (Or.inl ⟨by kernel_rfl, fun W hS => (by obtain ⟨z1, z2, z3⟩ := hS; go_simp)⟩) hH ?_
    simp only [Act.put, List.setIfInBounds_toArray, List.set_cons_zero, List.set_cons_succ]
    refine g_takeT 20 (i := 3) (v := .pointer (some ⟨p, 0, none⟩)) (by rfl) (by kernel_rfl) (by kernel_rfl) (by kernel_rfl) (by kernel_rfl) (by kernel_rfl) (fun _ _ _ h => pan_put h) (Or.inl ⟨by kernel_rfl, fun W hS => (by obtain ⟨z1, z2, z3⟩ := hS; go_simp)⟩) hH ?_
    simp only [Act.put, List.setIfInBounds_toArray, List.set_cons_zero, List.set_cons_succ]
    refine g_takeT 20 (i := 4) (v := .pointer (some ⟨p, 2, none⟩)) (by rfl) (by kernel_rfl) (by kernel_rfl) (by kernel_rfl) (by kernel_rfl) (by kernel_rfl) (fun _ _ _ h => pan_put h) (Or.inl ⟨by kernel_rfl, fun W hS => (by obtain ⟨z1, z2, z3⟩ := hS; go_simp)⟩) hH ?_
    simp only [Act.put, List.setIfInBounds_toArray, List.set_cons_zero, List.set_cons_succ]
    refine g_takeT 20 (i := 5) (v := .slice A8 kl c8) (by rfl) (by kernel_rfl) (by kernel_rfl) (by kernel_rfl) (by kernel_rfl) (by kernel_rfl) (fun _ _ _ h => pan_put h) (Or.inl ⟨by kernel_rfl, fun W hS => (by obtain ⟨z1, z2, z3⟩ := hS; go_simp)⟩) hH ?_
    simp only [Act.put, List.setIfInBounds_toArray, List.set_cons_zero, List.set_cons_succ]
    refine g_takeT 20 (i := 6) (v := .bool false) (by rfl) (by kernel_rfl) (by kernel_rfl) (by kernel_rfl) (by kernel_rfl) (by kernel_rfl) (fun _ _ _ h => pan_put h) (Or.inl ⟨by kernel_rfl, fun W hS => (by obtain ⟨z1, z2, z3⟩ := hS; go_simp)⟩) hH ?_
    simp only [Act.put, List.setIfInBounds_toArray, List.set_cons_zero, List.set_cons_succ]
    refine g_one (i := 7) (by kernel_rfl) (by rfl) (fun K hK => ?_)
    go_simp
    refine HN.out.mono ?_
    rintro e w11 (⟨z, hr, rfl, h11⟩ | ⟨hr, k, rfl, hF⟩)
    case inr => exact .inr ⟨_, rfl, pq_up HU.out (.inr ⟨by rw [← HR5.out, hr]; rfl, k, rfl, SFup HI10.out.2 hF⟩), rfl⟩
    rw [hr] at HR5
    have hi11 := si_up HI10.out.2 h11
    obtain ⟨v0, v1, hg11⟩ := rb_cells (rb_tch HB.out hi11.2)
    have l1 : w11.cell? ⟨L, 1, none⟩ = some (.int .i64 (a7 : Int)) := Blk.cell hi11.1.ln 1
    have f1 := Blk.frozen hi11.1.ln 1
    have hLl := Blk.lt hi11.1.ln
    have hi12 := next_I ((secT (q := secObj) (w0 := W) h1000 sx_sec).rd z) hi11 hal7
    obtain ⟨a8, ha8⟩ : ∃ a8 : Nat, (a7 : Int) + 1 = a8 := ⟨a7 + 1, rfl⟩
    have hn8 : a7 + 1 = a8 := by omega
    rw [hn8] at hi12 HR5
    have HI12 := Lib.hid hi12
    refine hK.out _ _ (fun h => absurd (List.mem_singleton.2 rfl) h) (fun _ => ?_)
    clear hK K hr h11 hi11 hi12 HN HI10 u0 u1 u2 hH hn8
    refine g_done (by kernel_rfl) (.inl ⟨by first | rfl | trivial, ?_⟩) _
    go_wp2
    go_end0
    exact pq_up HU.out (.inl ⟨a8, z, HR5.out.symm, rfl, HI12.out⟩)
end
end Go.Proofs.YtalkjgijmceifaaGreatDoor

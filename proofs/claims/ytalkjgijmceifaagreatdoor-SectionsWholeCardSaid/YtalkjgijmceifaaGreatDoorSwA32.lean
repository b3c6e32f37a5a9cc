/-
  sections: enter; setTo, field, value.
  A region that draws its order: an operation that is taken first, where the operations that S is not asked behind wait for it, by way of others.
-/
import Derived.Test.YtalkjgijmceifaaGreatDoorSwA31
import Derived.Test.YtalkjgijmceifaaGreatDoorSwA13
namespace Go.Proofs.YtalkjgijmceifaaGreatDoor
open Go.RowKit Go.Maps
set_option maxRecDepth 100000
set_option linter.unusedSimpArgs false
set_option linter.unusedVariables false
set_option linter.unusedSectionVars false
variable [Tab] [Fo]

section
variable {base L p o ck : Nat} {S : List UInt8} {x : Sx} {a : Nat} {w w' : World}
theorem lastK_sz {ks : List ByteArray} (hks : ∀ k ∈ ks, k.size ≤ 1000) (h0 : 0 < ks.length) : (lastK ks).size ≤ 1000 := by
  obtain ⟨n, hn⟩ : ∃ n, ks.length = n + 1 := ⟨ks.length - 1, by omega⟩
  rw [lastK_eq hn]
  exact hks _ (List.getElem_mem _)
theorem moveS_facts {ks : List ByteArray} (hks : ∀ k ∈ ks, k.size ≤ 1000) {x y : Sx} (h : moveS ks x = some y) (hk : TkS x) : y.l.length ≤ x.l.length + 40 ∧ y.pos.length ≤ x.pos.length + 7 ∧ y.bs = x.bs ∧ y.bg = x.bg ∧ depX y = depX x ∧ TkS y := by
  unfold moveS at h
  cases h1 : shutK (leadS x.pos ks) x with
  | none => rw [h1] at h; cases h
  | some z =>
    rw [h1] at h
    obtain ⟨a1, a2, a3, a4, a5⟩ := shutK_lens _ h1
    have a6 := shutS_pos _ _ h1
    have hks' : ∀ k ∈ ks.drop (leadS x.pos ks), k.size ≤ 1000 := fun k hk => hks k (List.mem_of_mem_drop hk)
    have h2 : openAll (ks.drop (leadS x.pos ks)) z = some y := h
    obtain ⟨b1, b2, b3, b4, b5⟩ := openAll_facts _ z y hks' h2
    have hz := a5 hk
    have hy := b5 hz
    have := hk.st7
    have := hz.st7
    have := hy.st7
    have hp : ∀ (rs : List ByteArray) (u v : Sx), (∀ k ∈ rs, k.size ≤ 1000) → openAll rs u = some v → v.pos.length + u.st.length ≤ u.pos.length + v.st.length := by
      intro rs
      induction rs with
      | nil => intro u v _ h; rw [openAll] at h; cases h; exact Nat.le_refl _
      | cons k r ih =>
        intro u v hr h
        rw [openAll] at h
        cases h3 : openS (k, false) u with
        | none => rw [h3] at h; cases h
        | some t =>
          rw [h3] at h
          have h4 := openS_st (hr k (List.mem_cons_self ..)) h3
          have h5 := ih t v (fun q hq => hr q (List.mem_cons_of_mem _ hq)) h
          omega
    have := hp _ z y hks' h2
    exact ⟨by omega, by omega, by rw [b2, a2], by rw [b3, a3], by rw [b4, a4], hy⟩
set_option maxHeartbeats 2000000 in
theorem enter_S (v : Value) (ks : List ByteArray) (row : Bool) (h : SecI base L p o ck S x a w) (hv : SRd w v ks) (hks : ∀ k ∈ ks, k.size ≤ 1000) (h0 : 0 < ks.length) (h9 : ks.length ≤ 1000) (hl : x.l.length ≤ 600000) (hpn : x.pos.length ≤ 700) :
    Calls Tryz.prog 252 #[rV L p, v, .bool row] w (Po (SI base L p o ck S secObj w) (SF base L p o ck S secObj w) a (enterS ks row x)) := by
  obtain ⟨g, W, hg, hW, hB, hlt, hi, hT⟩ := rbox (q := secObj) h
  have HU := Lib.hid hT
  have HB := Lib.hid hB
  have HC := Lib.hid (cutLast_any v ks (hv.tch hT (fun _ _ => sec_box _ _ _ (.inr rfl))) h0 h9)
  obtain ⟨R, hR⟩ : ∃ R, enterS ks row x = R := ⟨_, rfl⟩
  rw [hR]
  unfold enterS at hR
  have HR := Lib.hid hR
  have hls := lastK_sz hks h0
  have hkd : ∀ k ∈ ks.dropLast, k.size ≤ 1000 := fun k hk => hks k ((List.dropLast_sublist ks).subset hk)
  have HK := Lib.hid hkd
  have hd9 : ks.dropLast.length ≤ 1000 := by rw [List.length_dropLast]; omega
  have HI := Lib.hid hi
  have HD := Lib.hid hd9
  obtain ⟨s, hs⟩ : ∃ s, lastK ks = s := ⟨_, rfl⟩
  rw [hs] at HC HR hls
  obtain ⟨b0, b1, _⟩ := rb_cells hB
  unfold rV
  clear h hT hB hv hks h0 h9 hR hkd hd9 hs hi
  go_enter Tryz.func252, Tryz.ntmps252
  go_wp2_with fail
  refine HC.out.mono ?_
  rintro e w1 ⟨v1, rfl, hv1, hb1⟩
  have hM := move_S v1 ks.dropLast (HI.out.belowS hb1) hv1 HK.out HD.out (by omega) (by omega)
  unfold rV at hM
  have HM := Lib.hid hM
  have hB1 := HB.out.below hb1 HB.out.lt
  have HB1 := Lib.hid hB1
  have HU1 := Lib.hid (Tch.trans HU.out (Tch.of_below hb1))
  have HF := Lib.hid (fun y (hy : moveS ks.dropLast x = some y) => moveS_facts HK.out hy HI.out.tk)
  obtain ⟨b0, b1, hgl1⟩ := rb_cells hB1
  clear hM hB1 hb1 hv1 HC HU HB HK HD
  go_wp2_with fail
  refine HM.out.mono ?_
  rintro e w2 (⟨y, hr, rfl, h2⟩ | ⟨hr, k, rfl, hF⟩)
  case inr => exact ⟨rfl, po_up HU1.out (.inr ⟨by rw [← HR.out, hr]; rfl, k, rfl, hF⟩)⟩
  have hf := HF.out y hr
  rw [hr] at HR
  have hO := open_S (s, row) h2.1 (by omega) hls (by omega)
  rw [show openS (s, row) y = R from HR.out] at hO
  unfold rV at hO
  have HO := Lib.hid hO
  have HT2 := Lib.hid (HU1.out.trans h2.2)
  obtain ⟨b0, b1, hgl2⟩ := rb_cells (rb_tch HB1.out h2.2)
  clear hO h2 hr hf HF HM HR
  go_wp2_with fail
  refine HO.out.mono ?_
  rintro e w3 (⟨z, hr, rfl, h3⟩ | ⟨hr, k, rfl, hF⟩)
  case inr => exact ⟨rfl, po_up HT2.out (.inr ⟨hr, k, rfl, hF⟩)⟩
  have H3 := Lib.hid (And.intro hr h3)
  clear hr h3 HO
  go_wp2
  go_end0
  exact .inl ⟨z, H3.out.1, rfl, si_up HT2.out H3.out.2⟩

/-! Values. -/
theorem setTo_fa {v : Nat → Sx → Option (Nat × Sx)} (hv : Fa secM S v) : Fa secM S (setToS S v) := by
  intro a x a' x' h
  unfold setToS at h
  cases he : eatB S a 61 with
  | none => rw [he] at h; cases h
  | some a1 =>
    rw [he] at h
    obtain ⟨h1, h2⟩ := eatB_some he
    obtain ⟨k1, k2, k3, k4⟩ := hv _ _ _ _ (show v (blk S a1) x = some (a', x') from h)
    have := le_blk S a1
    exact ⟨by omega, k2, by omega, k4⟩
theorem fld_fa {v : Nat → Sx → Option (Nat × Sx)} (hv : Fa secM S v) : Fa secM S (fldS S v) := by
  intro a x a' x' h
  unfold fldS at h
  cases hk : keyP S a with
  | none => rw [hk] at h; cases h
  | some q =>
    obtain ⟨t, a1⟩ := q
    rw [hk] at h
    obtain ⟨h1, h2, h3⟩ := key_fa hk
    have h' : ((lastM secM a1 x (evT 8 t)).bind fun p => setToS S v (blk S p.1) p.2) = some (a', x') := h
    cases hl : lastM secM a1 x (evT 8 t) with
    | none => rw [hl] at h'; cases h'
    | some q2 =>
      obtain ⟨a2, x2⟩ := q2
      rw [hl] at h'
      obtain ⟨j1, j2, j3⟩ := last_fa hl
      obtain ⟨k1, k2, k3, k4⟩ := setTo_fa hv _ _ _ _ (show setToS S v (blk S a2) x2 = some (a', x') from h')
      have := le_blk S a2
      refine ⟨by omega, k2, by omega, ?_⟩
      rw [k4, j3]
      show _ + dK 8 = _
      rw [dK_8]
      omega
theorem val_fa : ∀ n, Fa secM S (valS S n)
  | 0 => fun _ _ _ _ h => by cases h
  | n + 1 => value_fa (val_fa n) (fld_fa (val_fa n))
/-- What a value's call does, with so much fuel. -/
def ValC (base L p o ck : Nat) (S : List UInt8) (n : Nat) : Prop := ∀ (x : Sx) (a : Nat) (w : World), S.length - a < n → OkL secM S a x → SecI base L p o ck S x a w →
  Calls Tryz.prog 262 #[rV L p] w (Pq (SI base L p o ck S secObj w) (SF base L p o ck S secObj w) (valS S n a x))
set_option maxHeartbeats 2000000 in
theorem setTo_S {n : Nat} (hval : ValC base L p o ck S n) (hn : S.length - a < n + 1) (hok : OkL secM S a x) (h : SecI base L p o ck S x a w) :
    Calls Tryz.prog 256 #[rV L p] w (Pq (SI base L p o ck S secObj w) (SF base L p o ck S secObj w) (setToS S (valS S n) a x)) := by
  obtain ⟨g, W, hg, hW, hB, hlt, hi, hT⟩ := rbox (q := secObj) h
  have HU := Lib.hid hT
  have HB := Lib.hid hB
  have HV := Lib.hid hval
  obtain ⟨R, hR⟩ : ∃ R, setToS S (valS S n) a x = R := ⟨_, rfl⟩
  rw [hR]
  unfold setToS at hR
  have HR := Lib.hid hR
  have HOk := Lib.hid hok
  have h160 := hi.s9
  have HC := Lib.hid (expect_I ((secT (q := secObj) (w0 := W) (by omega) sx_sec).rd x) 61 (si_refl hi))
  obtain ⟨b0, b1, _⟩ := rb_cells hB
  unfold rV
  clear h hT hB hi hR hok hval
  go_enter Tryz.func256, Tryz.ntmps256
  go_wp2_with fail
  refine HC.out.mono ?_
  rintro e w1 (⟨a1, hr, rfl, h1⟩ | ⟨hr, k, rfl, hF⟩)
  case inr => exact ⟨rfl, pq_up HU.out (.inr ⟨by rw [← HR.out, hr]; rfl, k, rfl, hF⟩)⟩
  obtain ⟨ha1, hal⟩ := eatB_some hr
  rw [hr] at HR
  have HR1 : Hid (valS S n (blk S a1) x = R) := Lib.hid HR.out
  have HBk := Lib.hid (blanks_I ((secT (q := secObj) (w0 := W) (by omega) sx_sec).rd x) h1)
  obtain ⟨b0, b1, hgl1⟩ := rb_cells (rb_tch HB.out h1.2)
  have HL := Lib.hid (le_blk S a1)
  clear h1 hr HR HC
  go_wp2_with fail
  refine HBk.out.mono ?_
  rintro e w2 ⟨rfl, h2⟩
  have hv := HV.out x (blk S a1) w2 (by have := HL.out; omega) (okL_mono (by have := HL.out; omega) HOk.out) h2.1
  rw [HR1.out] at hv
  unfold rV at hv
  have HVv := Lib.hid hv
  obtain ⟨b0, b1, hgl2⟩ := rb_cells (rb_tch HB.out h2.2)
  have HT2 := Lib.hid (HU.out.trans h2.2)
  clear hv h2 HBk HV
  go_wp2_with fail
  refine HVv.out.mono ?_
  rintro e w3 (⟨a3, x3, hr, rfl, h3⟩ | ⟨hr, k, rfl, hF⟩)
  case inr => exact ⟨rfl, pq_up HT2.out (.inr ⟨hr, k, rfl, hF⟩)⟩
  have H3 := Lib.hid (And.intro hr h3)
  clear hr h3 HVv
  go_wp2
  go_end0
  exact pq_up HT2.out (.inl ⟨a3, x3, H3.out.1, rfl, H3.out.2⟩)
set_option maxHeartbeats 4000000 in
theorem field_S {n : Nat} (hval : ValC base L p o ck S n) (hn : S.length - a < n + 1) (hok : OkL secM S a x) (h : SecI base L p o ck S x a w) :
    Calls Tryz.prog 264 #[rV L p] w (Pq (SI base L p o ck S secObj w) (SF base L p o ck S secObj w) (fldS S (valS S n) a x)) := by
  obtain ⟨g, W, hg, hW, hB, hlt, hi, hT⟩ := rbox (q := secObj) h
  have HU := Lib.hid (Tch.trans hT (Tch.of_below (below_drew (Below.refl W.heap.size W))))
  have hBd : Blk W.drew g 278 #[.pointer (some ⟨L, 0, none⟩), .pointer (some ⟨p, 0, none⟩)] := hB
  have HB := Lib.hid hBd
  have hid := hi.belowS (below_drew (Below.refl _ _))
  obtain ⟨R, hR⟩ : ∃ R, fldS S (valS S n) a x = R := ⟨_, rfl⟩
  rw [hR]
  unfold fldS at hR
  have HR := Lib.hid hR
  have HOk := Lib.hid hok
  have h160 := hi.s9
  have hK := key_any (p := p) hid.ln (by omega) hid.al hid.lim'
  unfold rV at hK
  have HK := Lib.hid hK
  have HI := Lib.hid hid
  have hnL : g ≠ L := by
    rintro rfl
    have h1 := hi.ln
    unfold LAt Blk at h1
    unfold Blk at hB
    rw [hB] at h1
    injection h1 with h1
    injection h1 with _ h1
    exact absurd h1 (by decide)
  have b0 : W.drew.cell? ⟨g, 0, none⟩ = some (.pointer (some ⟨L, 0, none⟩)) := hBd.cell 0
  have b1 : W.drew.cell? ⟨g, 1, none⟩ = some (.pointer (some ⟨p, 0, none⟩)) := hBd.cell 1
  have HV := Lib.hid hval
  unfold rV
  clear h hT hB hBd hi hid hR hok hK hval
  go_enter Tryz.func264, Tryz.ntmps264
  go_wp2
  refine region_gp [] (S := (fun W => W.cell? ⟨g, 0, none⟩ = some (.pointer (some ⟨L, 0, none⟩)) ∧ W.cell? ⟨g, 1, none⟩ = some (.pointer (some ⟨p, 0, none⟩)))) (fun c w' => Pq (SI base L p o ck S secObj w) (SF base L p o ck S secObj w) R (.panicked c) w') (by kernel_rfl) ⟨b0, b1⟩ (fun c a' w' hd hR => ⟨hd, hR⟩) (fun hH => ?_)
  refine g_take (i := 0) (v := .pointer (some ⟨g, 0, none⟩)) (by rfl) (by kernel_rfl) (by kernel_rfl) (by kernel_rfl) (by kernel_rfl) (fun _ _ _ h => pan_put h) (Or.inl ⟨by kernel_rfl, fun W hS => (by obtain ⟨q1, q2⟩ := hS; go_simp)⟩) hH ?_
  simp only [Act.put, List.setIfInBounds_toArray, List.set_cons_zero, List.set_cons_succ]
  refine g_take (i := 1) (v := .pointer (some ⟨L, 0, none⟩)) (by rfl) (by kernel_rfl) (by kernel_rfl) (by kernel_rfl) (by kernel_rfl) (fun _ _ _ h => pan_put h) (Or.inl ⟨by kernel_rfl, fun W hS => (by obtain ⟨q1, q2⟩ := hS; go_simp)⟩) hH ?_
  simp only [Act.put, List.setIfInBounds_toArray, List.set_cons_zero, List.set_cons_succ]
  refine g_take (i := 2) (v := .agg #[.pointer (some ⟨L, 0, none⟩), .pointer (some ⟨p, 0, none⟩)]) (by rfl) (by kernel_rfl) (by kernel_rfl) (by kernel_rfl) (by kernel_rfl) (fun _ _ _ h => pan_put h) (Or.inl ⟨by kernel_rfl, fun W hS => (by obtain ⟨q1, q2⟩ := hS; go_simp)⟩) hH ?_
  simp only [Act.put, List.setIfInBounds_toArray, List.set_cons_zero, List.set_cons_succ]
  refine g_one (i := 3) (by kernel_rfl) (by rfl) (fun K hK => ?_)
  go_simp
  refine HK.out.mono ?_
  rintro e w1 (⟨t, a1, hr, rfl, h1⟩ | ⟨hr, k, rfl, hk0, b, hF⟩)
  case inr => exact .inr ⟨_, rfl, pq_up HU.out (.inr ⟨by rw [← HR.out, hr]; rfl, k, rfl, hk0, x, b, HI.out.go hF.1 hF.2.1 hF.2.2, (HI.out.line_tch hF.2.2).wide fun r hr => .inl (.inr hr)⟩), rfl⟩
  obtain ⟨k1, k2, k3⟩ := key_fa hr
  rw [hr] at HR
  have HR1 : Hid (((lastM secM a1 x (evT 8 t)).bind fun p => setToS S (valS S n) (blk S p.1) p.2) = R) := Lib.hid HR.out
  have hi1 := HI.out.go h1.1 h1.2.1 h1.2.2
  have hT1 : Tch base secObj W.drew w1 := (HI.out.line_tch h1.2.2).wide fun r hr => .inl (.inr hr)
  have hB1 := h1.2.2.blk HB.out hnL
  have c0 : w1.cell? ⟨g, 0, none⟩ = some (.pointer (some ⟨L, 0, none⟩)) := hB1.cell 0
  have c1 : w1.cell? ⟨g, 1, none⟩ = some (.pointer (some ⟨p, 0, none⟩)) := hB1.cell 1
  have HB1 := Lib.hid hB1
  have HT1 := Lib.hid (HU.out.trans hT1)
  have hlx : x.l.length ≤ 900000 := by have := HOk.out; unfold OkL at this; exact Nat.le_trans (Nat.le_add_right _ _) this
  have HL := Lib.hid (last_T (secT (q := secObj) (w0 := w1) (by omega) sx_sec) (evT 8 t) (si_refl hi1) hlx k3 k2)
  clear hi1 hT1 hB1 h1 hr HR HK hH b0 b1
  refine hK.out _ _ (fun _ => ⟨c0, c1⟩) (fun _ => ?_)
  clear hK K
  refine g_one (i := 4) (by kernel_rfl) (by rfl) (fun K hK => ?_)
  go_simp
  refine hK.out _ _ (fun _ => ⟨c0, c1⟩) (fun _ => ?_)
  clear hK K
  refine g_one (i := 5) (by kernel_rfl) (by rfl) (fun K hK => ?_)
  go_simp
  refine HL.out.mono ?_
  rintro e w2 (⟨a2, x2, hr, rfl, h2⟩ | ⟨hr, k, rfl, hF⟩)
  case inr => exact .inr ⟨_, rfl, pq_up HT1.out (.inr ⟨by rw [← HR1.out, hr]; rfl, k, rfl, hF⟩), rfl⟩
  obtain ⟨j1, j2, _⟩ := last_fa hr
  rw [hr] at HR1
  have HR2 : Hid (setToS S (valS S n) (blk S a2) x2 = R) := Lib.hid HR1.out
  have hB2 := rb_tch HB1.out h2.2
  have HB2 := Lib.hid hB2
  have HT2 := Lib.hid (HT1.out.trans h2.2)
  have e0 : w2.cell? ⟨g, 0, none⟩ = some (.pointer (some ⟨L, 0, none⟩)) := hB2.cell 0
  have e1 : w2.cell? ⟨g, 1, none⟩ = some (.pointer (some ⟨p, 0, none⟩)) := hB2.cell 1
  have hgl2 := hB2.lt
  have HBk := Lib.hid (blanks_I ((secT (q := secObj) (w0 := w2) (by omega) sx_sec).rd x2) (si_refl h2.1))
  have hok2 : OkL secM S a2 x2 := by have := HOk.out; unfold OkL at *; have e1 : secM.len x2 = secM.len x + 1 := j2; omega
  have HOk2 := Lib.hid hok2
  clear hr h2 hB2 HL HR1 j2 hok2 HB1
  refine hK.out _ _ (fun _ => ⟨e0, e1⟩) (fun _ => ?_)
  clear hK K c0 c1
  refine g_done (by kernel_rfl) (.inl ⟨by first | rfl | trivial, ?_⟩) _
  go_wp2_with fail
  refine HBk.out.mono ?_
  rintro e w3 ⟨rfl, h3⟩
  have hle := le_blk S a2
  have hs := setTo_S HV.out (show S.length - blk S a2 < n + 1 by omega) (okL_mono hle HOk2.out) h3.1
  rw [HR2.out] at hs
  unfold rV at hs
  have HS := Lib.hid hs
  have HT3 := Lib.hid (HT2.out.trans h3.2)
  obtain ⟨d0, d1, hgl3⟩ := rb_cells (rb_tch HB2.out h3.2)
  clear hs h3 HBk HR2 e0 e1
  go_wp2_with fail
  refine HS.out.mono ?_
  rintro e w4 (⟨a4, x4, hr, rfl, h4⟩ | ⟨hr, k, rfl, hF⟩)
  case inr => exact ⟨rfl, pq_up HT3.out (.inr ⟨hr, k, rfl, hF⟩)⟩
  have H4 := Lib.hid (And.intro hr h4)
  clear hr h4 HS
  go_wp2
  go_end0
  exact pq_up HT3.out (.inl ⟨a4, x4, H4.out.1, rfl, H4.out.2⟩)
set_option maxHeartbeats 2000000 in
theorem value_S : ∀ n, ValC base L p o ck S n
  | 0 => fun x a w h _ _ => absurd h (by omega)
  | n + 1 => by
    intro x a w hn hok h
    have ih := value_S n
    obtain ⟨g, W, hg, hW, hB, hlt, hi, hT⟩ := rbox (q := secObj) h
    have HU := Lib.hid hT
    have h160 := hi.s9
    have hmf : ∀ (fn : Fn) (first cap : Array Value) (w : World), (Instr.makeFunc fn first cap).run Tryz.prog w = .ok (.func fn first cap) w := fun _ _ _ _ => rfl
    have hv : Clo base S secM (SI base L p o ck S secObj W) (SF base L p o ck S secObj W) a 262 #[rV L p] #[] (valS S n) :=
      ⟨fun args w => enters_of Tryz.func262 (by kernel_rfl) rfl args w, fun a1 x1 w1 h1 ho1 hi1 => by
        have hC := ih x1 a1 w1 (by have := hi1.1.al; omega) ho1 hi1.1
        exact hC.mono fun e w' hp => pq_up hi1.2 hp, val_fa n⟩
    have hf : Clo base S secM (SI base L p o ck S secObj W) (SF base L p o ck S secObj W) a 264 #[rV L p] #[] (fldS S (valS S n)) :=
      ⟨fun args w => enters_of Tryz.func264 (by kernel_rfl) rfl args w, fun a1 x1 w1 h1 ho1 hi1 => by
        have hC := field_S ih (show S.length - a1 < n + 1 by omega) ho1 hi1.1
        exact hC.mono fun e w' hp => pq_up hi1.2 hp, fld_fa (val_fa n)⟩
    have hC := value_T (secT (q := secObj) (w0 := W) (by omega) sx_sec) hv hf (si_refl hi) hok
    rw [show valueG secM S (valS S n) (fldS S (valS S n)) a x = valS S (n + 1) a x from rfl] at hC
    generalize valS S (n + 1) a x = R at *
    unfold rV at hC
    have HC := Lib.hid hC
    obtain ⟨b0, b1, _⟩ := rb_cells hB
    unfold rV
    clear h hT hB hi hv hf hC hok ih hn
    go_enter Tryz.func262, Tryz.ntmps262
    go_wp2_with fail
    refine HC.out.mono ?_
    rintro e w3 (⟨a3, x3, hr, rfl, h3⟩ | ⟨hr, k, rfl, hF⟩)
    case inr => exact ⟨rfl, pq_up HU.out (.inr ⟨hr, k, rfl, hF⟩)⟩
    have H3 := Lib.hid (And.intro hr h3)
    clear hr h3 HC
    go_wp2
    go_end0
    exact pq_up HU.out (.inl ⟨a3, x3, H3.out.1, rfl, H3.out.2⟩)
end
end Go.Proofs.YtalkjgijmceifaaGreatDoor
namespace Go.Proofs.YtalkjgijmceifaaGreatDoor
open Go Go.RowKit
set_option linter.unusedSectionVars false
variable [Fo]

section
variable {P : Program} {ops : Array Oper} {Q : Exit → Act → World → Prop} {md : Region.Mode} {S : World → Prop} {Es : List Nat}
/-- E waits for i, by way of others. -/
def waitsT (md : Region.Mode) (ops : Array Oper) (i : Nat) : Nat → Nat → Bool
  | 0, _ => false
  | n + 1, E => match ops[E]? with | some o => o.after.any fun e => Region.binds md e && (decide (e.on = i) || waitsT md ops i n e.on) | none => false
/-- What is listed waits for what is listed alone. -/
def Closed (md : Region.Mode) (ops : Array Oper) (listed : Array Bool) : Prop := ∀ (k : Nat) (o : Oper), ops[k]? = some o → listed.getD k false = true → ∀ e ∈ o.after, Region.binds md e = true → listed.getD e.on false = true
def closedB (md : Region.Mode) (ops : Array Oper) (listed : Array Bool) : Bool := (List.range ops.size).all fun k => !listed.getD k false || (match ops[k]? with | some o => o.after.all fun e => !Region.binds md e || listed.getD e.on false | none => true)
theorem closed_of {listed : Array Bool} (h : closedB md ops listed = true) : Closed md ops listed := by
  intro k o ho hl e he hb
  have hk : k < ops.size := (Array.getElem?_eq_some_iff.1 ho).1
  have h1 := List.all_eq_true.1 h k (List.mem_range.2 hk)
  rw [hl, ho] at h1
  simp only [Bool.not_true, Bool.false_or] at h1
  have h2 := Array.all_eq_true'.1 h1 e he
  rw [hb] at h2
  simpa using h2
theorem waits_listed {i : Nat} {listed : Array Bool} (hc : Closed md ops listed) : ∀ (n E : Nat) (o : Oper), ops[E]? = some o → (∀ e ∈ o.after, Region.binds md e = true → listed.getD e.on false = true) → waitsT md ops i n E = true → listed.getD i false = true
  | 0, _, _, _, _, h => by cases h
  | n + 1, E, o, ho, hall, h => by
    unfold waitsT at h
    rw [ho] at h
    simp only [Array.any_eq_true, Bool.and_eq_true, Bool.or_eq_true, decide_eq_true_iff] at h
    obtain ⟨q, hq, hb, h⟩ := h
    have hl := hall _ (Array.getElem_mem hq) hb
    rcases h with h | h
    · rw [← h]; exact hl
    · cases ho2 : ops[o.after[q].on]? with
      | none =>
        cases n with
        | zero => cases h
        | succ n => unfold waitsT at h; rw [ho2] at h; cases h
      | some o2 => exact waits_listed hc n _ o2 ho2 (hc _ _ ho2 hl) h
theorem unlisted {listed : Array Bool} {i : Nat} (h : listed.getD i true = false) : ¬ listed.getD i false = true := by
  intro h2
  rcases Nat.lt_or_ge i listed.size with h' | h'
  · simp [h'] at h h2; rw [h] at h2; cases h2
  · simp [Array.getElem?_eq_none h'] at h
theorem closed_set {listed : Array Bool} {j : Nat} (hc : Closed md ops listed) (hj : j ∈ Region.ready md ops listed) : Closed md ops (listed.setIfInBounds j true) := by
  intro k o ho hl e he hb
  by_cases hjk : j = k
  · subst hjk
    obtain ⟨_, o', ho', hall⟩ := mem_ready.1 hj
    rw [ho] at ho'
    injection ho' with ho'
    subst ho'
    exact getD_set_true (hall e he hb)
  · rw [getD_set_ne false hjk] at hl
    exact getD_set_true (hc k o ho hl e he hb)
theorem g_firstT {i : Nat} {oi : Oper} {v : Value} (nW : Nat) (hi : ops[i]? = some oi) (hsel : ∀ (j : Nat) (o : Oper) cs b, ops[j]? = some o → o.op ≠ .select cs b) (hE : (Es.all fun E => waitsT md ops i nW E) = true)
    (hQ : ∀ c a w, Q (.panic c) (a.put oi.dst v) w → Q (.panic c) a w) :
    ∀ (fuel : Nat) (listed : Array Bool) (a : Act) (w : World),
      (∀ j oj, ops[j]? = some oj → j ≠ i → listed.getD j true = false → (∀ e ∈ oj.after, Region.binds md e = true → e.on ≠ i) → oi.apart ops oj = true) →
      i ∈ Region.ready md ops listed → Closed md ops listed → YieldsIf P ops S oi v a → S w →
      wpAnyG P md ops Q Es S fuel (listed.setIfInBounds i true) (a.put oi.dst v) w → wpAnyG P md ops Q Es S (fuel + 1) listed a w := by
  intro fuel
  induction fuel with
  | zero =>
    intro listed a w _ hr _ hy hS H
    refine ⟨fun h => (by rw [h] at hr; cases hr), fun j hj => ?_⟩
    by_cases hji : j = i
    · subst hji; exact hy.wpOp hi hS ⟨fun _ => hS, H⟩
    · have := ready_mono hj hji
      rw [H.1] at this
      cases this
  | succ fuel ih =>
    intro listed a w hfree hr hcl hy hS H
    refine ⟨fun h => (by rw [h] at hr; cases hr), fun j hj => ?_⟩
    by_cases hji : j = i
    · subst hji; exact hy.wpOp hi hS ⟨fun _ => hS, H⟩
    · have h1 := H.2 j (ready_mono hj hji)
      obtain ⟨hjun, oj, hoj, hall⟩ := mem_ready.1 hj
      have hiun := unlisted (mem_ready.1 hr).1
      have hnot : ∀ e ∈ oj.after, Region.binds md e = true → e.on ≠ i := fun e he hb heq => hiun (heq ▸ hall e he hb)
      have hjE : j ∉ Es := by
        intro hm
        exact hiun (waits_listed hcl nW j oj hoj hall (List.all_eq_true.1 hE j hm))
      have h2 := wpOp_putIf hoj (hfree j oj hoj hji hjun hnot) (fun cs b => hsel i oi cs b hi) (fun cs b => hsel j oj cs b hoj) hQ hy h1
      have hfree' : ∀ k ok, ops[k]? = some ok → k ≠ i → (listed.setIfInBounds j true).getD k true = false →
          (∀ e ∈ ok.after, Region.binds md e = true → e.on ≠ i) → oi.apart ops ok = true := fun k ok hk hki hun hno => by
        refine hfree k ok hk hki ?_ hno
        by_cases hjk : j = k
        · subst hjk; exact hjun
        · rw [getD_set_ne true hjk] at hun; exact hun
      refine wpOp_mono (fun a' w' h3 => ⟨fun _ => h3.2.1 hjE, ih (listed.setIfInBounds j true) a' w' hfree' (ready_mono hr (Ne.symm hji)) (closed_set hcl hj) h3.1 (h3.2.1 hjE) ?_⟩) h2
      rw [Array.setIfInBounds_comm _ _ hji]
      exact h3.2.2
theorem g_takeT {i : Nat} {oi : Oper} {v : Value} {fuel : Nat} {listed : Array Bool} {a : Act} {w : World} (nW : Nat) (hi : ops[i]? = some oi)
    (hs : Region.noSelect ops = true) (hE : (Es.all fun E => waitsT md ops i nW E) = true) (hf : Region.free md ops listed i = true) (hr : (Region.ready md ops listed).contains i = true) (hc : closedB md ops listed = true)
    (hQ : ∀ c a w, Q (.panic c) (a.put oi.dst v) w → Q (.panic c) a w) (hy : YieldsIf P ops S oi v a) (hS : S w)
    (h : wpAnyG P md ops Q Es S fuel (listed.setIfInBounds i true) (a.put oi.dst v) w) : wpAnyG P md ops Q Es S (fuel + 1) listed a w :=
  g_firstT nW hi (Region.noSelect_spec hs) hE hQ fuel listed a w (Region.free_spec hi hf) (by simpa using hr) (closed_of hc) hy hS h
end
end Go.Proofs.YtalkjgijmceifaaGreatDoor

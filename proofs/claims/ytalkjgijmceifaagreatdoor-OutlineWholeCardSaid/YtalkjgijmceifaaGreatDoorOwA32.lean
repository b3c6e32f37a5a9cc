/-
  outline: reference.
  outline: value.
-/
import Derived.Test.YtalkjgijmceifaaGreatDoorOwA31
namespace Go.Proofs.YtalkjgijmceifaaGreatDoor
open Go.RowKit Go.Maps
set_option maxRecDepth 100000
set_option linter.unusedSimpArgs false
set_option linter.unusedVariables false
set_option linter.unusedSectionVars false
set_option linter.unusedSectionVars false
variable [Tab] [Fo]

theorem lookA_in {n : List UInt8} : ∀ {m : List AEnt} {l : List Ev}, lookA n m = some l → ∃ r ∈ m, r.2 = l
  | [], _, h => by cases h
  | r :: m, l, h => by
    rw [lookA] at h
    split at h
    · exact ⟨r, List.mem_cons_self .., Option.some.inj h⟩
    · obtain ⟨r', h1, h2⟩ := lookA_in h
      exact ⟨r', List.mem_cons_of_mem _ h1, h2⟩
theorem get_facts {s : Am} (hI : AInv s) {n : List UInt8} (h : getE s n = 0) : dSum (getL s n) = 0 ∧ (∀ e ∈ getL s n, e.t.size ≤ 1000) ∧ (getL s n).length ≤ 40 := by
  have h40 := (getM_told h).2
  have hl : ∃ l, getL s n = l ∧ (∃ r ∈ s.m, r.2 = l) ∧ knownB l = true := by
    unfold getL
    rw [if_pos h]
    unfold getE at h
    split at h
    · cases h
    · rename_i l hl
      split at h
      · cases h
      · rename_i hk
        rw [hl]
        exact ⟨l, rfl, lookA_in hl, by simpa using hk⟩
  obtain ⟨l, e, ⟨r, hr, hrl⟩, hk⟩ := hl
  rw [e] at h40 ⊢
  have hok := (hI.ok r hr).1
  rw [hrl] at hok
  have h1 := rn_deep hok
  have h2 := done_deep (show doneB (runS [topP] l) = true from hk)
  rw [h2] at h1
  refine ⟨by simp at h1; omega, fun x hx => ?_, by omega⟩
  have h3 := entSz_le hr
  have h4 := hI.sz
  have h5 := evSz_le (l := r.2) (x := x) (by rw [hrl]; exact hx)
  unfold entSz at h3
  unfold evSz at h5
  omega
section
variable {base L p o ck an g : Nat} {S : List UInt8} {x : Ox} {a : Nat} {w w' w0 w1 W : World} {q : Obj → Prop}
theorem erow_keep {b : Nat} {v : Value} {l : List Ev} (h : ERow w1 b v l) (hk : ∀ k r, b ≤ k → w1.heap[k]? = some r → w'.heap[k]? = some r) : ERead w' v l := by
  have hr : ERow w' b v l := by
    refine ⟨h.1, ?_⟩
    rcases h.2 with hn | ⟨g, cap, cur, hv, hg, hh, r⟩
    · exact .inl hn
    · exact .inr ⟨g, cap, cur, hv, hg, hk g _ hg hh, r⟩
  exact hr.read
set_option maxHeartbeats 8000000 in
theorem ref_O [fo : Fo] (hal : a < S.length) (hok : lenO x ≤ 900000) (h : OlI base L p o ck an g S x a w) :
    Calls Tryz.prog 207 #[rV L p] w (Pq (OI base L p o ck an g S olObj w) (OF base L p o ck an g S olObj w) (refO S a x)) := by
  obtain ⟨b, W, hg, hW, hB, hlt, hi, hT⟩ := rboxO (q := olObj) h
  have HU := Lib.hid hT
  obtain ⟨R, hR⟩ : ∃ R, refO S a x = R := ⟨_, rfl⟩
  rw [hR]
  unfold refO at hR
  have h160 := hi.s9
  have l1 : W.cell? ⟨L, 1, none⟩ = some (.int .i64 (a : Int)) := Blk.cell hi.ln 1
  have f1 := Blk.frozen hi.ln 1
  have hLl := Blk.lt hi.ln
  obtain ⟨a3, ha3⟩ : ∃ a3 : Nat, (a : Int) + 1 = a3 := ⟨a + 1, rfl⟩
  have hn3 : a + 1 = a3 := by omega
  have hb3 : a3 ≤ 1000 := by omega
  have hi3 := next_I ((oT (p := p) (ck := ck) (an := an) (q := olObj) (w0 := W) (by omega) ox_ol).rd x) (oi_refl hi) hal
  rw [hn3] at hi3 hR
  have HR := Lib.hid hR
  have b0 : W.cell? ⟨b, 0, none⟩ = some (.pointer (some ⟨L, 0, none⟩)) := hB.cell 0
  have hB3 := ob_tch hB hi3.2
  obtain ⟨W3, hW3⟩ : ∃ W3, W.setCell ⟨L, 1, none⟩ (.int .i64 (a3 : Int)) = W3 := ⟨_, rfl⟩
  have HW3 := Lib.hid hW3
  rw [hW3] at hi3 hB3
  have hd := below_drew (Below.refl W3.heap.size W3)
  have HI3 := Lib.hid (hi3.1.belowO hd)
  have HU3 := Lib.hid (HU.out.trans (hi3.2.trans (Tch.of_below hd)))
  have hB3' : Blk W3.drew b 221 #[.pointer (some ⟨L, 0, none⟩), .pointer (some ⟨p, 0, none⟩)] := hB3
  have HB3 := Lib.hid hB3'
  have HNm := Lib.hid (name_I ((oT (p := p) (ck := ck) (an := an) (q := olObj) (w0 := W3.drew) (by omega) ox_ol).rd x) (oi_refl HI3.out))
  have HOk := Lib.hid hok
  unfold rV
  clear h hT hB hi hi3 hB3 hB3' hR hok hd hW3 hn3
  go_enter Tryz.func207, Tryz.ntmps207
  go_wp2
  rw [HW3.out]
  have c0 : W3.drew.cell? ⟨b, 0, none⟩ = some (.pointer (some ⟨L, 0, none⟩)) := HB3.out.cell 0
  have c1 : W3.drew.cell? ⟨b, 1, none⟩ = some (.pointer (some ⟨p, 0, none⟩)) := HB3.out.cell 1
  have c2 : W3.drew.cell? ⟨p, 0, none⟩ = some (.pointer (some ⟨an, 0, none⟩)) := by obtain ⟨bv, hk, _⟩ := HI3.out.blk; exact hk.cell 0
  clear b0 l1 f1 hLl hlt
  refine region_gp [] (S := (fun W => W.cell? ⟨b, 0, none⟩ = some (.pointer (some ⟨L, 0, none⟩)) ∧ W.cell? ⟨b, 1, none⟩ = some (.pointer (some ⟨p, 0, none⟩)) ∧ W.cell? ⟨p, 0, none⟩ = some (.pointer (some ⟨an, 0, none⟩)))) (fun c w' => Pq (OI base L p o ck an g S olObj w) (OF base L p o ck an g S olObj w) R (.panicked c) w') (by kernel_rfl) ⟨c0, c1, c2⟩ (fun c a' w' hd hR => ⟨hd, hR⟩) (fun hH => ?_)
  refine g_take (i := 0) (v := .pointer (some ⟨b, 1, none⟩)) (by rfl) (by kernel_rfl) (by kernel_rfl) (by kernel_rfl) (by kernel_rfl) (fun _ _ _ h => pan_put h) (Or.inl ⟨by kernel_rfl, fun W hS => (by obtain ⟨q1, q2, q3⟩ := hS; go_simp)⟩) hH ?_
  simp only [Act.put, List.setIfInBounds_toArray, List.set_cons_zero, List.set_cons_succ]
  refine g_take (i := 1) (v := .pointer (some ⟨p, 0, none⟩)) (by rfl) (by kernel_rfl) (by kernel_rfl) (by kernel_rfl) (by kernel_rfl) (fun _ _ _ h => pan_put h) (Or.inl ⟨by kernel_rfl, fun W hS => (by obtain ⟨q1, q2, q3⟩ := hS; go_simp)⟩) hH ?_
  simp only [Act.put, List.setIfInBounds_toArray, List.set_cons_zero, List.set_cons_succ]
  refine g_take (i := 2) (v := .pointer (some ⟨p, 0, none⟩)) (by rfl) (by kernel_rfl) (by kernel_rfl) (by kernel_rfl) (by kernel_rfl) (fun _ _ _ h => pan_put h) (Or.inl ⟨by kernel_rfl, fun W hS => (by obtain ⟨q1, q2, q3⟩ := hS; go_simp)⟩) hH ?_
  simp only [Act.put, List.setIfInBounds_toArray, List.set_cons_zero, List.set_cons_succ]
  refine g_take (i := 3) (v := .pointer (some ⟨p, 0, none⟩)) (by rfl) (by kernel_rfl) (by kernel_rfl) (by kernel_rfl) (by kernel_rfl) (fun _ _ _ h => pan_put h) (Or.inl ⟨by kernel_rfl, fun W hS => (by obtain ⟨q1, q2, q3⟩ := hS; go_simp)⟩) hH ?_
  simp only [Act.put, List.setIfInBounds_toArray, List.set_cons_zero, List.set_cons_succ]
  refine g_take (i := 4) (v := .pointer (some ⟨an, 0, none⟩)) (by rfl) (by kernel_rfl) (by kernel_rfl) (by kernel_rfl) (by kernel_rfl) (fun _ _ _ h => pan_put h) (Or.inl ⟨by kernel_rfl, fun W hS => (by obtain ⟨q1, q2, q3⟩ := hS; go_simp)⟩) hH ?_
  simp only [Act.put, List.setIfInBounds_toArray, List.set_cons_zero, List.set_cons_succ]
  refine g_take (i := 5) (v := .pointer (some ⟨b, 0, none⟩)) (by rfl) (by kernel_rfl) (by kernel_rfl) (by kernel_rfl) (by kernel_rfl) (fun _ _ _ h => pan_put h) (Or.inl ⟨by kernel_rfl, fun W hS => (by obtain ⟨q1, q2, q3⟩ := hS; go_simp)⟩) hH ?_
  simp only [Act.put, List.setIfInBounds_toArray, List.set_cons_zero, List.set_cons_succ]
  refine g_take (i := 6) (v := .pointer (some ⟨L, 0, none⟩)) (by rfl) (by kernel_rfl) (by kernel_rfl) (by kernel_rfl) (by kernel_rfl) (fun _ _ _ h => pan_put h) (Or.inl ⟨by kernel_rfl, fun W hS => (by obtain ⟨q1, q2, q3⟩ := hS; go_simp)⟩) hH ?_
  simp only [Act.put, List.setIfInBounds_toArray, List.set_cons_zero, List.set_cons_succ]
  refine g_one (i := 7) (by kernel_rfl) (by rfl) (fun K hK => ?_)
  go_simp
  refine HNm.out.mono ?_
  rintro e w1 (⟨t, a2, hr, rfl, h1⟩ | ⟨hr, k, rfl, hF⟩)
  case inr => exact .inr ⟨_, rfl, poq_up HU3.out (.inr ⟨by rw [← HR.out, hr]; rfl, k, rfl, hF⟩), rfl⟩
  obtain ⟨k1, k2, k3⟩ := nam_fa hr
  rw [hr] at HR
  have HR1 : Hid ((if getE x.am t.data.toList = 0 ∧ dSum (getL x.am t.data.toList) = 0 then (tellsO (getL x.am t.data.toList) { x with am := getM x.am t.data.toList }).map fun y => (a2 + 1, y) else none) = R) := Lib.hid HR.out
  have hB1 := ob_tch HB3.out h1.2
  have HB1 := Lib.hid hB1
  have HT1 := Lib.hid (HU3.out.trans h1.2)
  have HG := Lib.hid (ol_get t h1.1 k3)
  have HI1 := Lib.hid h1.1
  have c0 : w1.cell? ⟨b, 0, none⟩ = some (.pointer (some ⟨L, 0, none⟩)) := hB1.cell 0
  have c1 : w1.cell? ⟨b, 1, none⟩ = some (.pointer (some ⟨p, 0, none⟩)) := hB1.cell 1
  have c2 : w1.cell? ⟨p, 0, none⟩ = some (.pointer (some ⟨an, 0, none⟩)) := by obtain ⟨bv, hk, _⟩ := h1.1.blk; exact hk.cell 0
  clear hr HR h1 hB1 hH HNm
  refine hK.out _ _ (fun _ => ⟨c0, c1, c2⟩) (fun _ => ?_)
  clear hK K
  refine g_one (i := 8) (by kernel_rfl) (by rfl) (fun K hK => ?_)
  go_simp
  refine HG.out.mono ?_
  rintro e w2 ⟨lv, hl2, rfl, hRow, hi2, ht2⟩
  have ht2' : Tch base olObj w1 w2 := ht2.wide fun r hr => tA_ol r (aK_tA r hr)
  have HT2 := Lib.hid (HT1.out.trans ht2')
  have hB2 := ob_tch HB1.out ht2'
  have hbb : b < w1.heap.size := HB1.out.lt
  have HB2 := Lib.hid hB2
  have HI2 := Lib.hid hi2
  have HRow := Lib.hid hRow
  have HT0 := Lib.hid ht2
  have d0 : w2.cell? ⟨b, 0, none⟩ = some (.pointer (some ⟨L, 0, none⟩)) := hB2.cell 0
  have d1 : w2.cell? ⟨b, 1, none⟩ = some (.pointer (some ⟨p, 0, none⟩)) := hB2.cell 1
  have d2 : w2.cell? ⟨p, 0, none⟩ = some (.pointer (some ⟨an, 0, none⟩)) := by obtain ⟨bv, hk, _⟩ := (hi2.unsince (Nat.le_refl _)).blk; exact hk.cell 0
  have hgl := hB2.lt
  obtain ⟨E, hE⟩ : ∃ E, getE x.am t.data.toList = E := ⟨_, rfl⟩
  rw [hE]
  have HE := Lib.hid hE
  clear hE hi2 ht2 ht2' hB2 hRow HG
  refine hK.out _ _ (fun _ => ⟨d0, d1, d2⟩) (fun hH => ?_)
  clear hK K c0 c1 c2
  refine g_one (i := 9) (by kernel_rfl) (by rfl) (fun K hK => ?_)
  go_simp
  refine hK.out _ _ (fun _ => ⟨d0, d1, d2⟩) (fun hH => ?_)
  clear hK K
  refine g_take (i := 10) (v := lv) (by rfl) (by kernel_rfl) (by kernel_rfl) (by kernel_rfl) (by kernel_rfl) (fun _ _ _ h => pan_put h) (Or.inl ⟨by kernel_rfl, fun W hS => (by obtain ⟨q1, q2, q3⟩ := hS; go_simp)⟩) (hH (by simp)) ?_
  simp only [Act.put, List.setIfInBounds_toArray, List.set_cons_zero, List.set_cons_succ]
  refine g_take (i := 11) (v := .int .i64 E) (by rfl) (by kernel_rfl) (by kernel_rfl) (by kernel_rfl) (by kernel_rfl) (fun _ _ _ h => pan_put h) (Or.inl ⟨by kernel_rfl, fun W hS => (by obtain ⟨q1, q2, q3⟩ := hS; go_simp)⟩) (hH (by simp)) ?_
  simp only [Act.put, List.setIfInBounds_toArray, List.set_cons_zero, List.set_cons_succ]
  refine g_one (i := 12) (by kernel_rfl) (by rfl) (fun K hK => ?_)
  go_simp
  refine hK.out _ _ (fun _ => ⟨d0, d1, d2⟩) (fun _ => ?_)
  clear hK K
  refine g_one (i := 13) (by kernel_rfl) (by rfl) (fun K hK => ?_)
  go_simp
  refine hK.out _ _ (fun _ => ⟨d0, d1, d2⟩) (fun _ => ?_)
  clear hK K
  refine g_done (by kernel_rfl) (.inl ⟨by first | rfl | trivial, ?_⟩) _
  go_wp2_with fail
  refine (must_any _ _ E).mono ?_
  rintro e w3 ⟨⟨hk, rfl⟩ | ⟨hk, rfl⟩, rfl⟩
  case inr =>
    exact ⟨rfl, .inr ⟨by rw [← HR1.out, if_neg (fun hc => hk (HE.out.symm.trans hc.1))], E, rfl, hk, (HI2.out.unsince (Nat.le_refl _)).loose, HT2.out⟩⟩
  have hgf := get_facts HI1.out.tk.an (HE.out.trans hk)
  have hR2 : ((tellsO (getL x.am t.data.toList) { x with am := getM x.am t.data.toList }).map fun y => (a2 + 1, y)) = R := by rw [← HR1.out, if_pos ⟨HE.out.trans hk, hgf.1⟩]
  have hlen : lenO { x with am := getM x.am t.data.toList } + (getL x.am t.data.toList).length = lenO x := by
    obtain ⟨m1, m2⟩ := getM_told (HE.out.trans hk)
    unfold lenO
    simp only [m1]
    omega
  subst hk
  obtain ⟨l, hl⟩ : ∃ l, getL x.am t.data.toList = l := ⟨_, rfl⟩
  obtain ⟨x2, hx2⟩ : ∃ x2, { x with am := getM x.am t.data.toList } = x2 := ⟨_, rfl⟩
  have hX2 := HI2.out
  have hRw := HRow.out
  rw [hx2] at hX2
  rw [hx2, hl] at hlen hR2
  rw [hl] at hgf hRw
  have HX2 := Lib.hid hX2
  have HRw := Lib.hid hRw
  have HGf := Lib.hid hgf
  have hl40 : l.length ≤ 40 := hgf.2.2
  have HLen := Lib.hid hlen
  obtain ⟨A, c, hlv, _, _, _⟩ := hRw.read
  subst hlv
  have START := Lib.hid (show ∃ (j : Nat) (y : Ox), j ≤ l.length ∧ (0 : Int) = j ∧ lenO y ≤ 900000 - l.length + j ∧ Hid (((tellsO (l.drop j) y).map fun y => (a2 + 1, y)) = R) ∧ Hid (@OlI _ (Fo.since fo w1 w3 hl2) base L p o ck an g S y a2 w3) ∧ Hid (@Tch (Fo.since fo w1 w3 hl2) base olObj w3 w3) from ⟨0, x2, Nat.zero_le _, rfl, by have := HLen.out; have := HOk.out; omega, Lib.hid (by rw [List.drop_zero]; exact hR2), HX2, Lib.hid (@Tch.refl (Fo.since fo w1 w3 hl2) _ _ _)⟩)
  clear HR1 HI2 HRow HE hgf hR2 hlen hX2 hRw hl hx2 HI1 HLen
  go_wp2
  go_loopw [32] (fun i wr => ∃ (j : Nat) (y : Ox), j ≤ l.length ∧ i = .int .i64 j ∧ lenO y ≤ 900000 - l.length + j ∧ Hid (((tellsO (l.drop j) y).map fun y => (a2 + 1, y)) = R) ∧ Hid (@OlI _ (Fo.since fo w1 w3 hl2) base L p o ck an g S y a2 wr) ∧ Hid (@Tch (Fo.since fo w1 w3 hl2) base olObj w3 wr)) (fun i _ => l.length - (intOf i).toNat)
  case atStart =>
    obtain ⟨j, y, h1, h2, h3, h4, h5, h6⟩ := START.out
    exact ⟨j, y, h1, by rw [← h2], h3, h4, h5, h6⟩
  case round =>
    obtain ⟨j, y, hj, rfl, hly, HR, HI, HT⟩ := hrel
    clear START
    have hTf : Tch base olObj w3 wr := tch_wk (f1 := Fo.since fo w1 w3 hl2) (f2 := fo) (fun k hk => .inl hk) HT.out
    have hBr := ob_tch HB2.out hTf
    have HBr := Lib.hid hBr
    obtain ⟨e0, e1, hgr⟩ := ob_cells hBr
    have hRd := erow_keep HRw.out (fun k r hk hr => @Tch.block (Fo.since fo w1 w3 hl2) _ _ _ _ HT.out k r hr (.inr (.inr (.inr ⟨hk, (Array.getElem?_eq_some_iff.1 hr).1⟩))))
    have HTf := Lib.hid hTf
    clear hTf hBr d0 d1 d2
    by_cases hlt : j < l.length
    · obtain ⟨A', c', hvv, _, _, hr⟩ := hRd
      obtain ⟨bb, oo, hA', hc⟩ := hr (by omega)
      injection hvv with v1 v2 v3
      obtain ⟨q1, q2, q3⟩ := hc j hlt
      subst v1
      subst hA'
      have hok1 := HGf.out.2.1 _ (List.getElem_mem hlt)
      have hd := HR.out
      rw [List.drop_eq_getElem_cons hlt, tellsO] at hd
      clear hc hr v2 v3
      generalize l[j] = ev at *
      have hbA : Below wr.heap.size wr (wr.alloc (.cells #[.int .i64 ev.k, .string ev.t, .string ev.v] 38)) := (Below.refl _ _).alloc (Nat.le_refl _) _
      have HTl := Lib.hid (@ol_tell _ (Fo.since fo w1 w3 hl2) base L p o ck an g S y a2 _ ev (@OlI.belowO _ (Fo.since fo w1 w3 hl2) _ _ _ _ _ _ _ _ _ _ _ _ HI.out hbA) (by unfold lenO at hly; omega) hok1)
      have HD := Lib.hid hd
      have HZ := Lib.hid (@Tch.size (Fo.since fo w1 w3 hl2) _ _ _ _ HT.out)
      have HBA := Lib.hid hbA
      clear hd hbA HR HI
      go_wp2_with fail
      refine HTl.out.mono ?_
      rintro e w5 ⟨hp, ht5⟩
      have hA1 : Tch base olObj w3 w5 := HTf.out.trans ((Tch.of_below HBA.out).trans ((tch_wk (f1 := Fo.since fo w1 w3 hl2) (f2 := fo) (fun k hk => .inl hk) ht5).wide tA_ol))
      have hA2 : @Tch (Fo.since fo w1 w3 hl2) base olObj w3 w5 := @Tch.trans (Fo.since fo w1 w3 hl2) _ _ _ _ _ HT.out (@Tch.trans (Fo.since fo w1 w3 hl2) _ _ _ _ _ (@Tch.of_below (Fo.since fo w1 w3 hl2) _ _ _ _ HBA.out) (@Tch.wide _ (Fo.since fo w1 w3 hl2) _ _ _ _ _ ht5 tA_ol))
      have HA1 := Lib.hid hA1
      have HA2 := Lib.hid hA2
      clear ht5 hA1 hA2
      rcases hp with ⟨y', hy', rfl, h5⟩ | ⟨hy', k, hk0, rfl, h5⟩
      case inr => exact ⟨rfl, .inr ⟨by rw [← HD.out, hy']; rfl, k, rfl, hk0, h5.unsince HA1.out.size, HT2.out.trans HA1.out⟩⟩
      have hly2 := (tellO_len hy').1
      have hD2 : ((tellsO (l.drop (j + 1)) y').map fun y => (a2 + 1, y)) = R := by rw [← HD.out, hy']; rfl
      have HD2 := Lib.hid hD2
      have H5 := Lib.hid h5
      have HLy := Lib.hid (show lenO y' ≤ 900000 - l.length + (j + 1) by omega)
      clear hy' h5 hly2 hD2 HD HTl HTf hly
      go_wp2
      go_roundw
      case rel => exact ⟨j + 1, y', hlt, by go_num, HLy.out, HD2, H5, HA2⟩
      case measure => first | (simp [intOf]; done) | (simp [intOf]; omega)
    · have hje : j = l.length := by omega
      subst hje
      have hd := HR.out
      rw [List.drop_of_length_le (Nat.le_refl _)] at hd
      have HD : Hid (some (a2 + 1, y) = R) := Lib.hid hd
      have hi5 := HI.out.unsince HTf.out.size
      have m1 : wr.cell? ⟨L, 1, none⟩ = some (.int .i64 (a2 : Int)) := Blk.cell hi5.ln 1
      have n1 := Blk.frozen hi5.ln 1
      have hLl5 := Blk.lt hi5.ln
      obtain ⟨a4, ha4⟩ : ∃ a4 : Nat, (a2 : Int) + 1 = a4 := ⟨a2 + 1, rfl⟩
      have hn4 : a2 + 1 = a4 := by omega
      have hb4 : a4 ≤ 1000 := by omega
      have hi6 := next_I ((oT (p := p) (ck := ck) (an := an) (q := olObj) (w0 := wr) (by omega) ox_ol).rd y) (oi_refl hi5) k2
      rw [hn4] at hi6 HD
      have HI6 := Lib.hid hi6
      have HT6 := Lib.hid (HT2.out.trans HTf.out)
      clear hd hi5 hi6 HR HI hn4 hRd hly
      go_wp2
      go_end0
      exact poq_up HT6.out (.inl ⟨a4, y, HD.out.symm, rfl, HI6.out⟩)
end
end Go.Proofs.YtalkjgijmceifaaGreatDoor
namespace Go.Proofs.YtalkjgijmceifaaGreatDoor
open Go.RowKit Go.Maps
set_option maxRecDepth 100000
set_option linter.unusedSimpArgs false
set_option linter.unusedVariables false
set_option linter.unusedSectionVars false
set_option linter.unusedSectionVars false
variable [Tab] [Fo]

section
variable {base L p o ck an g : Nat} {S : List UInt8} {x : Ox} {a : Nat} {w w' w0 w1 W : World} {q : Obj → Prop}
set_option maxHeartbeats 4000000 in
theorem value_O : ∀ n, ValO base L p o ck an g S n
  | 0 => fun x a w h _ _ => absurd h (by omega)
  | n + 1 => by
    intro x a w hn hok h
    have ih := value_O n
    obtain ⟨b, W, hg, hW, hB, hlt, hi, hT⟩ := rboxO (q := olObj) h
    have HU := Lib.hid hT
    have h160 := hi.s9
    have hmf : ∀ (fn : Fn) (first cap : Array Value) (w : World), (Instr.makeFunc fn first cap).run Tryz.prog w = .ok (.func fn first cap) w := fun _ _ _ _ => rfl
    obtain ⟨R, hR⟩ : ∃ R, valO S (n + 1) a x = R := ⟨_, rfl⟩
    rw [hR]
    have hR' : valueO S (valO S n) a x = R := hR
    unfold valueO at hR'
    have HR := Lib.hid hR'
    have HOk := Lib.hid hok
    have HIH := Lib.hid ih
    have HB := Lib.hid hB
    have HN := Lib.hid hn
    have HIs := Lib.hid (is_I ((oT (p := p) (ck := ck) (an := an) (q := olObj) (w0 := W) (by omega) ox_ol).rd x) 42 (oi_refl hi))
    obtain ⟨b0, b1, _⟩ := ob_cells hB
    unfold rV
    clear h hT hB hi hok ih hn hR hR'
    go_enter Tryz.func199, Tryz.ntmps199
    go_wp2_with fail
    refine HIs.out.mono ?_
    rintro e w1 ⟨rfl, h1⟩
    have HB1 := Lib.hid (ob_tch HB.out h1.2)
    have HT1 := Lib.hid (HU.out.trans h1.2)
    have HI1 := Lib.hid h1.1
    obtain ⟨b0, b1, hgl⟩ := ob_cells HB1.out
    clear h1 HIs HB hlt
    cases hc : isB S a 42 with
    | true =>
      rw [if_pos hc] at HR
      have hr := ref_O (p := p) (isB_true hc) (Nat.le_trans (Nat.le_add_right _ _) HOk.out) HI1.out
      rw [HR.out] at hr
      unfold rV at hr
      have HRf := Lib.hid hr
      clear hr hc HR HIH
      go_wp2_with fail
      refine HRf.out.mono ?_
      rintro e w2 (⟨a3, x3, hr, rfl, h3⟩ | ⟨hr, k, rfl, hF⟩)
      case inr => exact ⟨rfl, poq_up HT1.out (.inr ⟨hr, k, rfl, hF⟩)⟩
      have H3 := Lib.hid (And.intro hr h3)
      clear hr h3 HRf
      go_wp2
      go_end0
      exact poq_up HT1.out (.inl ⟨a3, x3, H3.out.1, rfl, H3.out.2⟩)
    | false =>
      rw [if_neg (by rw [hc]; decide)] at HR
      have HIs := Lib.hid (is_I ((oT (p := p) (ck := ck) (an := an) (q := olObj) (w0 := w1) (by omega) ox_ol).rd x) 110 (oi_refl HI1.out))
      clear hc
      go_wp2_with fail
      refine HIs.out.mono ?_
      rintro e w2 ⟨rfl, h2⟩
      have HB2 := Lib.hid (ob_tch HB1.out h2.2)
      have HT2 := Lib.hid (HT1.out.trans h2.2)
      have HI2 := Lib.hid h2.1
      obtain ⟨b0, b1, hgl2⟩ := ob_cells HB2.out
      clear h2 HIs HB1 HI1 HT1 hgl
      cases hc : isB S a 110 with
      | true =>
        rw [if_pos hc] at HR
        have hw : Calls Tryz.prog 208 #[.pointer (some ⟨L, 0, none⟩), .string ⟨#[110, 117, 108, 108]⟩] w2 (Pu (OI base L p o ck an g S olObj w2 x) (OF base L p o ck an g S olObj w2) (wordP S nullL a)) := word_I ((oT (p := p) (ck := ck) (an := an) (q := olObj) (w0 := w2) (by omega) ox_ol).rd x) nullL (by decide) (by decide) (oi_refl HI2.out)
        have HW := Lib.hid hw
        clear hw hc HIH
        go_wp2_with fail
        refine HW.out.mono ?_
        rintro e w3 (⟨a3, hr, rfl, h3⟩ | ⟨hr, k, rfl, hF⟩)
        case inr => exact ⟨rfl, poq_up HT2.out (.inr ⟨by rw [← HR.out, hr]; rfl, k, rfl, hF⟩)⟩
        have k1 := word_fa nullL _ _ hr
        rw [hr] at HR
        have HR1 : Hid (lastM olM a3 x (evB 1) = R) := Lib.hid HR.out
        have hL := last_T (oT (p := p) (ck := ck) (an := an) (q := olObj) (w0 := w3) (by omega) ox_ol) (evB 1) (oi_refl h3.1) (Nat.le_trans (Nat.le_add_right _ _) HOk.out) (Nat.zero_le _) k1.2
        rw [HR1.out] at hL
        have HL := Lib.hid hL
        have HT3 := Lib.hid (HT2.out.trans h3.2)
        obtain ⟨b0, b1, hgl3⟩ := ob_cells (ob_tch HB2.out h3.2)
        clear hL hr h3 HR HW
        go_wp2_with fail
        refine HL.out.mono ?_
        rintro e w4 (⟨a4, x4, hr, rfl, h4⟩ | ⟨hr, k, rfl, hF⟩)
        case inr => exact ⟨rfl, poq_up HT3.out (.inr ⟨hr, k, rfl, hF⟩)⟩
        have H4 := Lib.hid (And.intro hr h4)
        clear hr h4 HL
        go_wp2
        go_end0
        exact poq_up HT3.out (.inl ⟨a4, x4, H4.out.1, rfl, H4.out.2⟩)
      | false =>
        rw [if_neg (by rw [hc]; decide)] at HR
        have hv : Clo base S olM (OI base L p o ck an g S olObj w2) (OF base L p o ck an g S olObj w2) a 199 #[rV L p] #[] (valO S n) :=
          ⟨fun args w => enters_of Tryz.func199 (by kernel_rfl) rfl args w, fun a1 x1 w1 h1 ho1 hi1 => by
            have hC := HIH.out x1 a1 w1 (by have := hi1.1.al; have := HN.out; omega) ho1 hi1.1
            exact hC.mono fun e w' hp => poq_up hi1.2 hp, valO_fa n⟩
        have hf : Clo base S olM (OI base L p o ck an g S olObj w2) (OF base L p o ck an g S olObj w2) a 210 #[rV L p] #[] (fieldO S (valO S n)) :=
          ⟨fun args w => enters_of Tryz.func210 (by kernel_rfl) rfl args w, fun a1 x1 w1 h1 ho1 hi1 => by
            have hC := field_O HIH.out (show S.length - a1 < n + 1 by have := HN.out; omega) ho1 hi1.1
            exact hC.mono fun e w' hp => poq_up hi1.2 hp, field_fa (valO_fa n)⟩
        have hC := value_T (oT (p := p) (ck := ck) (an := an) (q := olObj) (w0 := w2) (by omega) ox_ol) hv hf (oi_refl HI2.out) HOk.out
        rw [HR.out] at hC
        unfold rV at hC
        have HC := Lib.hid hC
        clear hv hf hC hc HIH HR
        go_wp2_with fail
        refine HC.out.mono ?_
        rintro e w3 (⟨a3, x3, hr, rfl, h3⟩ | ⟨hr, k, rfl, hF⟩)
        case inr => exact ⟨rfl, poq_up HT2.out (.inr ⟨hr, k, rfl, hF⟩)⟩
        have H3 := Lib.hid (And.intro hr h3)
        clear hr h3 HC
        go_wp2
        go_end0
        exact poq_up HT2.out (.inl ⟨a3, x3, H3.out.1, rfl, H3.out.2⟩)
end
end Go.Proofs.YtalkjgijmceifaaGreatDoor

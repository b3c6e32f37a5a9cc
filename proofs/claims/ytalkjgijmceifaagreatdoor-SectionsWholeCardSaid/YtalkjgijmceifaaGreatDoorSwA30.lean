/-
  sections: open.
-/
import Derived.Test.YtalkjgijmceifaaGreatDoorSwA29
namespace Go.Proofs.YtalkjgijmceifaaGreatDoor
open Go.RowKit Go.Maps
set_option maxRecDepth 100000
set_option linter.unusedSimpArgs false
set_option linter.unusedVariables false
set_option linter.unusedSectionVars false
variable [Tab] [Fo]

theorem Tryz.infoSp : (Tryz.prog.info? 280).map (fun i => (i.zero, i.size, i.bytes)) = some (some (.agg #[.string ⟨#[]⟩, .bool false]), 2, 24) := by kernel_rfl
theorem sx_no (cs : Array Value) (t : TypeId) (fr : Nat × Nat) (h : t = 278 ∨ t = 280 ∨ t = 76 ∨ t = 9) : ¬ sxObj (.cells cs t fr) := by
  intro hc
  simp only [sxObj, tObj, lnO] at hc
  rcases h with rfl | rfl | rfl | rfl <;> exact absurd hc (by decide)
section
variable {base L p o ck : Nat} {S : List UInt8} {x : Sx} {a : Nat} {w w' : World}
theorem cells2 (w : World) (u v : Value) (t : TypeId) : ∀ j y, [u, v][j]? = some y → (w.alloc (.cells #[u, v] t)).cell? ((⟨w.heap.size, 0, none⟩ : Addr).add j) = some y := by
  intro j y hj
  have hB := Blk.new w t #[u, v]
  match j, hj with
  | 0, hj => cases hj; exact hB.cell 0
  | 1, hj => cases hj; exact hB.cell 1
/-- Where the position is appended to: what lies as it lay, and what holds. -/
structure OpIn (base L p o ck : Nat) (S : List UInt8) (g g2 : Nat) (s : ByteArray × Bool) (pv : Value) (x : Sx) (a : Nat) (w : World) : Prop where
  i : SecI base L p o ck S x a w
  kg : Blk w g 278 #[.pointer (some ⟨L, 0, none⟩), .pointer (some ⟨p, 0, none⟩)]
  ks : Blk w g2 280 #[.string s.1, .bool s.2]
  r : ∃ bv, Blk w p 76 #[.bool x.bg, pv, bv]
  row : w.ownsRow base 280 2 pv x.pos.length (posC x.pos)
  nf : NF pv
  lt : ∀ k, pv.ownBlock = some k → k ≠ g2
theorem OpIn.tell {g g2 : Nat} {s : ByteArray × Bool} {pv : Value} {w1 : World} {y : Sx} (h : OpIn base L p o ck S g g2 s pv x a w) (hi : SI base L p o ck S sxObj w y a w1) (hp : y.pos = x.pos) (hb : y.bg = x.bg) : OpIn base L p o ck S g g2 s pv y a w1 := by
  obtain ⟨bv, hr⟩ := h.r
  refine ⟨hi.1, h.kg.tch hi.2 (.inr (sx_no _ _ _ (.inl rfl))), h.ks.tch hi.2 (.inr (sx_no _ _ _ (.inr (.inl rfl)))), ⟨bv, ?_⟩, ?_, h.nf, h.lt⟩
  · rw [hb]; exact hr.tch hi.2 (.inr (sx_no _ _ _ (.inr (.inr (.inl rfl)))))
  · rw [hp]; exact row_tch h.row hi.2 (fun _ _ => sx_no _ _ _ (.inr (.inl rfl)))
theorem OpIn.drew {g g2 : Nat} {s : ByteArray × Bool} {pv : Value} (h : OpIn base L p o ck S g g2 s pv x a w) : OpIn base L p o ck S g g2 s pv x a w.drew :=
  ⟨h.i.belowS (below_drew (Below.refl _ _)), h.kg, h.ks, h.r, h.row, h.nf, h.lt⟩
theorem tellX_po {w0 w1 : World} {ev : Ev} {y : Sx} (ht : tellX x ev = some y) : y.pos = x.pos ∧ y.bg = x.bg ∧ y.l.length = x.l.length + 1 := by
  obtain ⟨k1, _, k3, k4, _⟩ := tell_len ht
  exact ⟨k4, k3, k1⟩
/-- The last part of open: the position's row is appended to. -/
def OpEnd (base L p o ck : Nat) (S : List UInt8) (s : ByteArray × Bool) (x : Sx) (a : Nat) (w w' : World) : Prop := SecI base L p o ck S { x with pos := x.pos ++ [s] } a w' ∧ Tch base secObj w w'
set_option maxHeartbeats 8000000 in
theorem open_S (s : ByteArray × Bool) (h : SecI base L p o ck S x a w) (hl : x.l.length ≤ 800000) (hs : s.1.size ≤ 1000) (hpn : x.pos.length ≤ 900) :
    Calls Tryz.prog 260 #[rV L p, .agg #[.string s.1, .bool s.2]] w (Po (SI base L p o ck S secObj w) (SF base L p o ck S secObj w) a (openS s x)) := by
  obtain ⟨g, W, hg, hW, hB, hlt, hi, hT⟩ := rbox (q := secObj) h
  obtain ⟨g2, W2, hg2, hW2, hB2, al2, hlt2⟩ := box_new W #[.string s.1, .bool s.2] 280
  have hi2 := hi.belowS al2
  obtain ⟨pv, bv, hP, hR, hnf, _⟩ := hi.blk
  have hIn : OpIn base L p o ck S g g2 s pv x a W2 := ⟨hi2, hB.below al2 hB.lt, hB2, ⟨bv, hP.below al2 hP.lt⟩, row_below hR al2, hnf, fun k hk => by have := (World.ownsRow.lt hR k hk).2; omega⟩
  have HU := Lib.hid (Tch.trans hT (Tch.of_below al2))
  have HIn := Lib.hid hIn
  have HPn := Lib.hid hpn
  have HSz := Lib.hid hs
  have HLx := Lib.hid hl
  have b0 : W2.cell? ⟨g, 0, none⟩ = some (.pointer (some ⟨L, 0, none⟩)) := hIn.kg.cell 0
  have b1 : W2.cell? ⟨g, 1, none⟩ = some (.pointer (some ⟨p, 0, none⟩)) := hIn.kg.cell 1
  have t0 : W2.cell? ⟨g2, 0, none⟩ = some (.string s.1) := hB2.cell 0
  have t1 : W2.cell? ⟨g2, 1, none⟩ = some (.bool s.2) := hB2.cell 1
  obtain ⟨R, hR⟩ : ∃ R, openS s x = R := ⟨_, rfl⟩
  rw [hR]
  unfold openS at hR
  have HR := Lib.hid hR
  have HTl := Lib.hid (tell_S (q := sxObj) (w0 := W2) (fun r hr => .inl hr) (evT 8 s.1) (si_refl hi2) (by omega) hs)
  unfold rV
  have hgl : g < W2.heap.size := hIn.kg.lt
  clear h hi hi2 hT hIn hB hB2 al2 hP hR hnf hlt hs hl
  go_enter Tryz.func260, Tryz.ntmps260
  go_wp2_with fail
  refine HTl.out.mono ?_
  rintro e w3 (⟨y, hr, rfl, h3⟩ | ⟨hr, k, rfl, hF⟩)
  case inr => exact ⟨rfl, po_up HU.out (.inr ⟨by rw [← HR.out, hr]; rfl, k, rfl, SFw hF⟩)⟩
  rw [hr] at HR
  have HR2 : Hid (((if s.2 = true then tellX y (evB 5) else some y).bind fun x2 => (tellX x2 (evB 7)).bind fun x3 => some { x3 with pos := x3.pos ++ [s] }) = R) := Lib.hid HR.out
  obtain ⟨k1, k2, k3⟩ := tellX_po (w0 := w) (w1 := w) hr
  have HIn3 := Lib.hid (HIn.out.tell h3 k1 k2)
  have HPn3 : Hid (y.pos.length ≤ 900) := Lib.hid (by rw [k1]; exact HPn.out)
  have HT3 := Lib.hid h3.2
  have hl3 : y.l.length ≤ 800001 := by have := HLx.out; omega
  have HL3 := Lib.hid hl3
  have b0 : w3.cell? ⟨g, 0, none⟩ = some (.pointer (some ⟨L, 0, none⟩)) := HIn3.out.kg.cell 0
  have t1 : w3.cell? ⟨g2, 1, none⟩ = some (.bool s.2) := HIn3.out.ks.cell 1
  have hgl3 : g < w3.heap.size := HIn3.out.kg.lt
  have hgl4 : g2 < w3.heap.size := HIn3.out.ks.lt
  clear hr HR h3 k1 k2 k3 HTl HIn HPn hl3
  cases hrow : s.2 with
  | true =>
    rw [hrow] at t1 HR2
    rw [if_pos rfl] at HR2
    clear hrow
    have HTl := Lib.hid (tell_S (q := sxObj) (w0 := w3) (fun r hr => .inl hr) (evB 5) (si_refl HIn3.out.i) (by have := HL3.out; omega) (Nat.zero_le _))
    go_wp2_with fail
    refine HTl.out.mono ?_
    rintro e w4 (⟨y2, hr, rfl, h4⟩ | ⟨hr, k, rfl, hF⟩)
    case inr => exact ⟨rfl, po_up HU.out (po_up (HT3.out.wide sx_sec) (.inr ⟨by rw [← HR2.out, hr]; rfl, k, rfl, SFw hF⟩))⟩
    rw [hr] at HR2
    have HR3 : Hid (((tellX y2 (evB 7)).bind fun x3 => some { x3 with pos := x3.pos ++ [s] }) = R) := Lib.hid HR2.out
    obtain ⟨k1, k2, k3⟩ := tellX_po (w0 := w) (w1 := w) hr
    have HIn4 := Lib.hid (HIn3.out.tell h4 k1 k2)
    have HPn4 : Hid (y2.pos.length ≤ 900) := Lib.hid (by rw [k1]; exact HPn3.out)
    have HT4 := Lib.hid (HT3.out.trans h4.2)
    have hl4 : y2.l.length ≤ 800002 := by have := HL3.out; omega
    have b0 : w4.cell? ⟨g, 0, none⟩ = some (.pointer (some ⟨L, 0, none⟩)) := HIn4.out.kg.cell 0
    have hgl4 : g < w4.heap.size := HIn4.out.kg.lt
    clear hr HR2 h4 k1 k2 k3 HTl HIn3 HPn3
    have HTl := Lib.hid (tell_S (q := sxObj) (w0 := w4) (fun r hr => .inl hr) (evB 7) (si_refl HIn4.out.i) (by omega) (Nat.zero_le _))
    go_wp2_with fail
    refine HTl.out.mono ?_
    rintro e w6 (⟨z, hr, rfl, h6⟩ | ⟨hr, k, rfl, hF⟩)
    case inr => exact ⟨rfl, po_up HU.out (po_up (HT4.out.wide sx_sec) (.inr ⟨by rw [← HR3.out, hr]; rfl, k, rfl, SFw hF⟩))⟩
    rw [hr] at HR3
    have HR6 : Hid (R = some { z with pos := z.pos ++ [s] }) := Lib.hid HR3.out.symm
    obtain ⟨k1, k2, k3⟩ := tellX_po (w0 := w) (w1 := w) hr
    have hIn6 := (HIn4.out.tell h6 k1 k2).drew
    have HPn6 : Hid (z.pos.length ≤ 900) := Lib.hid (by rw [k1]; exact HPn4.out)
    have HT6 := Lib.hid (Tch.trans (HT4.out.trans h6.2) (Tch.of_below (below_drew (Below.refl _ _))))
    clear hr HR3 h6 k1 k2 k3 HTl HIn4 HPn4 b0 t1
    obtain ⟨bv, hPB⟩ := hIn6.r
    obtain ⟨A, cap, hpv, hcap, _⟩ := row_look hIn6.row
    subst hpv
    obtain ⟨n, hn⟩ : ∃ n, z.pos.length = n := ⟨_, rfl⟩
    rw [hn] at hPB hcap hIn6
    have c1 : w6.drew.cell? ⟨g, 1, none⟩ = some (.pointer (some ⟨p, 0, none⟩)) := hIn6.kg.cell 1
    have c2 : w6.drew.cell? ⟨p, 1, none⟩ = some (.slice A n cap) := hPB.cell 1
    have c3 : w6.drew.cell? ⟨g2, 0, none⟩ = some (.string s.1) := hIn6.ks.cell 0
    have c4 : w6.drew.cell? ⟨g2, 1, none⟩ = some (.bool s.2) := hIn6.ks.cell 1
    have hrowz : w6.drew.ownsRow base 280 2 (.slice A n cap) n (posC z.pos) := by rw [← hn]; exact hn ▸ hIn6.row
    have HIn6 := Lib.hid hIn6
    have HN := Lib.hid hn
    have HRow := Lib.hid hrowz
    clear hIn6 hPB hrowz
    go_wp2
    refine region_g [12] (S := (fun W => W.cell? ⟨g, 1, none⟩ = some (.pointer (some ⟨p, 0, none⟩)) ∧ W.cell? ⟨p, 1, none⟩ = some (.slice A n cap) ∧ W.cell? ⟨g2, 0, none⟩ = some (.string s.1) ∧ W.cell? ⟨g2, 1, none⟩ = some (.bool s.2))) (by kernel_rfl) ⟨c1, c2, c3, c4⟩ (fun hH => ?_)
    refine g_take (i := 0) (v := .pointer (some ⟨g, 1, none⟩)) (by rfl) (by kernel_rfl) (by kernel_rfl) (by kernel_rfl) (by kernel_rfl) (fun _ _ _ h => (by cases h.1)) (Or.inl ⟨by kernel_rfl, fun W hS => (by obtain ⟨s0, s1, s2, s3⟩ := hS; go_simp)⟩) hH ?_
    simp only [Act.put, List.setIfInBounds_toArray, List.set_cons_zero, List.set_cons_succ]
    refine g_take (i := 1) (v := .pointer (some ⟨p, 0, none⟩)) (by rfl) (by kernel_rfl) (by kernel_rfl) (by kernel_rfl) (by kernel_rfl) (fun _ _ _ h => (by cases h.1)) (Or.inl ⟨by kernel_rfl, fun W hS => (by obtain ⟨s0, s1, s2, s3⟩ := hS; go_simp)⟩) hH ?_
    simp only [Act.put, List.setIfInBounds_toArray, List.set_cons_zero, List.set_cons_succ]
    refine g_take (i := 2) (v := .pointer (some ⟨g, 1, none⟩)) (by rfl) (by kernel_rfl) (by kernel_rfl) (by kernel_rfl) (by kernel_rfl) (fun _ _ _ h => (by cases h.1)) (Or.inl ⟨by kernel_rfl, fun W hS => (by obtain ⟨s0, s1, s2, s3⟩ := hS; go_simp)⟩) hH ?_
    simp only [Act.put, List.setIfInBounds_toArray, List.set_cons_zero, List.set_cons_succ]
    refine g_take (i := 3) (v := .pointer (some ⟨p, 0, none⟩)) (by rfl) (by kernel_rfl) (by kernel_rfl) (by kernel_rfl) (by kernel_rfl) (fun _ _ _ h => (by cases h.1)) (Or.inl ⟨by kernel_rfl, fun W hS => (by obtain ⟨s0, s1, s2, s3⟩ := hS; go_simp)⟩) hH ?_
    simp only [Act.put, List.setIfInBounds_toArray, List.set_cons_zero, List.set_cons_succ]
    refine g_take (i := 4) (v := .pointer (some ⟨p, 0, none⟩)) (by rfl) (by kernel_rfl) (by kernel_rfl) (by kernel_rfl) (by kernel_rfl) (fun _ _ _ h => (by cases h.1)) (Or.inl ⟨by kernel_rfl, fun W hS => (by obtain ⟨s0, s1, s2, s3⟩ := hS; go_simp)⟩) hH ?_
    simp only [Act.put, List.setIfInBounds_toArray, List.set_cons_zero, List.set_cons_succ]
    refine g_take (i := 5) (v := .pointer (some ⟨p, 1, none⟩)) (by rfl) (by kernel_rfl) (by kernel_rfl) (by kernel_rfl) (by kernel_rfl) (fun _ _ _ h => (by cases h.1)) (Or.inl ⟨by kernel_rfl, fun W hS => (by obtain ⟨s0, s1, s2, s3⟩ := hS; go_simp)⟩) hH ?_
    simp only [Act.put, List.setIfInBounds_toArray, List.set_cons_zero, List.set_cons_succ]
    refine g_take (i := 6) (v := .slice A n cap) (by rfl) (by kernel_rfl) (by kernel_rfl) (by kernel_rfl) (by kernel_rfl) (fun _ _ _ h => (by cases h.1)) (Or.inl ⟨by kernel_rfl, fun W hS => (by obtain ⟨s0, s1, s2, s3⟩ := hS; go_simp)⟩) hH ?_
    simp only [Act.put, List.setIfInBounds_toArray, List.set_cons_zero, List.set_cons_succ]
    refine g_take (i := 7) (v := .agg #[.string s.1, .bool s.2]) (by rfl) (by kernel_rfl) (by kernel_rfl) (by kernel_rfl) (by kernel_rfl) (fun _ _ _ h => (by cases h.1)) (Or.inl ⟨by kernel_rfl, fun W hS => (by obtain ⟨s0, s1, s2, s3⟩ := hS; go_simp)⟩) hH ?_
    simp only [Act.put, List.setIfInBounds_toArray, List.set_cons_zero, List.set_cons_succ]
    refine g_one (i := 8) (by kernel_rfl) (by rfl) (fun K hK => ?_)
    go_simp
    have hz6 : base ≤ w6.drew.heap.size := HIn6.out.i.pl.1
    have hIa := HIn6.out.i.belowS ((Below.refl w6.drew.heap.size w6.drew).alloc (Nat.le_refl _) (.cells #[.string s.1, .bool s.2] 280))
    have hga := HIn6.out.kg.alloc (.cells #[.string s.1, .bool s.2] 280)
    have hg2a := HIn6.out.ks.alloc (.cells #[.string s.1, .bool s.2] 280)
    have hra := World.ownsRow.alloc HRow.out (.cells #[.string s.1, .bool s.2] 280)
    obtain ⟨bv, hPB⟩ := HIn6.out.r
    have hPa := hPB.alloc (.cells #[.string s.1, .bool s.2] 280)
    have HX := Lib.hid (And.intro hIa (And.intro hga (And.intro hg2a hPa)))
    have hba : base ≤ (w6.drew.alloc (.cells #[.string s.1, .bool s.2] 280)).heap.size := hIa.pl.1
    refine hK.out _ _ (fun _ => ⟨hga.cell 1, hPa.cell 1, hg2a.cell 0, hg2a.cell 1⟩) (fun _ => ?_)
    clear hK K hIa hga hg2a hPa hPB hH
    have hn9 : n ≤ 900 := by have := HPn6.out; have := HN.out; omega
    refine g_one (i := 9) (by kernel_rfl) (by rfl) (fun K hK => ?_)
    refine step_appG (by rfl) (.tmp 26) (.tmp 28) 74 (by rfl) base 280 (.agg #[.string ⟨#[]⟩, .bool false]) 2 24 Tryz.underlying74 Tryz.infoSp (by rfl) (by decide) (.slice A n cap) n (posC z.pos) [.string s.1, .bool s.2] (by rfl) (by exact hra) (by simp [Value.oneCell']) ⟨w6.drew.heap.size, 0, none⟩ 1 1 (by rfl) (by rfl) (by exact cells2 w6.drew _ _ _) (by simp [maxLen]; omega) (by omega) hba ?_
    intro v7 w7 hown7 hg7 hnb7
    have hown8 : w7.ownsRow base 280 2 v7 (z.pos ++ [s]).length (posC (z.pos ++ [s])) := by
      rw [List.length_append, HN.out, posC_app]
      exact hown7
    obtain ⟨A7, cap7, hv7, hcap7, _⟩ := row_look hown8
    have hl8 : (z.pos ++ [s]).length = n + 1 := by rw [List.length_append, HN.out]; rfl
    rw [hl8] at hv7
    subst hv7
    have hnfz := HIn6.out.nf
    have hT7 : Tch base stO _ w7 := Tch.of_row hra hg7 (Nat.le_refl _) hnfz (fun _ => rfl)
    have hnf7 : NF (.slice A7 (n + 1) cap7) := hnfz.nb hnb7 (Nat.le_trans HIn6.out.i.lim' (by simp))
    have hga7 : Blk w7 g 278 _ := HX.out.2.1.tch hT7 (.inr (by simp only [stO]; decide))
    have hPa7 : Blk w7 p 76 _ := HX.out.2.2.2.tch hT7 (.inr (by simp only [stO]; decide))
    have hg27 := HX.out.2.2.1.grown hg7 (fun e => HIn6.out.lt g2 e.symm rfl)
    have hH : w7.cell? ⟨g, 1, none⟩ = some (.pointer (some ⟨p, 0, none⟩)) ∧ w7.cell? ⟨p, 1, none⟩ = some (.slice A n cap) ∧ w7.cell? ⟨g2, 0, none⟩ = some (.string s.1) ∧ w7.cell? ⟨g2, 1, none⟩ = some (.bool s.2) := ⟨hga7.cell 1, hPa7.cell 1, hg27.cell 0, hg27.cell 1⟩
    have e1 := hPa7.cell 1
    have e2 := hPa7.frozen 1
    have e3 := hPa7.lt
    have hend := HX.out.1.setpos hT7 hown8 hnf7 (by rw [hl8]; omega)
    have HEnd := Lib.hid (show SI base L p o ck S secObj W2 { z with pos := z.pos ++ [s] } a (w7.setCell ⟨p, 1, none⟩ (.slice A7 (n + 1) cap7)) from ⟨hend.1, ((HT6.out.wide sx_sec).trans (Tch.of_below ((Below.refl _ _).alloc (Nat.le_refl _) _))).trans hend.2⟩)
    clear hown7 hown8 hg7 hnb7 hT7 hnf7 hga7 hPa7 hg27 hend hnfz hra HX
    refine hK.out _ _ (fun _ => hH) (fun _ => ?_)
    clear hK K
    simp only [Act.put, List.setIfInBounds_toArray, List.set_cons_zero, List.set_cons_succ]
    refine g_one (i := 10) (by kernel_rfl) (by rfl) (fun K hK => ?_)
    go_simp
    refine hK.out _ _ (fun _ => hH) (fun _ => ?_)
    clear hK K
    refine g_one (i := 11) (by kernel_rfl) (by rfl) (fun K hK => ?_)
    go_simp
    refine hK.out _ _ (fun _ => hH) (fun _ => ?_)
    clear hK K
    refine g_one (i := 12) (by kernel_rfl) (by rfl) (fun K hK => ?_)
    go_simp
    refine hK.out _ _ (fun h => absurd (List.mem_singleton.2 rfl) h) (fun _ => ?_)
    clear hK K
    refine g_done (by kernel_rfl) ⟨by first | rfl | trivial, ?_⟩ _
    go_wp2
    go_end0
    exact .inl ⟨_, HR6.out, rfl, si_up HU.out HEnd.out⟩
  | false =>
    rw [hrow] at t1 HR2
    rw [if_neg (by decide)] at HR2
    clear hrow
    have HR3 : Hid (((tellX y (evB 7)).bind fun x3 => some { x3 with pos := x3.pos ++ [s] }) = R) := Lib.hid HR2.out
    have hl4 : y.l.length ≤ 800002 := by have := HL3.out; omega
    clear HR2
    have HTl := Lib.hid (tell_S (q := sxObj) (w0 := w3) (fun r hr => .inl hr) (evB 7) (si_refl HIn3.out.i) (by omega) (Nat.zero_le _))
    go_wp2_with fail
    refine HTl.out.mono ?_
    rintro e w6 (⟨z, hr, rfl, h6⟩ | ⟨hr, k, rfl, hF⟩)
    case inr => exact ⟨rfl, po_up HU.out (po_up (HT3.out.wide sx_sec) (.inr ⟨by rw [← HR3.out, hr]; rfl, k, rfl, SFw hF⟩))⟩
    rw [hr] at HR3
    have HR6 : Hid (R = some { z with pos := z.pos ++ [s] }) := Lib.hid HR3.out.symm
    obtain ⟨k1, k2, k3⟩ := tellX_po (w0 := w) (w1 := w) hr
    have hIn6 := (HIn3.out.tell h6 k1 k2).drew
    have HPn6 : Hid (z.pos.length ≤ 900) := Lib.hid (by rw [k1]; exact HPn3.out)
    have HT6 := Lib.hid (Tch.trans (HT3.out.trans h6.2) (Tch.of_below (below_drew (Below.refl _ _))))
    clear hr HR3 h6 k1 k2 k3 HTl HIn3 HPn3 b0 t1
    obtain ⟨bv, hPB⟩ := hIn6.r
    obtain ⟨A, cap, hpv, hcap, _⟩ := row_look hIn6.row
    subst hpv
    obtain ⟨n, hn⟩ : ∃ n, z.pos.length = n := ⟨_, rfl⟩
    rw [hn] at hPB hcap hIn6
    have c1 : w6.drew.cell? ⟨g, 1, none⟩ = some (.pointer (some ⟨p, 0, none⟩)) := hIn6.kg.cell 1
    have c2 : w6.drew.cell? ⟨p, 1, none⟩ = some (.slice A n cap) := hPB.cell 1
    have c3 : w6.drew.cell? ⟨g2, 0, none⟩ = some (.string s.1) := hIn6.ks.cell 0
    have c4 : w6.drew.cell? ⟨g2, 1, none⟩ = some (.bool s.2) := hIn6.ks.cell 1
    have hrowz : w6.drew.ownsRow base 280 2 (.slice A n cap) n (posC z.pos) := by rw [← hn]; exact hn ▸ hIn6.row
    have HIn6 := Lib.hid hIn6
    have HN := Lib.hid hn
    have HRow := Lib.hid hrowz
    clear hIn6 hPB hrowz
    go_wp2
    refine region_g [12] (S := (fun W => W.cell? ⟨g, 1, none⟩ = some (.pointer (some ⟨p, 0, none⟩)) ∧ W.cell? ⟨p, 1, none⟩ = some (.slice A n cap) ∧ W.cell? ⟨g2, 0, none⟩ = some (.string s.1) ∧ W.cell? ⟨g2, 1, none⟩ = some (.bool s.2))) (by kernel_rfl) ⟨c1, c2, c3, c4⟩ (fun hH => ?_)
    refine g_take (i := 0) (v := .pointer (some ⟨g, 1, none⟩)) (by rfl) (by kernel_rfl) (by kernel_rfl) (by kernel_rfl) (by kernel_rfl) (fun _ _ _ h => (by cases h.1)) (Or.inl ⟨by kernel_rfl, fun W hS => (by obtain ⟨s0, s1, s2, s3⟩ := hS; go_simp)⟩) hH ?_
    simp only [Act.put, List.setIfInBounds_toArray, List.set_cons_zero, List.set_cons_succ]
    refine g_take (i := 1) (v := .pointer (some ⟨p, 0, none⟩)) (by rfl) (by kernel_rfl) (by kernel_rfl) (by kernel_rfl) (by kernel_rfl) (fun _ _ _ h => (by cases h.1)) (Or.inl ⟨by kernel_rfl, fun W hS => (by obtain ⟨s0, s1, s2, s3⟩ := hS; go_simp)⟩) hH ?_
    simp only [Act.put, List.setIfInBounds_toArray, List.set_cons_zero, List.set_cons_succ]
    refine g_take (i := 2) (v := .pointer (some ⟨g, 1, none⟩)) (by rfl) (by kernel_rfl) (by kernel_rfl) (by kernel_rfl) (by kernel_rfl) (fun _ _ _ h => (by cases h.1)) (Or.inl ⟨by kernel_rfl, fun W hS => (by obtain ⟨s0, s1, s2, s3⟩ := hS; go_simp)⟩) hH ?_
    simp only [Act.put, List.setIfInBounds_toArray, List.set_cons_zero, List.set_cons_succ]
    refine g_take (i := 3) (v := .pointer (some ⟨p, 0, none⟩)) (by rfl) (by kernel_rfl) (by kernel_rfl) (by kernel_rfl) (by kernel_rfl) (fun _ _ _ h => (by cases h.1)) (Or.inl ⟨by kernel_rfl, fun W hS => (by obtain ⟨s0, s1, s2, s3⟩ := hS; go_simp)⟩) hH ?_
    simp only [Act.put, List.setIfInBounds_toArray, List.set_cons_zero, List.set_cons_succ]
    refine g_take (i := 4) (v := .pointer (some ⟨p, 0, none⟩)) (by rfl) (by kernel_rfl) (by kernel_rfl) (by kernel_rfl) (by kernel_rfl) (fun _ _ _ h => (by cases h.1)) (Or.inl ⟨by kernel_rfl, fun W hS => (by obtain ⟨s0, s1, s2, s3⟩ := hS; go_simp)⟩) hH ?_
    simp only [Act.put, List.setIfInBounds_toArray, List.set_cons_zero, List.set_cons_succ]
    refine g_take (i := 5) (v := .pointer (some ⟨p, 1, none⟩)) (by rfl) (by kernel_rfl) (by kernel_rfl) (by kernel_rfl) (by kernel_rfl) (fun _ _ _ h => (by cases h.1)) (Or.inl ⟨by kernel_rfl, fun W hS => (by obtain ⟨s0, s1, s2, s3⟩ := hS; go_simp)⟩) hH ?_
    simp only [Act.put, List.setIfInBounds_toArray, List.set_cons_zero, List.set_cons_succ]
    refine g_take (i := 6) (v := .slice A n cap) (by rfl) (by kernel_rfl) (by kernel_rfl) (by kernel_rfl) (by kernel_rfl) (fun _ _ _ h => (by cases h.1)) (Or.inl ⟨by kernel_rfl, fun W hS => (by obtain ⟨s0, s1, s2, s3⟩ := hS; go_simp)⟩) hH ?_
    simp only [Act.put, List.setIfInBounds_toArray, List.set_cons_zero, List.set_cons_succ]
    refine g_take (i := 7) (v := .agg #[.string s.1, .bool s.2]) (by rfl) (by kernel_rfl) (by kernel_rfl) (by kernel_rfl) (by kernel_rfl) (fun _ _ _ h => (by cases h.1)) (Or.inl ⟨by kernel_rfl, fun W hS => (by obtain ⟨s0, s1, s2, s3⟩ := hS; go_simp)⟩) hH ?_
    simp only [Act.put, List.setIfInBounds_toArray, List.set_cons_zero, List.set_cons_succ]
    refine g_one (i := 8) (by kernel_rfl) (by rfl) (fun K hK => ?_)
    go_simp
    have hz6 : base ≤ w6.drew.heap.size := HIn6.out.i.pl.1
    have hIa := HIn6.out.i.belowS ((Below.refl w6.drew.heap.size w6.drew).alloc (Nat.le_refl _) (.cells #[.string s.1, .bool s.2] 280))
    have hga := HIn6.out.kg.alloc (.cells #[.string s.1, .bool s.2] 280)
    have hg2a := HIn6.out.ks.alloc (.cells #[.string s.1, .bool s.2] 280)
    have hra := World.ownsRow.alloc HRow.out (.cells #[.string s.1, .bool s.2] 280)
    obtain ⟨bv, hPB⟩ := HIn6.out.r
    have hPa := hPB.alloc (.cells #[.string s.1, .bool s.2] 280)
    have HX := Lib.hid (And.intro hIa (And.intro hga (And.intro hg2a hPa)))
    have hba : base ≤ (w6.drew.alloc (.cells #[.string s.1, .bool s.2] 280)).heap.size := hIa.pl.1
    refine hK.out _ _ (fun _ => ⟨hga.cell 1, hPa.cell 1, hg2a.cell 0, hg2a.cell 1⟩) (fun _ => ?_)
    clear hK K hIa hga hg2a hPa hPB hH
    have hn9 : n ≤ 900 := by have := HPn6.out; have := HN.out; omega
    refine g_one (i := 9) (by kernel_rfl) (by rfl) (fun K hK => ?_)
    refine step_appG (by rfl) (.tmp 26) (.tmp 28) 74 (by rfl) base 280 (.agg #[.string ⟨#[]⟩, .bool false]) 2 24 Tryz.underlying74 Tryz.infoSp (by rfl) (by decide) (.slice A n cap) n (posC z.pos) [.string s.1, .bool s.2] (by rfl) (by exact hra) (by simp [Value.oneCell']) ⟨w6.drew.heap.size, 0, none⟩ 1 1 (by rfl) (by rfl) (by exact cells2 w6.drew _ _ _) (by simp [maxLen]; omega) (by omega) hba ?_
    intro v7 w7 hown7 hg7 hnb7
    have hown8 : w7.ownsRow base 280 2 v7 (z.pos ++ [s]).length (posC (z.pos ++ [s])) := by
      rw [List.length_append, HN.out, posC_app]
      exact hown7
    obtain ⟨A7, cap7, hv7, hcap7, _⟩ := row_look hown8
    have hl8 : (z.pos ++ [s]).length = n + 1 := by rw [List.length_append, HN.out]; rfl
    rw [hl8] at hv7
    subst hv7
    have hnfz := HIn6.out.nf
    have hT7 : Tch base stO _ w7 := Tch.of_row hra hg7 (Nat.le_refl _) hnfz (fun _ => rfl)
    have hnf7 : NF (.slice A7 (n + 1) cap7) := hnfz.nb hnb7 (Nat.le_trans HIn6.out.i.lim' (by simp))
    have hga7 : Blk w7 g 278 _ := HX.out.2.1.tch hT7 (.inr (by simp only [stO]; decide))
    have hPa7 : Blk w7 p 76 _ := HX.out.2.2.2.tch hT7 (.inr (by simp only [stO]; decide))
    have hg27 := HX.out.2.2.1.grown hg7 (fun e => HIn6.out.lt g2 e.symm rfl)
    have hH : w7.cell? ⟨g, 1, none⟩ = some (.pointer (some ⟨p, 0, none⟩)) ∧ w7.cell? ⟨p, 1, none⟩ = some (.slice A n cap) ∧ w7.cell? ⟨g2, 0, none⟩ = some (.string s.1) ∧ w7.cell? ⟨g2, 1, none⟩ = some (.bool s.2) := ⟨hga7.cell 1, hPa7.cell 1, hg27.cell 0, hg27.cell 1⟩
    have e1 := hPa7.cell 1
    have e2 := hPa7.frozen 1
    have e3 := hPa7.lt
    have hend := HX.out.1.setpos hT7 hown8 hnf7 (by rw [hl8]; omega)
    have HEnd := Lib.hid (show SI base L p o ck S secObj W2 { z with pos := z.pos ++ [s] } a (w7.setCell ⟨p, 1, none⟩ (.slice A7 (n + 1) cap7)) from ⟨hend.1, ((HT6.out.wide sx_sec).trans (Tch.of_below ((Below.refl _ _).alloc (Nat.le_refl _) _))).trans hend.2⟩)
    clear hown7 hown8 hg7 hnb7 hT7 hnf7 hga7 hPa7 hg27 hend hnfz hra HX
    refine hK.out _ _ (fun _ => hH) (fun _ => ?_)
    clear hK K
    simp only [Act.put, List.setIfInBounds_toArray, List.set_cons_zero, List.set_cons_succ]
    refine g_one (i := 10) (by kernel_rfl) (by rfl) (fun K hK => ?_)
    go_simp
    refine hK.out _ _ (fun _ => hH) (fun _ => ?_)
    clear hK K
    refine g_one (i := 11) (by kernel_rfl) (by rfl) (fun K hK => ?_)
    go_simp
    refine hK.out _ _ (fun _ => hH) (fun _ => ?_)
    clear hK K
    refine g_one (i := 12) (by kernel_rfl) (by rfl) (fun K hK => ?_)
    go_simp
    refine hK.out _ _ (fun h => absurd (List.mem_singleton.2 rfl) h) (fun _ => ?_)
    clear hK K
    refine g_done (by kernel_rfl) ⟨by first | rfl | trivial, ?_⟩ _
    go_wp2
    go_end0
    exact .inl ⟨_, HR6.out, rfl, si_up HU.out HEnd.out⟩
end
end Go.Proofs.YtalkjgijmceifaaGreatDoor

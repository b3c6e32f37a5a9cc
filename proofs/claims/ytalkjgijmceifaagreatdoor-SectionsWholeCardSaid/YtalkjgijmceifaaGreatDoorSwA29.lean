/-
  sections: shut.
-/
import Derived.Test.YtalkjgijmceifaaGreatDoorSwA28
namespace Go.Proofs.YtalkjgijmceifaaGreatDoor
open Go.RowKit Go.Maps
set_option maxRecDepth 100000
set_option linter.unusedSimpArgs false
set_option linter.unusedVariables false
set_option linter.unusedSectionVars false
variable [Tab] [Fo]

theorem posC_get (l : List (ByteArray × Bool)) (j : Nat) (h : j < l.length) : (posC l)[j * 2]? = some (.string l[j].1) ∧ (posC l)[j * 2 + 1]? = some (.bool l[j].2) := by
  induction l generalizing j with
  | nil => exact absurd h (by simp)
  | cons s r ih =>
    have e : posC (s :: r) = .string s.1 :: .bool s.2 :: posC r := by unfold posC; rw [List.flatMap_cons]; rfl
    rw [e]
    cases j with
    | zero => exact ⟨rfl, rfl⟩
    | succ j =>
      have := ih j (by simpa using h)
      rw [show (j + 1) * 2 = j * 2 + 1 + 1 by omega]
      exact this
theorem posC_take (l : List (ByteArray × Bool)) (m : Nat) : (posC l).take (m * 2) = posC (l.take m) := by
  induction l generalizing m with
  | nil => simp [posC]
  | cons s r ih =>
    have e : ∀ r : List (ByteArray × Bool), posC (s :: r) = .string s.1 :: .bool s.2 :: posC r := fun r => by unfold posC; rw [List.flatMap_cons]; rfl
    cases m with
    | zero => simp [posC]
    | succ m => rw [e, List.take_succ_cons, e, show (m + 1) * 2 = m * 2 + 1 + 1 by omega, List.take_succ_cons, List.take_succ_cons, ih]
section
variable {base L p o ck : Nat} {S : List UInt8} {x : Sx} {a : Nat} {w w' : World}
/-- The position's row: where its steps lie. -/
theorem row_look {v : Value} {ps : List (ByteArray × Bool)} (h : w.ownsRow base 280 2 v ps.length (posC ps)) :
    ∃ A cap, v = .slice A ps.length cap ∧ ps.length ≤ cap ∧ (0 < ps.length → ∃ g, A = some ⟨g, 0, none⟩ ∧ ∀ j (h : j < ps.length), w.cell? ⟨g, j * 2, none⟩ = some (.string ps[j].1) ∧ w.cell? ⟨g, j * 2 + 1, none⟩ = some (.bool ps[j].2)) := by
  rcases h.2 with ⟨hv, h0⟩ | ⟨g, cap, cur, hv, hg, hh, hnc, hm, hs, ht⟩
  · have e0 : ps.length = 0 := by simpa using h0
    refine ⟨none, 0, by rw [hv, e0], by omega, fun h => by omega⟩
  · refine ⟨_, cap, hv, hnc, fun h0 => ⟨g, rfl, fun j hj => ?_⟩⟩
    obtain ⟨k1, k2⟩ := posC_get ps j hj
    have hcell : ∀ i, i < ps.length * 2 → w.cell? ⟨g, i, none⟩ = (posC ps)[i]? := fun i hi => by
      have h1 : cur[i]? = (posC ps)[i]? := by rw [← ht, List.getElem?_take_of_lt hi, Array.getElem?_toList]
      rw [← h1]
      simp [World.cell?, hh]
    exact ⟨(hcell _ (by omega)).trans k1, (hcell _ (by omega)).trans k2⟩
theorem row_cut {v : Value} {A : Option Addr} {cap : Nat} {ps : List (ByteArray × Bool)} (h : w.ownsRow base 280 2 v ps.length (posC ps)) (hv : v = .slice A ps.length cap) {m : Nat} (hm : m ≤ ps.length) :
    w.ownsRow base 280 2 (.slice A m cap) (ps.take m).length (posC (ps.take m)) := by
  have hl : (ps.take m).length = m := by rw [List.length_take]; omega
  rw [hl]
  refine ⟨by rw [posC_len, hl], ?_⟩
  rcases h.2 with ⟨hv2, h0⟩ | ⟨g, cap', cur, hv2, hg, hh, hnc, hmx, hs, ht⟩
  · have e0 : ps.length = 0 := by simpa using h0
    rw [hv] at hv2
    injection hv2 with e1 e2 e3
    have : m = 0 := by omega
    subst this
    exact .inl ⟨by rw [e1, e3], rfl⟩
  · rw [hv] at hv2
    injection hv2 with e1 e2 e3
    refine .inr ⟨g, cap, cur, by rw [e1], hg, hh, by omega, by rw [e3]; exact hmx, by rw [e3]; exact hs, ?_⟩
    rw [← posC_take, ← ht, List.take_take, Nat.min_eq_left (by omega)]
/-- How long the position is, out of the world. -/
def plOf (p : Nat) (w : World) : Nat := match w.cell? ⟨p, 1, none⟩ with | some (.slice _ n _) => n | _ => 0
theorem SecI.plOf (h : SecI base L p o ck S x a w) : plOf p w = x.pos.length := by
  obtain ⟨pv, bv, hB, hR, _⟩ := h.blk
  obtain ⟨A, cap, rfl, _⟩ := row_look hR
  unfold Go.Proofs.YtalkjgijmceifaaGreatDoor.plOf
  rw [show w.cell? ⟨p, 1, none⟩ = some (.slice A x.pos.length cap) from hB.cell 1]
theorem shut1_eq {x : Sx} (n : Nat) (h : x.pos.length = n + 1) : shut1 x = (tellX x (evB 9)).bind fun x1 => (if (x.pos[n]'(by omega)).2 = true then tellX x1 (evB 6) else some x1).bind fun x2 => some { x2 with pos := x2.pos.take n } := by
  unfold shut1
  have hne : x.pos ≠ [] := by intro e; rw [e] at h; cases h
  rw [List.getLast?_eq_some_getLast hne]
  simp only
  rw [List.getLast_eq_getElem hne]
  have e2 : x.pos[x.pos.length - 1]'(by omega) = x.pos[n]'(by omega) := by congr 1; omega
  rw [e2]
  cases ht : tellX x (evB 9) with
  | none => rfl
  | some x1 =>
    obtain ⟨_, _, _, k4, _⟩ := tell_len ht
    show (if _ then tellX x1 (evB 6) else some x1).bind _ = (if _ then tellX x1 (evB 6) else some x1).bind _
    have hd : ∀ y : Sx, y.pos = x.pos → y.pos.dropLast = y.pos.take n := fun y hy => by rw [List.dropLast_eq_take, hy, h]; rfl
    split
    · cases ht2 : tellX x1 (evB 6) with
      | none => rfl
      | some x2 =>
        obtain ⟨_, _, _, j4, _⟩ := tell_len ht2
        show some _ = some _
        rw [hd x2 (j4.trans k4)]
    · show some _ = some _
      rw [hd x1 k4]
variable {w0 : World}
/-- What the box of a reading says. -/
theorem rb_cells {g : Nat} (hB : Blk w g 278 #[.pointer (some ⟨L, 0, none⟩), .pointer (some ⟨p, 0, none⟩)]) : w.cell? ⟨g, 0, none⟩ = some (.pointer (some ⟨L, 0, none⟩)) ∧ w.cell? ⟨g, 1, none⟩ = some (.pointer (some ⟨p, 0, none⟩)) ∧ g < w.heap.size := ⟨hB.cell 0, hB.cell 1, hB.lt⟩
/-- What the parser's block says of the position. -/
theorem pa_cells (h : SecI base L p o ck S x a w) : ∃ A cap, w.cell? ⟨p, 1, none⟩ = some (.slice A x.pos.length cap) ∧ x.pos.length ≤ cap ∧ w.frozen? ⟨p, 1, none⟩ = false ∧ p < w.heap.size ∧ (0 < x.pos.length → ∃ g, A = some ⟨g, 0, none⟩ ∧ ∀ j (h : j < x.pos.length), w.cell? ⟨g, j * 2, none⟩ = some (.string x.pos[j].1) ∧ w.cell? ⟨g, j * 2 + 1, none⟩ = some (.bool x.pos[j].2))
    ∧ ∀ m, m ≤ x.pos.length → SecI base L p o ck S { x with pos := x.pos.take m } a (w.setCell ⟨p, 1, none⟩ (.slice A m cap)) ∧ Tch base secObj w (w.setCell ⟨p, 1, none⟩ (.slice A m cap)) := by
  obtain ⟨pv, bv, hB, hR, hnf, _⟩ := h.blk
  obtain ⟨A, cap, hv, hc, hr⟩ := row_look hR
  subst hv
  refine ⟨A, cap, hB.cell 1, hc, hB.frozen 1, hB.lt, hr, fun m hm => ?_⟩
  have hrow := row_cut hR rfl hm
  refine h.setpos (Tch.refl _ _ _) hrow ?_ (by have := h.pn; rw [List.length_take]; omega)
  intro g hg
  exact hnf g (by cases A <;> exact hg)
set_option maxHeartbeats 4000000 in
theorem shut_S (keep : Nat) (h : SecI base L p o ck S x a w) (hl : x.l.length ≤ 800000) (hk9 : keep ≤ 1000000) :
    Calls Tryz.prog 246 #[rV L p, .int .i64 (keep : Int)] w (Po (SI base L p o ck S secObj w) (SF base L p o ck S secObj w) a (shutK keep x)) := by
  obtain ⟨g, W, hg, hW, hB, hlt, hi, hT⟩ := rbox (q := secObj) h
  have HU := Lib.hid hT
  have HB := Lib.hid hB
  obtain ⟨R, hR⟩ : ∃ R, shutK keep x = R := ⟨_, rfl⟩
  rw [hR]
  unfold shutK at hR
  have h7 := h.tk.st7
  have START := Lib.hid (show ∃ (y : Sx) (n : Nat), y.pos.length ≤ n ∧ Hid (SI base L p o ck S secObj W y a W) ∧ Hid (shutS keep n y = R) ∧ Hid (y.l.length + 2 * y.st.length ≤ 800014) from ⟨x, _, Nat.le_refl _, Lib.hid (si_refl hi), Lib.hid hR, Lib.hid (by omega)⟩)
  unfold rV
  clear h hB hT hi hR hl h7
  go_enter Tryz.func246, Tryz.ntmps246
  go_wp2
  go_loopw [] (fun wr => ∃ (y : Sx) (n : Nat), y.pos.length ≤ n ∧ Hid (SI base L p o ck S secObj W y a wr) ∧ Hid (shutS keep n y = R) ∧ Hid (y.l.length + 2 * y.st.length ≤ 800014)) (fun wr => plOf p wr)
  case atStart => exact START.out
  case round =>
    obtain ⟨y, n, hyn, HI, HR, HLn⟩ := hrel
    clear START
    obtain ⟨b0, b1, hgl⟩ := rb_cells (rb_tch HB.out HI.out.2)
    obtain ⟨A, cap, c1, hcap, f1, hpl, hcells, hset⟩ := pa_cells HI.out.1
    have h7 := HI.out.1.tk.st7
    have hpos : y.pos.length ≤ 1000 := HI.out.1.pn
    have HPL := Lib.hid HI.out.1.plOf
    by_cases hk : keep < y.pos.length
    · obtain ⟨m, hm⟩ : ∃ m, y.pos.length = m + 1 := ⟨y.pos.length - 1, by omega⟩
      obtain ⟨n, rfl⟩ : ∃ n', n = n' + 1 := ⟨n - 1, by omega⟩
      have HR2 : Hid ((shut1 y).bind (shutS keep n) = R) := Lib.hid (by have := HR.out; rw [shutS, if_pos hk] at this; exact this)
      have HF := Lib.hid (fun (z : Sx) (hz : shut1 y = some z) => shut1_facts hz)
      rw [shut1_eq m hm] at HR2 HF
      have h91 := HLn.out
      have hTl := tell_S t_sec (evB 9) HI.out (by omega) (Nat.zero_le _)
      have HTl := Lib.hid hTl
      have hm1 : ((y.pos.length : Int) - 1) = m := by omega
      clear hTl HR hset hcells h91
      go_wp2_with fail
      refine HTl.out.mono ?_
      rintro e w2 (⟨y1, hr, rfl, h2⟩ | ⟨hr, k, rfl, hF⟩)
      case inr => exact ⟨rfl, po_up HU.out (.inr ⟨by rw [← HR2.out, hr]; rfl, k, rfl, hF⟩)⟩
      obtain ⟨_, _, _, hp1, _⟩ := tell_len hr
      rw [hr] at HR2 HF
      have hm2 : y1.pos.length = m + 1 := by rw [hp1]; exact hm
      obtain ⟨rowb, hrow⟩ : ∃ r, (y.pos[m]'(by omega)).2 = r := ⟨_, rfl⟩
      have hrow2 : (y1.pos[m]'(by omega)).2 = rowb := by rw [← hrow]; congr 1; exact List.getElem_of_eq hp1 _
      rw [hrow] at HR2 HF
      have HR3 : Hid (((if rowb = true then tellX y1 (evB 6) else some y1).bind fun x2 => some { x2 with pos := x2.pos.take m }).bind (shutS keep n) = R) := Lib.hid HR2.out
      have HF3 := Lib.hid (fun (z : Sx) (hz : ((if rowb = true then tellX y1 (evB 6) else some y1).bind fun x2 => some { x2 with pos := x2.pos.take m }) = some z) => HF.out z hz)
      have HP : Hid (plOf p wr = m + 1) := Lib.hid (HPL.out.trans hm)
      obtain ⟨b0, b1, hgl2⟩ := rb_cells (rb_tch HB.out h2.2)
      obtain ⟨A2, cap2, c2, hcap2, f2, hpl2, hcells2, _⟩ := pa_cells h2.1
      rw [hm2] at c2 hcap2
      obtain ⟨g2, rfl, hcc⟩ := hcells2 (by omega)
      have d1 := (hcc m (by omega)).2
      rw [hrow2] at d1
      have HI2 := Lib.hid h2
      have HM := Lib.hid (And.intro hm2 hm)
      have h91 : y1.l.length ≤ 900000 := by have := (tell_len hr).1; have := HLn.out; omega
      have hg2 : g2 < w2.heap.size := cell_lt d1
      clear hr h2 HR2 HF hrow hrow2 hcells2 hcc HTl hp1 HPL c1 f1 hcap hk
      cases rowb with
      | true =>
        have HTl := Lib.hid (tell_S t_sec (evB 6) HI2.out h91 (Nat.zero_le _))
        rw [if_pos rfl] at HR3 HF3
        go_wp2_with fail
        refine HTl.out.mono ?_
        rintro e w3 (⟨y2, hr, rfl, h3⟩ | ⟨hr, k, rfl, hF⟩)
        case inr => exact ⟨rfl, po_up HU.out (.inr ⟨by rw [← HR3.out, hr]; rfl, k, rfl, hF⟩)⟩
        rw [hr] at HR3 HF3
        obtain ⟨_, _, _, hp2, _⟩ := tell_len hr
        have HRF : Hid (shutS keep n { y2 with pos := y2.pos.take m } = R) := Lib.hid HR3.out
        have HLF : Hid (({ y2 with pos := y2.pos.take m } : Sx).l.length + 2 * ({ y2 with pos := y2.pos.take m } : Sx).st.length ≤ 800014) := Lib.hid (by have := (HF3.out _ rfl).1; have := HLn.out; omega)
        have hm4 : y2.pos.length = m + 1 := by rw [hp2]; exact hm2
        clear hr HR3 HF3 HTl hp2 b0 b1 c2 f2 d1 hcap2
        have hid3 := h3.1.belowS (below_drew (Below.refl _ _))
        obtain ⟨d0, d1, hgl3⟩ := rb_cells (rb_tch HB.out (Tch.trans h3.2 (Tch.of_below (below_drew (Below.refl _ _)))))
        obtain ⟨A3, cap3, c3, hcap3, f3, hpl3, _, hset3⟩ := pa_cells hid3
        have hm3 : (y2).pos.length = m + 1 := hm4
        rw [hm3] at c3 hcap3
        have hset4 := hset3 m (by omega)
        have HI4 : Hid (SI base L p o ck S secObj W { y2 with pos := (y2).pos.take m } a ((w3).drew.setCell ⟨p, 1, none⟩ (.slice A3 m cap3))) := Lib.hid ⟨hset4.1, (Tch.trans h3.2 (Tch.of_below (below_drew (Below.refl _ _)))).trans hset4.2⟩
        have HE4 := Lib.hid hset4.1.plOf
        have HL4 : Hid ((y2.pos.take m).length = m) := Lib.hid (by rw [List.length_take]; omega)
        have hmc : m ≤ cap3 := by omega
        clear hid3 hset3 hset4
        go_wp2
        go_region
        go_wp2
        go_roundw
        case rel => exact ⟨{ y2 with pos := (y2).pos.take m }, n, by have := HL4.out; show (y2.pos.take m).length ≤ n; have := HM.out.2; omega, HI4, HRF, HLF⟩
        case measure => exact Nat.lt_of_le_of_lt (Nat.le_of_eq (HE4.out.trans HL4.out)) (by rw [HP.out]; omega)
      | false =>
        rw [if_neg (by decide)] at HR3 HF3
        have HRF : Hid (shutS keep n { y1 with pos := y1.pos.take m } = R) := Lib.hid HR3.out
        have HLF : Hid (({ y1 with pos := y1.pos.take m } : Sx).l.length + 2 * ({ y1 with pos := y1.pos.take m } : Sx).st.length ≤ 800014) := Lib.hid (by have := (HF3.out _ rfl).1; have := HLn.out; omega)
        clear HR3 HF3
        have h3 := HI2.out
        have hid3 := h3.1.belowS (below_drew (Below.refl _ _))
        obtain ⟨d0, d1, hgl3⟩ := rb_cells (rb_tch HB.out (Tch.trans h3.2 (Tch.of_below (below_drew (Below.refl _ _)))))
        obtain ⟨A3, cap3, c3, hcap3, f3, hpl3, _, hset3⟩ := pa_cells hid3
        have hm3 : (y1).pos.length = m + 1 := hm2
        rw [hm3] at c3 hcap3
        have hset4 := hset3 m (by omega)
        have HI4 : Hid (SI base L p o ck S secObj W { y1 with pos := (y1).pos.take m } a ((w2).drew.setCell ⟨p, 1, none⟩ (.slice A3 m cap3))) := Lib.hid ⟨hset4.1, (Tch.trans h3.2 (Tch.of_below (below_drew (Below.refl _ _)))).trans hset4.2⟩
        have HE4 := Lib.hid hset4.1.plOf
        have HL4 : Hid ((y1.pos.take m).length = m) := Lib.hid (by rw [List.length_take]; omega)
        have hmc : m ≤ cap3 := by omega
        clear hid3 hset3 hset4
        go_wp2
        go_region
        go_wp2
        go_roundw
        case rel => exact ⟨{ y1 with pos := (y1).pos.take m }, n, by have := HL4.out; show (y1.pos.take m).length ≤ n; have := HM.out.2; omega, HI4, HRF, HLF⟩
        case measure => exact Nat.lt_of_le_of_lt (Nat.le_of_eq (HE4.out.trans HL4.out)) (by rw [HP.out]; omega)
    · have HE : Hid (R = some y) := Lib.hid (by rw [← HR.out]; cases n with | zero => rfl | succ n => rw [shutS, if_neg hk])
      clear HR hset hcells
      go_wp2
      go_end0
      exact .inl ⟨y, HE.out, rfl, si_up HU.out HI.out⟩
end
end Go.Proofs.YtalkjgijmceifaaGreatDoor

/-
  outline: the value of a text, its first line.
  outline: indent, meaning.
  outline: Parse, End.
-/
import Derived.Test.YtalkjgijmceifaaGreatDoorOwA34
namespace Go.Proofs.YtalkjgijmceifaaGreatDoor
open Go.RowKit Go.Maps
set_option maxRecDepth 100000
set_option linter.unusedSimpArgs false
set_option linter.unusedVariables false
set_option linter.unusedSectionVars false
set_option linter.unusedSectionVars false
variable [Tab] [Fo]

section
variable {base L p o ck an g : Nat} {S : List UInt8} {x : Ox} {a : Nat} {w w' w0 w1 W : World} {q : Obj → Prop}
theorem known_at {a' : Nat} (h : knownO S a = some a') : a' = a := by
  unfold knownO at h
  cases hq : nameP S a with
  | none => rw [hq] at h; cases h
  | some q =>
    rw [hq] at h
    have h' : (if q.1 = ⟨nullL.toArray⟩ ∨ q.1 = ⟨trueL.toArray⟩ ∨ q.1 = ⟨falseL.toArray⟩ then some a else none) = some a' := h
    split at h'
    · exact (Option.some.inj h').symm
    · cases h'
set_option maxHeartbeats 8000000 in
theorem text_O (hok : OkL olM S a x) (h : OlI base L p o ck an g S x a w) :
    Calls Tryz.prog 186 #[rV L p] w (Pq (OI base L p o ck an g S olObj w) (OF base L p o ck an g S olObj w) (textO S a x)) := by
  obtain ⟨b, W, hg, hW, hB, hlt, hi, hT⟩ := rboxO (q := olObj) h
  obtain ⟨R, hR⟩ : ∃ R, textO S a x = R := ⟨_, rfl⟩
  rw [hR]
  unfold textO at hR
  have HR := Lib.hid hR
  have h160 := hi.s9
  have HOk := Lib.hid hok
  have HNa := Lib.hid (name_ahead W L (oL o g) S a hi.ln (by omega) hi.al)
  have HU := Lib.hid hT
  have HB := Lib.hid hB
  have HI := Lib.hid hi
  obtain ⟨b0, b1, _⟩ := ob_cells hB
  unfold rV
  clear h hT hB hi hR hok
  go_enter Tryz.func186, Tryz.ntmps186
  go_wp2_with fail
  refine HNa.out.mono ?_
  rintro e w1 ⟨rfl, hb1⟩
  have HB1 := Lib.hid (HB.out.below hb1 HB.out.lt)
  have HI1 := Lib.hid (HI.out.belowO hb1)
  have HT1 := Lib.hid (HU.out.trans (Tch.of_below hb1))
  obtain ⟨b0, b1, hgl1⟩ := ob_cells HB1.out
  clear hb1 HNa HB HI HU hlt
  cases hn : naB S a with
  | true =>
    rw [if_pos hn] at HR
    have hk := known_any (p := p) HI1.out.ln (by omega) HI1.out.al
    unfold rV at hk
    have HK := Lib.hid hk
    clear hk hn
    go_wp2_with fail
    refine HK.out.mono ?_
    intro e w2 hp
    rcases pu_OI HI1.out hp with ⟨a2, hr, rfl, h2⟩ | ⟨hr, k, rfl, hF⟩
    case inr => exact ⟨rfl, poq_up HT1.out (.inr ⟨by rw [← HR.out, hr]; rfl, k, rfl, hF⟩)⟩
    have hka := known_at hr
    subst hka
    rw [hr] at HR
    have HR2 : Hid (((partO S a2 x).bind fun r => if r.2.2 = true then some (r.1, { r.2.1 with en := true }) else none) = R) := Lib.hid HR.out
    have HB2 := Lib.hid (ob_tch HB1.out h2.2)
    have HI2 := Lib.hid h2.1
    have HT2 := Lib.hid (HT1.out.trans h2.2)
    obtain ⟨b0, b1, hgl2⟩ := ob_cells HB2.out
    clear hp hr h2 HR HK HB1 HI1 HT1 hgl1
    have hp := part_O (p := p) (a := a2) (x := x) HOk.out HI2.out
    unfold rV at hp
    have HP := Lib.hid hp
    clear hp
    go_wp2_with fail
    refine HP.out.mono ?_
    rintro e w3 (⟨a3, x3, bb, hr, rfl, h3⟩ | ⟨hr, k, rfl, hF⟩)
    case inr => exact ⟨rfl, poq_up HT2.out (.inr ⟨by rw [← HR2.out, hr]; rfl, k, rfl, hF⟩)⟩
    rw [hr] at HR2
    have HR3 : Hid ((if bb = true then some (a3, { x3 with en := true }) else none) = R) := Lib.hid HR2.out
    have HB3 := Lib.hid (ob_tch HB2.out h3.2)
    have HI3 := Lib.hid h3.1
    have HT3 := Lib.hid (HT2.out.trans h3.2)
    obtain ⟨b0, b1, hgl3⟩ := ob_cells HB3.out
    clear hr h3 HR2 HP HB2 HI2 HT2
    cases bb with
    | true =>
      rw [if_pos rfl] at HR3
      obtain ⟨_, _, _, _, _, _, pf3, ppl, _, _, _, _⟩ := bk_cells HI3.out
      have hset := HI3.out.seten
      have HS := Lib.hid (show OI base L p o ck an g S olObj w3 { x3 with en := true } a3 (w3.setCell ⟨p, 3, none⟩ (.bool true)) from hset)
      clear hset
      go_wp2
      go_end0
      exact poq_up HT3.out (.inl ⟨a3, _, HR3.out.symm, rfl, HS.out⟩)
    | false =>
      rw [if_neg (by decide)] at HR3
      have HFa := Lib.hid (fail_I ((oT (p := p) (ck := ck) (an := an) (q := olObj) (w0 := w3) (by omega) ox_ol).rd x3) 2 (by decide) (oi_refl HI3.out))
      go_wp2_with fail
      refine HFa.out.mono ?_
      rintro e w4 ⟨rfl, hF⟩
      exact ⟨rfl, poq_up HT3.out (.inr ⟨HR3.out.symm, 2, rfl, hF⟩)⟩
  | false =>
    rw [if_neg (by rw [hn]; decide)] at HR
    have HR2 : Hid (((partO S a x).bind fun r => if r.2.2 = true then some (r.1, { r.2.1 with en := true }) else none) = R) := Lib.hid HR.out
    have HB2 := HB1
    have HI2 := HI1
    have HT2 := HT1
    clear hn HR HB1 HI1 HT1
    have hp := part_O (p := p) (a := a) (x := x) HOk.out HI2.out
    unfold rV at hp
    have HP := Lib.hid hp
    clear hp
    go_wp2_with fail
    refine HP.out.mono ?_
    rintro e w3 (⟨a3, x3, bb, hr, rfl, h3⟩ | ⟨hr, k, rfl, hF⟩)
    case inr => exact ⟨rfl, poq_up HT2.out (.inr ⟨by rw [← HR2.out, hr]; rfl, k, rfl, hF⟩)⟩
    rw [hr] at HR2
    have HR3 : Hid ((if bb = true then some (a3, { x3 with en := true }) else none) = R) := Lib.hid HR2.out
    have HB3 := Lib.hid (ob_tch HB2.out h3.2)
    have HI3 := Lib.hid h3.1
    have HT3 := Lib.hid (HT2.out.trans h3.2)
    obtain ⟨b0, b1, hgl3⟩ := ob_cells HB3.out
    clear hr h3 HR2 HP HB2 HI2 HT2
    cases bb with
    | true =>
      rw [if_pos rfl] at HR3
      obtain ⟨_, _, _, _, _, _, pf3, ppl, _, _, _, _⟩ := bk_cells HI3.out
      have hset := HI3.out.seten
      have HS := Lib.hid (show OI base L p o ck an g S olObj w3 { x3 with en := true } a3 (w3.setCell ⟨p, 3, none⟩ (.bool true)) from hset)
      clear hset
      go_wp2
      go_end0
      exact poq_up HT3.out (.inl ⟨a3, _, HR3.out.symm, rfl, HS.out⟩)
    | false =>
      rw [if_neg (by decide)] at HR3
      have HFa := Lib.hid (fail_I ((oT (p := p) (ck := ck) (an := an) (q := olObj) (w0 := w3) (by omega) ox_ol).rd x3) 2 (by decide) (oi_refl HI3.out))
      go_wp2_with fail
      refine HFa.out.mono ?_
      rintro e w4 ⟨rfl, hF⟩
      exact ⟨rfl, poq_up HT3.out (.inr ⟨HR3.out.symm, 2, rfl, hF⟩)⟩
set_option maxHeartbeats 8000000 in
theorem first_O (hok : lenO x + 1 + 2 * (S.length - a) ≤ 900000) (hbn : x.bk.length ≤ 900) (h : OlI base L p o ck an g S x a w) :
    Calls Tryz.prog 178 #[rV L p] w (Pq (OI base L p o ck an g S olObj w) (OF base L p o ck an g S olObj w) (firstO S a x)) := by
  obtain ⟨b, W, hg, hW, hB, hlt, hi, hT⟩ := rboxO (q := olObj) h
  have hmf : ∀ (fn : Fn) (first cap : Array Value) (w : World), (Instr.makeFunc fn first cap).run Tryz.prog w = .ok (.func fn first cap) w := fun _ _ _ _ => rfl
  have HU := Lib.hid hT
  have HB := Lib.hid hB
  obtain ⟨R, hR⟩ : ∃ R, firstO S a x = R := ⟨_, rfl⟩
  rw [hR]
  unfold firstO at hR
  have HR := Lib.hid hR
  have h160 := hi.s9
  have hal0 := hi.al
  have HOk := Lib.hid (And.intro hok hbn)
  have hF := fits_O (p := p) (W := W) 183 (fun args w => enters_of Tryz.func183 (by kernel_rfl) rfl args w) (dashO S a) (oi_refl hi) (fun w1 hl _ => dash_any (p := p) hl (by omega) hal0)
  unfold rV at hF
  have HF := Lib.hid hF
  obtain ⟨b0, b1, _⟩ := ob_cells hB
  unfold rV
  clear h hT hB hi hR hok hbn hF
  go_enter Tryz.func178, Tryz.ntmps178
  go_wp2_with fail
  refine HF.out.mono ?_
  rintro e w1 ⟨rfl, h1⟩
  have HB1 := Lib.hid (ob_tch HB.out h1.2)
  have HI1 := Lib.hid h1.1
  have HT1 := Lib.hid (HU.out.trans h1.2)
  obtain ⟨b0, b1, hgl1⟩ := ob_cells HB1.out
  clear h1 HF HB hlt
  cases hd : (dashO S a).isSome with
  | true =>
    rw [if_pos hd] at HR
    have hE := begin_O (p := p) 5 (.inl rfl) HOk.out.1 HOk.out.2 HI1.out
    rw [HR.out] at hE
    unfold rV at hE
    have HE := Lib.hid hE
    have HT3 := HT1
    clear hE hd HR
    go_wp2_with fail
    refine HE.out.mono ?_
    intro e w4 hp
    rcases poq_up HT3.out hp with ⟨a3, x3, hr, rfl, h3⟩ | ⟨hr, k, rfl, hF⟩
    case inr => exact ⟨rfl, .inr ⟨hr, k, rfl, hF⟩⟩
    have H3 := Lib.hid (And.intro hr h3)
    clear hr h3 HE hp
    go_wp2
    go_end0
    exact .inl ⟨a3, x3, H3.out.1, rfl, H3.out.2⟩
  | false =>
    rw [if_neg (by rw [hd]; decide)] at HR
    have hF := fits_O (p := p) (W := w1) 185 (fun args w => enters_of Tryz.func185 (by kernel_rfl) rfl args w) (kcO S a) (oi_refl HI1.out) (fun w1 hl hfl => kc_any (p := p) hl (by omega) hal0 hfl)
    unfold rV at hF
    have HF := Lib.hid hF
    clear hd hF
    go_wp2_with fail
    refine HF.out.mono ?_
    rintro e w2 ⟨rfl, h2⟩
    have HB2 := Lib.hid (ob_tch HB1.out h2.2)
    have HI2 := Lib.hid h2.1
    have HT3 := Lib.hid (HT1.out.trans h2.2)
    obtain ⟨b0, b1, hgl2⟩ := ob_cells HB2.out
    clear h2 HF HB1 HI1 HT1 hgl1
    cases hd : (kcO S a).isSome with
    | true =>
      rw [if_pos hd] at HR
      have hE := begin_O (p := p) 7 (.inr rfl) HOk.out.1 HOk.out.2 HI2.out
      rw [HR.out] at hE
      unfold rV at hE
      have HE := Lib.hid hE
      clear hE hd HR
      go_wp2_with fail
      refine HE.out.mono ?_
      intro e w4 hp
      rcases poq_up HT3.out hp with ⟨a3, x3, hr, rfl, h3⟩ | ⟨hr, k, rfl, hF⟩
      case inr => exact ⟨rfl, .inr ⟨hr, k, rfl, hF⟩⟩
      have H3 := Lib.hid (And.intro hr h3)
      clear hr h3 HE hp
      go_wp2
      go_end0
      exact .inl ⟨a3, x3, H3.out.1, rfl, H3.out.2⟩
    | false =>
      rw [if_neg (by rw [hd]; decide)] at HR
      have hE := text_O (p := p) (a := a) (x := x) (by have := HOk.out.1; unfold OkL; show lenO x + _ ≤ _; omega) HI2.out
      rw [HR.out] at hE
      unfold rV at hE
      have HE := Lib.hid hE
      clear hE hd HR
      go_wp2_with fail
      refine HE.out.mono ?_
      intro e w4 hp
      rcases poq_up HT3.out hp with ⟨a3, x3, hr, rfl, h3⟩ | ⟨hr, k, rfl, hF⟩
      case inr => exact ⟨rfl, .inr ⟨hr, k, rfl, hF⟩⟩
      have H3 := Lib.hid (And.intro hr h3)
      clear hr h3 HE hp
      go_wp2
      go_end0
      exact .inl ⟨a3, x3, H3.out.1, rfl, H3.out.2⟩
end
end Go.Proofs.YtalkjgijmceifaaGreatDoor
namespace Go.Proofs.YtalkjgijmceifaaGreatDoor
open Go.RowKit Go.Maps
set_option maxRecDepth 100000
set_option linter.unusedSimpArgs false
set_option linter.unusedVariables false
set_option linter.unusedSectionVars false
set_option linter.unusedSectionVars false
variable [Tab] [Fo]

section
variable {base L p o ck an g : Nat} {S : List UInt8} {x : Ox} {a : Nat} {w w' w0 w1 W : World} {q : Obj → Prop}
theorem indent_any (w : World) (p : Nat) (A : Option Addr) (n cap : Nat) (c1 : w.cell? ⟨p, 1, none⟩ = some (.slice A n cap)) (hn : n ≤ 1000) (d : Int) (hd : 2 * ((n : Int) - 1) = d) :
    Calls Tryz.prog 169 #[.pointer (some ⟨p, 0, none⟩)] w fun e w' => e = .returned (.int .i64 d) ∧ w' = w := by
  obtain ⟨m, hm⟩ : ∃ m : Int, (n : Int) - 1 = m := ⟨_, rfl⟩
  have h1 : -1 ≤ m ∧ m ≤ 1000 := by omega
  rw [hm] at hd
  have h2 : IntKind.i64.wrap d = d := by rw [IntKind.wrap_i64]; omega
  have h3 : IntKind.i64.wrap m = m := by rw [IntKind.wrap_i64]; omega
  go_enter Tryz.func169, Tryz.ntmps169
  go_wp2
  go_ret
  exact ⟨rfl, rfl⟩
theorem shutN_fa (keep : Nat) : ∀ (n : Nat) (x y : Ox), shutN keep n x = some y → lenO y + y.bk.length ≤ lenO x + x.bk.length ∧ y.bk.length ≤ x.bk.length ∧ depO y = depO x ∧ y.en = x.en ∧ (x.bk.length ≤ n → keep ≤ x.bk.length → y.bk.length = keep) ∧ (x.bk.length ≤ keep → y.bk = x.bk)
  | 0, x, y, h => by
    rw [shutN] at h
    cases h
    exact ⟨Nat.le_refl _, Nat.le_refl _, rfl, rfl, fun h1 h2 => by omega, fun _ => rfl⟩
  | n + 1, x, y, h => by
    rw [shutN] at h
    split at h
    · rename_i hk
      cases ht : tellO x (evB (endK x)) with
      | none => rw [ht] at h; cases h
      | some z =>
        rw [ht] at h
        obtain ⟨k1, k2, k3, k4, k5, _⟩ := tellO_len ht
        obtain ⟨j1, j2, j3, j4, j5, j6⟩ := shutN_fa keep n { z with bk := z.bk.dropLast } y h
        have hd : ({ z with bk := z.bk.dropLast } : Ox).bk.length = x.bk.length - 1 := by simp only [List.length_dropLast, k3]
        have hle : lenO { z with bk := z.bk.dropLast } = lenO z := rfl
        have hdp : depO { z with bk := z.bk.dropLast } = depO z + 1 := by
          unfold depO
          simp only [List.length_dropLast]
          rw [k3]
          omega
        have hek : dK (endK x) = -1 := by unfold endK; split <;> rfl
        have k2' : depO z = depO x + dK (endK x) := k2
        refine ⟨by omega, by omega, by rw [j3, hdp, k2', hek]; omega, by rw [j4]; exact k5, fun h1 h2 => j5 (by omega) (by omega), fun h1 => by omega⟩
    · rename_i hk
      cases h
      exact ⟨Nat.le_refl _, Nat.le_refl _, rfl, rfl, fun h1 h2 => by omega, fun _ => rfl⟩
theorem shutO_fa {keep : Nat} {x y : Ox} (h : shutO keep x = some y) : lenO y + y.bk.length ≤ lenO x + x.bk.length + 1 ∧ y.bk.length ≤ x.bk.length ∧ depO y = depO x ∧ y.en = x.en ∧ (keep ≤ x.bk.length → y.bk.length = keep) ∧ (x.bk.length ≤ keep → y.bk = x.bk) := by
  unfold shutO nulO at h
  split at h
  · cases ht : tellO x (evB 1) with
    | none => rw [ht] at h; cases h
    | some z =>
      rw [ht] at h
      obtain ⟨k1, k2, k3, k4, k5, _⟩ := tellO_len ht
      obtain ⟨j1, j2, j3, j4, j5, j6⟩ := shutN_fa keep _ z y (show shutN keep z.bk.length z = some y from h)
      have k2' : depO z = depO x + dK 1 := k2
      rw [show dK 1 = 0 from rfl] at k2'
      exact ⟨by rw [k3] at j1; omega, by rw [k3] at j2; exact j2, by omega, by rw [j4, k5], fun h1 => j5 (Nat.le_refl _) (by rw [k3]; exact h1), fun h1 => by rw [← k3]; exact j6 (by rw [k3]; exact h1)⟩
  · obtain ⟨j1, j2, j3, j4, j5, j6⟩ := shutN_fa keep _ x y (show shutN keep x.bk.length x = some y from h)
    exact ⟨by omega, j2, j3, j4, fun h1 => j5 (Nat.le_refl _) h1, j6⟩
set_option maxHeartbeats 16000000 in
theorem mean_O (i : Nat) (hi16 : i ≤ 160) (hok : lenO x + x.bk.length + 2 + 2 * (S.length - a) ≤ 600000) (hbn : x.bk.length ≤ 800) (h : OlI base L p o ck an g S x a w) :
    Calls Tryz.prog 173 #[rV L p, .int .i64 (i : Int)] w (Pq (OI base L p o ck an g S olObj w) (OF base L p o ck an g S olObj w) (meanO S i a x)) := by
  obtain ⟨b, W, hg, hW, hB, hlt, hi, hT⟩ := rboxO (q := olObj) h
  have HU := Lib.hid hT
  have HB := Lib.hid hB
  obtain ⟨R, hR⟩ : ∃ R, meanO S i a x = R := ⟨_, rfl⟩
  rw [hR]
  unfold meanO at hR
  have HR := Lib.hid hR
  have h160 := hi.s9
  have HOk := Lib.hid (And.intro hok hbn)
  have HI := Lib.hid hi
  obtain ⟨A0, cap0, p1, _, _, _, _, hpl, _, p2, p3, _⟩ := bk_cells hi
  obtain ⟨b0, b1, _⟩ := ob_cells hB
  obtain ⟨n, hn⟩ : ∃ n, x.bk.length = n := ⟨_, rfl⟩
  rw [hn] at p1
  have hn9 : n ≤ 800 := by omega
  obtain ⟨lk, hlk⟩ : ∃ lk, x.lk = lk := ⟨_, rfl⟩
  obtain ⟨en, hen⟩ : ∃ en, x.en = en := ⟨_, rfl⟩
  rw [hlk] at p2
  rw [hen] at p3
  have HLk := Lib.hid hlk
  have HN := Lib.hid hn
  rw [hen, hlk] at HR
  unfold rV
  clear h hT hB hi hR hok hbn hlk hen hn
  go_enter Tryz.func173, Tryz.ntmps173
  cases en with
  | true =>
    rw [if_pos rfl] at HR
    have HR9 : Hid (none = R) := Lib.hid HR.out
    have HFa := Lib.hid (fail_I ((oT (p := p) (ck := ck) (an := an) (q := olObj) (w0 := W) (by omega) ox_ol).rd _) 2 (by decide) (oi_refl HI.out))
    go_wp2_with fail
    refine HFa.out.mono ?_
    rintro e wF ⟨rfl, hF⟩
    exact ⟨rfl, .inr ⟨HR9.out.symm, 2, rfl, of_up HU.out hF⟩⟩
  | false =>
    rw [if_neg (by decide)] at HR
    by_cases h0 : n = 0
    · have hb0 : x.bk = [] := List.length_eq_zero_iff.1 (HN.out.trans h0)
      rw [if_pos hb0] at HR
      subst h0
      by_cases hi0 : 0 < i
      · rw [if_pos hi0] at HR
        have HR9 : Hid (none = R) := Lib.hid HR.out
        clear hb0
        have HFa := Lib.hid (fail_I ((oT (p := p) (ck := ck) (an := an) (q := olObj) (w0 := W) (by omega) ox_ol).rd _) 10 (by decide) (oi_refl HI.out))
        go_wp2_with fail
        refine HFa.out.mono ?_
        rintro e wF ⟨rfl, hF⟩
        exact ⟨rfl, .inr ⟨HR9.out.symm, 10, rfl, of_up HU.out hF⟩⟩
      · rw [if_neg hi0] at HR
        have hE := first_O (p := p) (x := x) (a := a) (by have := HOk.out.1; omega) (by have := HOk.out.2; omega) HI.out
        rw [HR.out] at hE
        unfold rV at hE
        have HE := Lib.hid hE
        have hi0' : i = 0 := by omega
        subst hi0'
        clear hE hb0 HR hi0
        go_wp2_with fail
        refine HE.out.mono ?_
        intro e w9 hp
        rcases poq_up HU.out (hp) with ⟨a3, x3, hr, rfl, h3⟩ | ⟨hr, k, rfl, hF⟩
        case inr => exact ⟨rfl, .inr ⟨hr, k, rfl, hF⟩⟩
        have H3 := Lib.hid (And.intro hr h3)
        clear hr h3 HE hp
        go_wp2
        go_end0
        exact .inl ⟨a3, x3, H3.out.1, rfl, H3.out.2⟩
    · have hb0 : ¬ x.bk = [] := fun e => h0 (by rw [← HN.out, e]; rfl)
      rw [if_neg hb0] at HR
      have hnb : ((n : Int) == 0) = false := by rw [beq_eq_false_iff_ne]; omega
      obtain ⟨d, hd⟩ : ∃ d : Int, 2 * ((n : Int) - 1) = d := ⟨_, rfl⟩
      have hdx : indO x = d := by unfold indO; rw [HN.out]; exact hd
      rw [hdx] at HR
      have HIn := Lib.hid (indent_any W p A0 n cap0 p1 (by omega) d hd)
      have HD := Lib.hid hd
      have hd9 : 0 ≤ d ∧ d ≤ 2000 := by omega
      clear hb0 hdx hd
      go_wp2_with fail
      refine HIn.out.mono ?_
      rintro e w1 ⟨rfl, rfl⟩
      by_cases hgt : d < (i : Int)
      · rw [if_pos hgt] at HR
        cases lk with
        | true =>
          by_cases hie : (i : Int) = d + 2
          · rw [if_pos ⟨rfl, hie⟩] at HR
            have hE := fob_O (p := p) (x := x) (a := a) (by have := HOk.out.1; omega) (by have := HOk.out.2; omega) HI.out
            rw [HR.out] at hE
            unfold rV at hE
            have HE := Lib.hid hE
            have hbq : ((i : Int) == d + 2) = true := by simpa using hie
            clear hE HR
            go_wp2_with fail
            refine HIn.out.mono ?_
            rintro e w2 ⟨rfl, hw2⟩
            subst hw2
            go_wp2_with fail
            refine HE.out.mono ?_
            intro e w9 hp
            rcases poq_up HU.out (hp) with ⟨a3, x3, hr, rfl, h3⟩ | ⟨hr, k, rfl, hF⟩
            case inr => exact ⟨rfl, .inr ⟨hr, k, rfl, hF⟩⟩
            have H3 := Lib.hid (And.intro hr h3)
            clear hr h3 HE hp
            go_wp2
            go_end0
            exact .inl ⟨a3, x3, H3.out.1, rfl, H3.out.2⟩
          · rw [if_neg (fun hc => hie hc.2)] at HR
            have HR9 : Hid (none = R) := Lib.hid HR.out
            have hbq : ((i : Int) == d + 2) = false := by rw [beq_eq_false_iff_ne]; exact hie
            clear HR
            go_wp2_with fail
            refine HIn.out.mono ?_
            rintro e w2 ⟨rfl, hw2⟩
            subst hw2
            have HFa := Lib.hid (fail_I ((oT (p := p) (ck := ck) (an := an) (q := olObj) (w0 := w2) (by omega) ox_ol).rd _) 10 (by decide) (oi_refl HI.out))
            go_wp2_with fail
            refine HFa.out.mono ?_
            rintro e wF ⟨rfl, hF⟩
            exact ⟨rfl, .inr ⟨HR9.out.symm, 10, rfl, of_up HU.out hF⟩⟩
        | false =>
          rw [if_neg (fun hc => by cases hc.1)] at HR
          have HR9 : Hid (none = R) := Lib.hid HR.out
          clear HR
          have HFa := Lib.hid (fail_I ((oT (p := p) (ck := ck) (an := an) (q := olObj) (w0 := w1) (by omega) ox_ol).rd _) 10 (by decide) (oi_refl HI.out))
          go_wp2_with fail
          refine HFa.out.mono ?_
          rintro e wF ⟨rfl, hF⟩
          exact ⟨rfl, .inr ⟨HR9.out.symm, 10, rfl, of_up HU.out hF⟩⟩
      · rw [if_neg hgt] at HR
        have hlx : x.l.length ≤ 700000 := by have h1 := HOk.out.1; have h2 : x.l.length ≤ lenO x := Nat.le_add_right _ _; omega
        have hS := shut_O (p := p) (a := a) (i / 2 + 1) HI.out hlx (by omega)
        rw [show (((i / 2 + 1 : Nat)) : Int) = (i : Int) / 2 + 1 by omega] at hS
        unfold rV at hS
        have HS := Lib.hid hS
        have HN9 := Lib.hid hnb
        have hn0 : 0 < n := by omega
        clear hS hlx hnb
        go_wp2_with fail
        refine HS.out.mono ?_
        intro e w2 hp
        rcases hp with ⟨y, hr, rfl, h2⟩ | ⟨hr, k, rfl, hF⟩
        case inr => exact ⟨rfl, .inr ⟨by rw [← HR.out, hr]; rfl, k, rfl, of_up HU.out hF⟩⟩
        obtain ⟨f1, f2, _, _, f5, f6⟩ := shutO_fa hr
        rw [hr] at HR
        have HR2 : Hid ((if (i : Int) = indO y then entryO S a y else none) = R) := Lib.hid HR.out
        have hy0 : 0 < y.bk.length := by
          rcases Nat.le_total (i / 2 + 1) x.bk.length with hle | hle
          · rw [f5 hle]; omega
          · rw [f6 hle, HN.out]; exact hn0
        have hyn : y.bk.length ≤ 800 := by have := HN.out; omega
        have hyl : OkL olM S a y := by have := HOk.out.1; unfold OkL; show lenO y + _ ≤ _; omega
        have HI2 := Lib.hid h2.1
        have HT2 := Lib.hid (HU.out.trans h2.2)
        have HB2 := Lib.hid (ob_tch HB.out h2.2)
        obtain ⟨A2, cap2, q1, _, _, _, _, hpl2, _⟩ := bk_cells h2.1
        obtain ⟨b0, b1, hgl2⟩ := ob_cells HB2.out
        obtain ⟨d2, hd2⟩ : ∃ d2, indO y = d2 := ⟨_, rfl⟩
        rw [hd2] at HR2
        have HIn2 := Lib.hid (indent_any w2 p A2 y.bk.length cap2 q1 (by omega) d2 (by rw [← hd2]; rfl))
        have HY := Lib.hid (And.intro hy0 hyl)
        clear hr h2 HR HS f1 f2 f5 f6 hy0 hyl hd2 p1 p2 p3 HIn
        by_cases hie : (i : Int) = d2
        · rw [if_pos hie] at HR2
          have hE := entry_O (p := p) (a := a) (x := y) HY.out.2 HY.out.1 HI2.out
          rw [HR2.out] at hE
          unfold rV at hE
          have HE := Lib.hid hE
          have hbq : ((i : Int) == d2) = true := by simpa using hie
          clear hE HR2 hie
          go_wp2_with fail
          refine HIn2.out.mono ?_
          rintro e w3 ⟨rfl, hw3⟩
          subst hw3
          go_wp2_with fail
          refine HE.out.mono ?_
          intro e w9 hp
          rcases poq_up HT2.out hp with ⟨a3, x3, hr, rfl, h3⟩ | ⟨hr, k, rfl, hF⟩
          case inr => exact ⟨rfl, .inr ⟨hr, k, rfl, hF⟩⟩
          have H3 := Lib.hid (And.intro hr h3)
          clear hr h3 HE hp
          go_wp2
          go_end0
          exact .inl ⟨a3, x3, H3.out.1, rfl, H3.out.2⟩
        · rw [if_neg hie] at HR2
          have HR9 : Hid (none = R) := Lib.hid HR2.out
          have hbq : ((i : Int) == d2) = false := by rw [beq_eq_false_iff_ne]; exact hie
          clear HR2 hie
          go_wp2_with fail
          refine HIn2.out.mono ?_
          rintro e w3 ⟨rfl, hw3⟩
          subst hw3
          have HFa := Lib.hid (fail_I ((oT (p := p) (ck := ck) (an := an) (q := olObj) (w0 := w3) (by omega) ox_ol).rd _) 10 (by decide) (oi_refl HI2.out))
          go_wp2_with fail
          refine HFa.out.mono ?_
          rintro e wF ⟨rfl, hF⟩
          exact ⟨rfl, .inr ⟨HR9.out.symm, 10, rfl, of_up HT2.out hF⟩⟩
end
end Go.Proofs.YtalkjgijmceifaaGreatDoor
namespace Go.Proofs.YtalkjgijmceifaaGreatDoor
open Go.RowKit Go.Maps
set_option maxRecDepth 100000
set_option linter.unusedSimpArgs false
set_option linter.unusedVariables false
set_option linter.unusedSectionVars false
set_option linter.unusedSectionVars false
variable [Tab] [Fo]

section
variable {base L p o ck an g : Nat} {S : List UInt8} {x : Ox} {a : Nat} {w w' w0 w1 W : World} {q : Obj → Prop}
/-- How the parsing of a line ends. -/
def PLo (I : Ox → Nat → World → Prop) (F : Int → World → Prop) (r : Option Ox) (e : Ending) (w' : World) : Prop :=
  (∃ y a, r = some y ∧ e = .returned (.tuple #[]) ∧ I y a w') ∨ (r = none ∧ ∃ k, e = .panicked (failP k) ∧ F k w')
set_option maxHeartbeats 4000000 in
theorem parse_O (hok : lenO x + x.bk.length + 2 + 2 * S.length ≤ 600000) (hbn : x.bk.length ≤ 800) (h : OlI base L p o ck an g S x 0 w) :
    Calls Tryz.prog 168 #[.pointer (some ⟨p, 0, none⟩), .pointer (some ⟨L, 0, none⟩)] w (PLo (OI base L p o ck an g S olObj w) (OF base L p o ck an g S olObj w) (lineO S x)) := by
  obtain ⟨R, hR⟩ : ∃ R, lineO S x = R := ⟨_, rfl⟩
  rw [hR]
  unfold lineO at hR
  have HR := Lib.hid hR
  have h160 := h.s9
  have HOk := Lib.hid (And.intro hok hbn)
  have HC := Lib.hid (comment_I ((oT (p := p) (ck := ck) (an := an) (q := olObj) (w0 := w) (by omega) ox_ol).rd x) (oi_refl h))
  clear h hR hok hbn
  go_enter Tryz.func168, Tryz.ntmps168
  go_wp2_with fail
  refine HC.out.mono ?_
  rintro e w1 ⟨rfl, h1⟩
  have HI1 := Lib.hid h1.1
  have HT1 := Lib.hid h1.2
  have hal := h1.1.al
  obtain ⟨i, hi⟩ : ∃ i, blk S 0 = i := ⟨_, rfl⟩
  rw [hi] at HI1 HR hal
  have l1 : w1.cell? ⟨L, 1, none⟩ = some (.int .i64 (i : Int)) := Blk.cell HI1.out.ln 1
  clear h1 HC hi
  cases hc : cmB S 0 with
  | true =>
    rw [if_pos hc] at HR
    have HR2 : Hid (some x = R) := Lib.hid HR.out
    clear hc HR
    go_wp2
    go_end0
    exact .inl ⟨x, i, HR2.out.symm, rfl, HI1.out, HT1.out⟩
  | false =>
    rw [if_neg (by rw [hc]; decide)] at HR
    have hM := mean_O (p := p) (a := i) (x := x) i (by omega) (by have := HOk.out.1; omega) HOk.out.2 HI1.out
    unfold rV at hM
    have HM := Lib.hid hM
    clear hc hM
    go_wp2_with fail
    refine HM.out.mono ?_
    intro e w2 hp
    rcases poq_up HT1.out hp with ⟨a3, x3, hr, rfl, h3⟩ | ⟨hr, k, rfl, hF⟩
    case inr => exact ⟨rfl, .inr ⟨by rw [← HR.out, hr]; rfl, k, rfl, hF⟩⟩
    have H3 : Hid (R = some x3 ∧ OI base L p o ck an g S olObj w x3 a3 w2) := Lib.hid ⟨by rw [← HR.out, hr]; rfl, h3⟩
    clear hr h3 HM hp HR
    go_wp2
    go_end0
    exact .inl ⟨x3, a3, H3.out.1, rfl, H3.out.2⟩
set_option maxHeartbeats 4000000 in
theorem fin_O (hl : x.l.length ≤ 600000) (h : OlI base L p o ck an g S x a w) :
    Calls Tryz.prog 167 #[.pointer (some ⟨p, 0, none⟩), .pointer (some ⟨L, 0, none⟩)] w (PLo (OI base L p o ck an g S olObj w) (OF base L p o ck an g S olObj w) (finO x)) := by
  obtain ⟨R, hR⟩ : ∃ R, finO x = R := ⟨_, rfl⟩
  rw [hR]
  unfold finO at hR
  have HR := Lib.hid hR
  have h160 := h.s9
  have HI := Lib.hid h
  have HL := Lib.hid hl
  obtain ⟨A0, cap0, p1, _, _, _, _, hpl, _, p2, p3, _⟩ := bk_cells h
  obtain ⟨n, hn⟩ : ∃ n, x.bk.length = n := ⟨_, rfl⟩
  rw [hn] at p1
  have hn9 : n ≤ 1000 := by have := h.bn; omega
  obtain ⟨en, hen⟩ : ∃ en, x.en = en := ⟨_, rfl⟩
  rw [hen] at p3 HR
  have HN := Lib.hid hn
  clear h hR hl hen hn
  go_enter Tryz.func167, Tryz.ntmps167
  cases en with
  | true =>
    rw [if_pos rfl] at HR
    have HR2 : Hid (some x = R) := Lib.hid HR.out
    clear HR
    go_wp2
    go_end0
    exact .inl ⟨x, a, HR2.out.symm, rfl, HI.out, Tch.refl _ _ _⟩
  | false =>
    rw [if_neg (by decide)] at HR
    by_cases h0 : n = 0
    · have hb0 : x.bk = [] := List.length_eq_zero_iff.1 (HN.out.trans h0)
      rw [if_pos hb0] at HR
      subst h0
      have HFa := Lib.hid (fail_I ((oT (p := p) (ck := ck) (an := an) (q := olObj) (w0 := w) (by omega) ox_ol).rd x) 2 (by decide) (oi_refl HI.out))
      clear hb0
      go_wp2_with fail
      refine HFa.out.mono ?_
      rintro e wF ⟨rfl, hF⟩
      exact ⟨rfl, .inr ⟨HR.out.symm, 2, rfl, hF⟩⟩
    · have hb0 : ¬ x.bk = [] := fun e => h0 (by rw [← HN.out, e]; rfl)
      rw [if_neg hb0] at HR
      have hnb : ((n : Int) == 0) = false := by rw [beq_eq_false_iff_ne]; omega
      have hS := shut_O (p := p) (a := a) 0 HI.out (by have := HL.out; omega) (by omega)
      rw [HR.out] at hS
      unfold rV at hS
      have HS : Hid (Calls Tryz.prog 171 #[.agg #[.pointer (some ⟨L, 0, none⟩), .pointer (some ⟨p, 0, none⟩)], .int .i64 0] w (PoO (OI base L p o ck an g S olObj w) (OF base L p o ck an g S olObj w) a R)) := Lib.hid hS
      clear hb0 hS HR
      go_wp2_with fail
      refine HS.out.mono ?_
      intro e w2 hp
      rcases hp with ⟨y, hr, rfl, h2⟩ | ⟨hr, k, rfl, hF⟩
      case inr => exact ⟨rfl, .inr ⟨hr, k, rfl, hF⟩⟩
      have H3 := Lib.hid (And.intro hr h2)
      clear hr h2 HS
      go_wp2
      go_end0
      exact .inl ⟨y, a, H3.out.1, rfl, H3.out.2⟩
end
end Go.Proofs.YtalkjgijmceifaaGreatDoor

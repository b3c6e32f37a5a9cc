/-
  angle: endEmpty, content, endTag.
  angle: endTag.
-/
import Derived.Test.YtjepnddndpmnnaaGreatDoorGwA27
import Derived.Laws.StructEq
namespace Go.Proofs.YtjepnddndpmnnaaGreatDoor
open Go.RowKit Go.Maps
set_option maxRecDepth 100000
set_option linter.unusedSimpArgs false
set_option linter.unusedVariables false
set_option linter.unusedSectionVars false
set_option linter.unusedSectionVars false
variable [Tab] [Fo]

/-! Names compared. -/
theorem naF : (Tryz.prog.fieldsOf 65).map (fun f => (f.name, f.type, f.offset)) = #[("prefix", 9, 0), ("local", 9, 1)] := by kernel_rfl
theorem naU : Tryz.prog.underlying 65 = some (.struct (Tryz.prog.fieldsOf 65)) := by kernel_rfl
theorem naH : Tryz.prog.stoodInHeld 65 = false := by kernel_rfl
theorem naG : Tryz.prog.eqGuardType Tryz.prog.depth 65 = false := by kernel_rfl
theorem na_fields : ∃ f1 f2 : Field, (Tryz.prog.fieldsOf 65).toList = [f1, f2] ∧ f1.name = "prefix" ∧ f1.type = 9 ∧ f1.offset = 0 ∧ f2.name = "local" ∧ f2.type = 9 ∧ f2.offset = 1 := by
  have h := congrArg Array.toList naF
  rw [Array.toList_map] at h
  generalize (Tryz.prog.fieldsOf 65).toList = l at h ⊢
  rcases l with _ | ⟨f1, _ | ⟨f2, _ | ⟨f3, r⟩⟩⟩ <;> simp at h
  exact ⟨f1, f2, rfl, h.1.1, h.1.2.1, h.1.2.2, h.2.1, h.2.2.1, h.2.2.2⟩
theorem na_equal (w : World) (a b c d : ByteArray) (k : Nat) : (Op.equalIn (k + 2) 65 (.agg #[.string a, .string b]) (.agg #[.string c, .string d])).run Tryz.prog w = .ok ((a.toList == c.toList) && (b.toList == d.toList)) w := by
  obtain ⟨f1, f2, hF, h1, h2, h3, h4, h5, h6⟩ := na_fields
  rw [run_equalIn_agg w _ _ _ _ naU naH, hF]
  have hU : Tryz.prog.underlying 9 = some .string := Tryz.underlying9
  have hp : ∀ (xs : Array Value) (i : Nat), (part 9 xs i).run Tryz.prog w = (match xs[i]? with | some v => .ok v w | none => (part 9 xs i).run Tryz.prog w) := by
    intro xs i
    cases hx : xs[i]? with
    | none => rfl
    | some v => simp only; go_simp
  simp [Op.eqFields, h1, h2, h3, h4, h5, h6, hp, run_equalIn_string, hU]
  by_cases e1 : a.toList = c.toList
  · rw [if_pos e1]
    by_cases e2 : b.toList = d.toList
    · rw [if_pos e2, e1, e2]; simp
    · rw [if_neg e2, e1]; simp [e2]
  · rw [if_neg e1]; simp [e1]
theorem sv_toList (a : List UInt8) : (⟨a.toArray⟩ : ByteArray).toList = a := by rw [Lib.toList_data]
theorem na_eq (w : World) (x y : Na) : (Op.equalIn 10000 65 (.agg #[.string ⟨x.p.toArray⟩, .string ⟨x.l.toArray⟩]) (.agg #[.string ⟨y.p.toArray⟩, .string ⟨y.l.toArray⟩])).run Tryz.prog w = .ok (decide (x = y)) w := by
  have h := na_equal w ⟨x.p.toArray⟩ ⟨x.l.toArray⟩ ⟨y.p.toArray⟩ ⟨y.l.toArray⟩ 9998
  rw [h]
  simp only [sv_toList]
  congr 1
  obtain ⟨a, b⟩ := x
  obtain ⟨c, d⟩ := y
  simp only [Na.mk.injEq]
  by_cases e1 : a = c <;> by_cases e2 : b = d <;> simp [e1, e2]
theorem na_guard (op : BinOp) (x y : Operand) (xs ys : Array Value) (w : World) : (eqGuard op 65 x y (.agg xs) (.agg ys)).run Tryz.prog w = .ok () w := run_eqGuard_agg w op _ x y xs ys naG

section
variable {w w' : World} {base m o ck e mb g : Nat} {s : As} {M M' : Ag} {av ov : Value}
/-- What holds of the machine ahead of an end of an element. -/
structure EPre (s : As) : Prop where
  op : s.m.op ≠ []
  ol : s.m.op.length ≤ 1000000
  good : Good s.st
  ln : s.l.length ≤ 1000000

theorem aendempty_any (b : UInt8) (h : AX w base m o ck e mb g s) (hp : EPre s) :
    Calls Tryz.prog 147 #[.pointer (some ⟨m, 0, none⟩), .int .u8 (b.toNat : Int), .pointer (some ⟨o, 0, none⟩)] w (APo w base m o ck e mb g (endEmptyA s b)) := by
  have hC := Lib.hid (aendelem_any h hp.op hp.ol hp.good hp.ln)
  unfold endEmptyA
  by_cases hb : b.toNat ≠ 62
  · rw [if_pos hb]
    have z : ((b.toNat : Int) != 62) = true := by rw [bne_iff_ne]; omega
    have HF := Lib.hid (APo.of h (Tch.refl _ _ _) 2)
    clear h hp hb hC
    go_enter Tryz.func147, Tryz.ntmps147
    go_wp2
    go_ret
    exact HF.out
  · rw [if_neg hb]
    have z : ((b.toNat : Int) != 62) = false := by rw [bne_eq_false_iff_eq]; omega
    obtain ⟨R, hR⟩ : ∃ R, endElemA s = R := ⟨_, rfl⟩
    rw [hR] at hC ⊢
    clear h hp hb hR
    go_enter Tryz.func147, Tryz.ntmps147
    go_wp2_with fail
    refine hC.out.mono ?_
    intro E w3 hq
    have HF := Lib.hid hq
    have hE := hq.1
    clear hq
    subst hE
    go_wp2
    go_ret
    exact HF.out

set_option maxHeartbeats 4000000 in
theorem acontent_any (b : UInt8) (h : AX w base m o ck e mb g s) (hok : AgOk s.m) (hg : Good s.st) (hle : s.l.length ≤ 1000000) :
    Calls Tryz.prog 148 #[.pointer (some ⟨m, 0, none⟩), .int .u8 (b.toNat : Int), .pointer (some ⟨o, 0, none⟩)] w (APo w base m o ck e mb g (contentA s b)) := by
  have c0 := h.at0
  have f0 := h.frz 0
  have hlt := h.lt
  have hE := Lib.hid (aended_any b 60 h)
  unfold contentA
  cases hz : endedA s.m b 60 with
  | false =>
    rw [if_pos rfl]
    rw [hz] at hE
    have hA := Lib.hid (aadd_any b h hok)
    obtain ⟨R, hR⟩ : ∃ R, s.mr (addR s.m b) = R := ⟨_, rfl⟩
    rw [hR] at hA ⊢
    clear h hok hz hR
    go_enter Tryz.func148, Tryz.ntmps148
    go_wp2_with fail
    refine hE.out.mono ?_
    rintro E w ⟨rfl, rfl⟩
    go_wp2_with fail
    refine hA.out.mono ?_
    intro E w3 hq
    have HF := Lib.hid hq
    have hE := hq.1
    clear hq
    subst hE
    go_wp2
    go_ret
    exact HF.out
  | true =>
    rw [if_neg (by decide)]
    rw [hz] at hE
    have h1 := h.setAt 1
    have hT : Hid (Calls Tryz.prog 156 #[.pointer (some ⟨m, 5, none⟩)] (w.setCell ⟨m, 0, none⟩ (.int .i64 1)) fun E w' => E = .returned (.string ⟨s.m.rt.toArray⟩) ∧ AX w' base m o ck e mb g { s with m := { s.m with a := 1, rt := [] } } ∧ Tch base axO (w.setCell ⟨m, 0, none⟩ (.int .i64 1)) w') := Lib.hid (atake_any h1.1)
    have HT1 := Lib.hid h1.2
    have hrt := hok.rt
    by_cases hr : s.m.rt = []
    · rw [if_pos hr]
      have HR := Lib.hid hr
      clear h hz h1 hok hr
      go_enter Tryz.func148, Tryz.ntmps148
      go_wp2_with fail
      refine hE.out.mono ?_
      rintro E w ⟨rfl, rfl⟩
      go_wp2_with fail
      refine hT.out.mono ?_
      rintro E w2 ⟨rfl, h2, t2⟩
      have e1 : (⟨s.m.rt.toArray⟩ : ByteArray) = ⟨#[]⟩ := by rw [HR.out]
      rw [e1]
      have e2 : ({ s with m := { s.m with a := 1, rt := [] } } : As) = setAt s 1 := by
        have := HR.out
        obtain ⟨⟨⟩, _, _⟩ := s
        simp only [setAt] at this ⊢
        subst this
        rfl
      have HF : Hid (APo w base m o ck e mb g ⟨setAt s 1, 0⟩ (.returned (.int .i64 0)) w2) := Lib.hid ⟨rfl, by rw [← e2]; exact h2, HT1.out.trans t2⟩
      clear h2 t2 e1 e2
      go_wp2
      go_ret
      exact HF.out
    · rw [if_neg hr]
      have hz2 := strEmp hr
      have hz3 : s.m.rt.isEmpty = false := by cases hq : s.m.rt with | nil => exact absurd hq hr | cons _ _ => rfl
      clear h hz h1 hok hr
      go_enter Tryz.func148, Tryz.ntmps148
      go_wp2_with fail
      refine hE.out.mono ?_
      rintro E w ⟨rfl, rfl⟩
      go_wp2_with fail
      refine hT.out.mono ?_
      rintro E w2 ⟨rfl, h2, t2⟩
      change AX w2 base m o ck e mb g { s with m := { s.m with a := 1, rt := [] } } at h2
      have hTl := Lib.hid (h2.tell ⟨4, bs s.m.rt, ⟨#[]⟩⟩ hg (by show (4 : Int) ≠ 3; decide) (by show s.m.rt.toArray.size ≤ _; simp; omega) hle)
      have HT2 := Lib.hid (HT1.out.trans t2)
      clear h2 t2
      obtain ⟨k, hk⟩ : ∃ k, stepE s.st ⟨4, bs s.m.rt, ⟨#[]⟩⟩ = k := ⟨_, rfl⟩
      have HK := Lib.hid hk
      clear hk
      go_wp2_with fail
      refine hTl.out.mono ?_
      rintro E w3 ⟨rfl, h3, t3⟩
      have HF : Hid (APo w base m o ck e mb g (tellA { s with m := { s.m with a := 1, rt := [] } } ⟨4, bs s.m.rt, ⟨#[]⟩⟩) (.returned (.int .i64 (stepE s.st ⟨4, bs s.m.rt, ⟨#[]⟩⟩))) w3) := Lib.hid ⟨rfl, h3, HT2.out.trans (t3.wide fun _ h => (.inl h : axO _))⟩
      clear h3 t3
      go_wp2
      go_ret
      exact HF.out

end
end Go.Proofs.YtjepnddndpmnnaaGreatDoor
namespace Go.Proofs.YtjepnddndpmnnaaGreatDoor
open Go.RowKit Go.Maps
set_option maxRecDepth 100000
set_option linter.unusedSimpArgs false
set_option linter.unusedVariables false
set_option linter.unusedSectionVars false
set_option linter.unusedSectionVars false
variable [Tab] [Fo]

section
variable {w w' : World} {base m o ck e mb g : Nat} {s : As} {M M' : Ag} {av ov : Value}
/-- The cells of the last open element. -/
theorem naCells_last (l : List Na) {n : Nat} (hn : l.length = n + 1) : (naCells l)[n * 2]? = some (sv (l.getLastD ⟨[], []⟩).p) ∧ (naCells l)[n * 2 + 1]? = some (sv (l.getLastD ⟨[], []⟩).l) := by
  have hne : l ≠ [] := by intro hc; rw [hc] at hn; cases hn
  have h1 := List.dropLast_concat_getLast hne
  have hl : l.dropLast.length = n := by rw [List.length_dropLast]; omega
  have h2 : l.getLastD ⟨[], []⟩ = l.getLast hne := by rw [List.getLastD_eq_getLast?, List.getLast?_eq_some_getLast hne]; rfl
  have e : naCells l = naCells l.dropLast ++ [sv (l.getLast hne).p, sv (l.getLast hne).l] := by conv => lhs; rw [← h1, naCells_snoc]
  have hc : (naCells l.dropLast).length = n * 2 := by rw [naCells_len, hl]
  rw [h2, e]
  refine ⟨?_, ?_⟩
  · rw [List.getElem?_append_right (by omega), hc]; simp
  · rw [List.getElem?_append_right (by omega), hc]; simp

set_option maxHeartbeats 1000000 in
theorem aendtag_any (b : UInt8) (h : AX w base m o ck e mb g s) (hp : EPre s) :
    Calls Tryz.prog 149 #[.pointer (some ⟨m, 0, none⟩), .int .u8 (b.toNat : Int), .pointer (some ⟨o, 0, none⟩)] w (APo w base m o ck e mb g (endTagA s b)) := by
  unfold endTagA
  by_cases hb : b.toNat ≠ 62
  · rw [if_pos hb]
    have z : ((b.toNat : Int) != 62) = true := by rw [bne_iff_ne]; omega
    have HF := Lib.hid (APo.of h (Tch.refl _ _ _) 2)
    clear h hp hb
    go_enter Tryz.func149, Tryz.ntmps149
    go_wp2
    go_ret
    exact HF.out
  · rw [if_neg hb]
    have z : ((b.toNat : Int) != 62) = false := by rw [bne_eq_false_iff_eq]; omega
    have hol := hp.ol
    obtain ⟨n, hn⟩ : ∃ n, s.m.op.length = n + 1 := ⟨s.m.op.length - 1, by have := List.length_pos_iff.2 hp.op; omega⟩
    obtain ⟨av, ov, hM⟩ := h.mc
    obtain ⟨A, cap, rfl, hcap⟩ := own_shape hM.opn
    have hcm : cap ≤ 9223372036854775807 := by
      rcases hM.opn.2 with ⟨hv, _⟩ | ⟨g', c', cur, hv, _, _, _, hm, _⟩
      · injection hv with _ _ h3; rw [h3]; decide
      · injection hv with _ _ h3; rw [h3]; simpa [maxLen] using hm
    have hA : ∃ r, A = some ⟨r, 0, none⟩ := by
      rcases hM.opn.2 with ⟨hv, h0⟩ | ⟨g', c', cur, hv, _⟩
      · injection hv with _ h2; have e : s.m.op.length = 0 := h2; omega
      · injection hv with h2; exact ⟨g', h2⟩
    obtain ⟨r, rfl⟩ := hA
    have hr1 := rowN_cell (i := n * 2) hM.opn (by omega)
    have hr2 := rowN_cell (i := n * 2 + 1) hM.opn (by omega)
    obtain ⟨hl1, hl2⟩ := naCells_last s.m.op hn
    rw [hl1] at hr1
    rw [hl2] at hr2
    have c18 : w.cell? ⟨m, 18, none⟩ = some (.slice (some ⟨r, 0, none⟩) (n + 1) cap) := by rw [← hn]; exact hM.cells2.2.2.2.2.2.2.2.1
    have c16 : w.cell? ⟨m, 16, none⟩ = some (.string ⟨s.m.en.p.toArray⟩) := hM.cells2.2.2.2.2.2.1
    have c17 : w.cell? ⟨m, 17, none⟩ = some (.string ⟨s.m.en.l.toArray⟩) := hM.cells2.2.2.2.2.2.2.1
    have hlt := h.lt
    rw [hn] at hcap
    obtain ⟨q, hq⟩ : ∃ q, s.m.op.getLastD ⟨[], []⟩ = q := ⟨_, rfl⟩
    rw [hq] at hr1 hr2 ⊢
    have hC := Lib.hid (aendelem_any h.drew hp.op hp.ol hp.good hp.ln)
    have hwd : Hid (Tch base axO w w.drew) := Lib.hid (Tch.refl _ _ _).drew
    have hol2 : n ≤ 1000000 := by omega
    have hgd := fun (x y : Operand) (xs ys : Array Value) => na_guard .neq x y xs ys
    have hne := fun W => na_eq W s.m.en q
    unfold sv at hr1 hr2
    by_cases he : s.m.en ≠ q
    · rw [if_pos he]
      have hne1 : decide (s.m.en = q) = false := decide_eq_false he
      simp only [hne1] at hne
      have hz1 : ((n : Int) + 1 - 1) = (n : Int) := by omega
      have hw1 : IntKind.i64.wrap (n : Int) = (n : Int) := IntWalk.i64_in _ (by omega)
      have HF := Lib.hid (APo.of h.drew (Tch.refl base axO w).drew 18)
      clear h hM hp hb hn hq hl1 hl2 hC he hol
      go_enter Tryz.func149, Tryz.ntmps149
      go_wp2
      refine region_g [] (S := (fun W => W.cell? ⟨m, 18, none⟩ = some (.slice (some ⟨r, 0, none⟩) (n + 1) cap) ∧ W.cell? ⟨m, 16, none⟩ = some (.string ⟨s.m.en.p.toArray⟩) ∧ W.cell? ⟨m, 17, none⟩ = some (.string ⟨s.m.en.l.toArray⟩) ∧ W.cell? ⟨r, n * 2, none⟩ = some (.string ⟨q.p.toArray⟩) ∧ W.cell? ⟨r, n * 2 + 1, none⟩ = some (.string ⟨q.l.toArray⟩))) (by kernel_rfl) ⟨c18, c16, c17, hr1, hr2⟩ (fun hH => ?_)
      refine g_take (i := 0) (v := .pointer (some ⟨m, 0, none⟩)) (by rfl) (by kernel_rfl) (by kernel_rfl) (by kernel_rfl) (by kernel_rfl) (fun _ _ _ h => (by cases h.1)) (Or.inl ⟨by kernel_rfl, fun W hS => (by obtain ⟨s0, s1, s2, s3, s4⟩ := hS; go_simp)⟩) hH ?_
      simp only [Act.put, List.setIfInBounds_toArray, List.set_cons_zero, List.set_cons_succ]
      refine g_take (i := 1) (v := .pointer (some ⟨m, 0, none⟩)) (by rfl) (by kernel_rfl) (by kernel_rfl) (by kernel_rfl) (by kernel_rfl) (fun _ _ _ h => (by cases h.1)) (Or.inl ⟨by kernel_rfl, fun W hS => (by obtain ⟨s0, s1, s2, s3, s4⟩ := hS; go_simp)⟩) hH ?_
      simp only [Act.put, List.setIfInBounds_toArray, List.set_cons_zero, List.set_cons_succ]
      refine g_take (i := 2) (v := .pointer (some ⟨m, 16, none⟩)) (by rfl) (by kernel_rfl) (by kernel_rfl) (by kernel_rfl) (by kernel_rfl) (fun _ _ _ h => (by cases h.1)) (Or.inl ⟨by kernel_rfl, fun W hS => (by obtain ⟨s0, s1, s2, s3, s4⟩ := hS; go_simp)⟩) hH ?_
      simp only [Act.put, List.setIfInBounds_toArray, List.set_cons_zero, List.set_cons_succ]
      refine g_take (i := 3) (v := .agg #[.string ⟨s.m.en.p.toArray⟩, .string ⟨s.m.en.l.toArray⟩]) (by rfl) (by kernel_rfl) (by kernel_rfl) (by kernel_rfl) (by kernel_rfl) (fun _ _ _ h => (by cases h.1)) (Or.inl ⟨by kernel_rfl, fun W hS => (by obtain ⟨s0, s1, s2, s3, s4⟩ := hS; go_simp)⟩) hH ?_
      simp only [Act.put, List.setIfInBounds_toArray, List.set_cons_zero, List.set_cons_succ]
      refine g_take (i := 4) (v := .pointer (some ⟨m, 0, none⟩)) (by rfl) (by kernel_rfl) (by kernel_rfl) (by kernel_rfl) (by kernel_rfl) (fun _ _ _ h => (by cases h.1)) (Or.inl ⟨by kernel_rfl, fun W hS => (by obtain ⟨s0, s1, s2, s3, s4⟩ := hS; go_simp)⟩) hH ?_
      simp only [Act.put, List.setIfInBounds_toArray, List.set_cons_zero, List.set_cons_succ]
      refine g_take (i := 5) (v := .pointer (some ⟨m, 0, none⟩)) (by rfl) (by kernel_rfl) (by kernel_rfl) (by kernel_rfl) (by kernel_rfl) (fun _ _ _ h => (by cases h.1)) (Or.inl ⟨by kernel_rfl, fun W hS => (by obtain ⟨s0, s1, s2, s3, s4⟩ := hS; go_simp)⟩) hH ?_
      simp only [Act.put, List.setIfInBounds_toArray, List.set_cons_zero, List.set_cons_succ]
      refine g_take (i := 6) (v := .pointer (some ⟨m, 18, none⟩)) (by rfl) (by kernel_rfl) (by kernel_rfl) (by kernel_rfl) (by kernel_rfl) (fun _ _ _ h => (by cases h.1)) (Or.inl ⟨by kernel_rfl, fun W hS => (by obtain ⟨s0, s1, s2, s3, s4⟩ := hS; go_simp)⟩) hH ?_
      simp only [Act.put, List.setIfInBounds_toArray, List.set_cons_zero, List.set_cons_succ]
      refine g_take (i := 7) (v := .slice (some ⟨r, 0, none⟩) (n + 1) cap) (by rfl) (by kernel_rfl) (by kernel_rfl) (by kernel_rfl) (by kernel_rfl) (fun _ _ _ h => (by cases h.1)) (Or.inl ⟨by kernel_rfl, fun W hS => (by obtain ⟨s0, s1, s2, s3, s4⟩ := hS; go_simp)⟩) hH ?_
      simp only [Act.put, List.setIfInBounds_toArray, List.set_cons_zero, List.set_cons_succ]
      refine g_take (i := 8) (v := .pointer (some ⟨m, 0, none⟩)) (by rfl) (by kernel_rfl) (by kernel_rfl) (by kernel_rfl) (by kernel_rfl) (fun _ _ _ h => (by cases h.1)) (Or.inl ⟨by kernel_rfl, fun W hS => (by obtain ⟨s0, s1, s2, s3, s4⟩ := hS; go_simp)⟩) hH ?_
      simp only [Act.put, List.setIfInBounds_toArray, List.set_cons_zero, List.set_cons_succ]
      refine g_take (i := 9) (v := .pointer (some ⟨m, 0, none⟩)) (by rfl) (by kernel_rfl) (by kernel_rfl) (by kernel_rfl) (by kernel_rfl) (fun _ _ _ h => (by cases h.1)) (Or.inl ⟨by kernel_rfl, fun W hS => (by obtain ⟨s0, s1, s2, s3, s4⟩ := hS; go_simp)⟩) hH ?_
      simp only [Act.put, List.setIfInBounds_toArray, List.set_cons_zero, List.set_cons_succ]
      refine g_take (i := 10) (v := .pointer (some ⟨m, 18, none⟩)) (by rfl) (by kernel_rfl) (by kernel_rfl) (by kernel_rfl) (by kernel_rfl) (fun _ _ _ h => (by cases h.1)) (Or.inl ⟨by kernel_rfl, fun W hS => (by obtain ⟨s0, s1, s2, s3, s4⟩ := hS; go_simp)⟩) hH ?_
      simp only [Act.put, List.setIfInBounds_toArray, List.set_cons_zero, List.set_cons_succ]
      refine g_take (i := 11) (v := .slice (some ⟨r, 0, none⟩) (n + 1) cap) (by rfl) (by kernel_rfl) (by kernel_rfl) (by kernel_rfl) (by kernel_rfl) (fun _ _ _ h => (by cases h.1)) (Or.inl ⟨by kernel_rfl, fun W hS => (by obtain ⟨s0, s1, s2, s3, s4⟩ := hS; go_simp)⟩) hH ?_
      simp only [Act.put, List.setIfInBounds_toArray, List.set_cons_zero, List.set_cons_succ]
      refine g_take (i := 12) (v := .int .i64 ((n : Int) + 1)) (by rfl) (by kernel_rfl) (by kernel_rfl) (by kernel_rfl) (by kernel_rfl) (fun _ _ _ h => (by cases h.1)) (Or.inl ⟨by kernel_rfl, fun W hS => (by obtain ⟨s0, s1, s2, s3, s4⟩ := hS; go_simp)⟩) hH ?_
      simp only [Act.put, List.setIfInBounds_toArray, List.set_cons_zero, List.set_cons_succ]
      refine g_take (i := 13) (v := .int .i64 (n : Int)) (by rfl) (by kernel_rfl) (by kernel_rfl) (by kernel_rfl) (by kernel_rfl) (fun _ _ _ h => (by cases h.1)) (Or.inl ⟨by kernel_rfl, fun W hS => (by obtain ⟨s0, s1, s2, s3, s4⟩ := hS; go_simp)⟩) hH ?_
      simp only [Act.put, List.setIfInBounds_toArray, List.set_cons_zero, List.set_cons_succ]
      refine g_take (i := 14) (v := .pointer (some ⟨r, n * 2, none⟩)) (by rfl) (by kernel_rfl) (by kernel_rfl) (by kernel_rfl) (by kernel_rfl) (fun _ _ _ h => (by cases h.1)) (Or.inl ⟨by kernel_rfl, fun W hS => (by obtain ⟨s0, s1, s2, s3, s4⟩ := hS; go_simp; intro hc; omega)⟩) hH ?_
      simp only [Act.put, List.setIfInBounds_toArray, List.set_cons_zero, List.set_cons_succ]
      refine g_take (i := 15) (v := .agg #[.string ⟨q.p.toArray⟩, .string ⟨q.l.toArray⟩]) (by rfl) (by kernel_rfl) (by kernel_rfl) (by kernel_rfl) (by kernel_rfl) (fun _ _ _ h => (by cases h.1)) (Or.inl ⟨by kernel_rfl, fun W hS => (by obtain ⟨s0, s1, s2, s3, s4⟩ := hS; go_simp)⟩) hH ?_
      simp only [Act.put, List.setIfInBounds_toArray, List.set_cons_zero, List.set_cons_succ]
      refine g_one (i := 16) (by kernel_rfl) (by rfl) (fun K hK => ?_)
      go_simp
      refine hK.out _ _ (fun _ => hH) (fun _ => ?_)
      clear hK K
      refine g_done (by kernel_rfl) ⟨by first | rfl | trivial, ?_⟩ _
      clear hne hgd hne1 hz1 hw1 hH c18 c16 c17 hr1 hr2 hcap hcm hol2
      go_wp2
      go_ret
      exact HF.out
    · rw [if_neg he]
      have hne1 : decide (s.m.en = q) = true := decide_eq_true (Classical.byContradiction he)
      simp only [hne1] at hne
      have hz1 : ((n : Int) + 1 - 1) = (n : Int) := by omega
      have hw1 : IntKind.i64.wrap (n : Int) = (n : Int) := IntWalk.i64_in _ (by omega)
      obtain ⟨R, hR⟩ : ∃ R, endElemA s = R := ⟨_, rfl⟩
      rw [hR] at hC ⊢
      clear h hM hp hb hn hq hl1 hl2 he hol hR
      go_enter Tryz.func149, Tryz.ntmps149
      go_wp2
      refine region_g [] (S := (fun W => W.cell? ⟨m, 18, none⟩ = some (.slice (some ⟨r, 0, none⟩) (n + 1) cap) ∧ W.cell? ⟨m, 16, none⟩ = some (.string ⟨s.m.en.p.toArray⟩) ∧ W.cell? ⟨m, 17, none⟩ = some (.string ⟨s.m.en.l.toArray⟩) ∧ W.cell? ⟨r, n * 2, none⟩ = some (.string ⟨q.p.toArray⟩) ∧ W.cell? ⟨r, n * 2 + 1, none⟩ = some (.string ⟨q.l.toArray⟩))) (by kernel_rfl) ⟨c18, c16, c17, hr1, hr2⟩ (fun hH => ?_)
      refine g_take (i := 0) (v := .pointer (some ⟨m, 0, none⟩)) (by rfl) (by kernel_rfl) (by kernel_rfl) (by kernel_rfl) (by kernel_rfl) (fun _ _ _ h => (by cases h.1)) (Or.inl ⟨by kernel_rfl, fun W hS => (by obtain ⟨s0, s1, s2, s3, s4⟩ := hS; go_simp)⟩) hH ?_
      simp only [Act.put, List.setIfInBounds_toArray, List.set_cons_zero, List.set_cons_succ]
      refine g_take (i := 1) (v := .pointer (some ⟨m, 0, none⟩)) (by rfl) (by kernel_rfl) (by kernel_rfl) (by kernel_rfl) (by kernel_rfl) (fun _ _ _ h => (by cases h.1)) (Or.inl ⟨by kernel_rfl, fun W hS => (by obtain ⟨s0, s1, s2, s3, s4⟩ := hS; go_simp)⟩) hH ?_
      simp only [Act.put, List.setIfInBounds_toArray, List.set_cons_zero, List.set_cons_succ]
      refine g_take (i := 2) (v := .pointer (some ⟨m, 16, none⟩)) (by rfl) (by kernel_rfl) (by kernel_rfl) (by kernel_rfl) (by kernel_rfl) (fun _ _ _ h => (by cases h.1)) (Or.inl ⟨by kernel_rfl, fun W hS => (by obtain ⟨s0, s1, s2, s3, s4⟩ := hS; go_simp)⟩) hH ?_
      simp only [Act.put, List.setIfInBounds_toArray, List.set_cons_zero, List.set_cons_succ]
      refine g_take (i := 3) (v := .agg #[.string ⟨s.m.en.p.toArray⟩, .string ⟨s.m.en.l.toArray⟩]) (by rfl) (by kernel_rfl) (by kernel_rfl) (by kernel_rfl) (by kernel_rfl) (fun _ _ _ h => (by cases h.1)) (Or.inl ⟨by kernel_rfl, fun W hS => (by obtain ⟨s0, s1, s2, s3, s4⟩ := hS; go_simp)⟩) hH ?_
      simp only [Act.put, List.setIfInBounds_toArray, List.set_cons_zero, List.set_cons_succ]
      refine g_take (i := 4) (v := .pointer (some ⟨m, 0, none⟩)) (by rfl) (by kernel_rfl) (by kernel_rfl) (by kernel_rfl) (by kernel_rfl) (fun _ _ _ h => (by cases h.1)) (Or.inl ⟨by kernel_rfl, fun W hS => (by obtain ⟨s0, s1, s2, s3, s4⟩ := hS; go_simp)⟩) hH ?_
      simp only [Act.put, List.setIfInBounds_toArray, List.set_cons_zero, List.set_cons_succ]
      refine g_take (i := 5) (v := .pointer (some ⟨m, 0, none⟩)) (by rfl) (by kernel_rfl) (by kernel_rfl) (by kernel_rfl) (by kernel_rfl) (fun _ _ _ h => (by cases h.1)) (Or.inl ⟨by kernel_rfl, fun W hS => (by obtain ⟨s0, s1, s2, s3, s4⟩ := hS; go_simp)⟩) hH ?_
      simp only [Act.put, List.setIfInBounds_toArray, List.set_cons_zero, List.set_cons_succ]
      refine g_take (i := 6) (v := .pointer (some ⟨m, 18, none⟩)) (by rfl) (by kernel_rfl) (by kernel_rfl) (by kernel_rfl) (by kernel_rfl) (fun _ _ _ h => (by cases h.1)) (Or.inl ⟨by kernel_rfl, fun W hS => (by obtain ⟨s0, s1, s2, s3, s4⟩ := hS; go_simp)⟩) hH ?_
      simp only [Act.put, List.setIfInBounds_toArray, List.set_cons_zero, List.set_cons_succ]
      refine g_take (i := 7) (v := .slice (some ⟨r, 0, none⟩) (n + 1) cap) (by rfl) (by kernel_rfl) (by kernel_rfl) (by kernel_rfl) (by kernel_rfl) (fun _ _ _ h => (by cases h.1)) (Or.inl ⟨by kernel_rfl, fun W hS => (by obtain ⟨s0, s1, s2, s3, s4⟩ := hS; go_simp)⟩) hH ?_
      simp only [Act.put, List.setIfInBounds_toArray, List.set_cons_zero, List.set_cons_succ]
      refine g_take (i := 8) (v := .pointer (some ⟨m, 0, none⟩)) (by rfl) (by kernel_rfl) (by kernel_rfl) (by kernel_rfl) (by kernel_rfl) (fun _ _ _ h => (by cases h.1)) (Or.inl ⟨by kernel_rfl, fun W hS => (by obtain ⟨s0, s1, s2, s3, s4⟩ := hS; go_simp)⟩) hH ?_
      simp only [Act.put, List.setIfInBounds_toArray, List.set_cons_zero, List.set_cons_succ]
      refine g_take (i := 9) (v := .pointer (some ⟨m, 0, none⟩)) (by rfl) (by kernel_rfl) (by kernel_rfl) (by kernel_rfl) (by kernel_rfl) (fun _ _ _ h => (by cases h.1)) (Or.inl ⟨by kernel_rfl, fun W hS => (by obtain ⟨s0, s1, s2, s3, s4⟩ := hS; go_simp)⟩) hH ?_
      simp only [Act.put, List.setIfInBounds_toArray, List.set_cons_zero, List.set_cons_succ]
      refine g_take (i := 10) (v := .pointer (some ⟨m, 18, none⟩)) (by rfl) (by kernel_rfl) (by kernel_rfl) (by kernel_rfl) (by kernel_rfl) (fun _ _ _ h => (by cases h.1)) (Or.inl ⟨by kernel_rfl, fun W hS => (by obtain ⟨s0, s1, s2, s3, s4⟩ := hS; go_simp)⟩) hH ?_
      simp only [Act.put, List.setIfInBounds_toArray, List.set_cons_zero, List.set_cons_succ]
      refine g_take (i := 11) (v := .slice (some ⟨r, 0, none⟩) (n + 1) cap) (by rfl) (by kernel_rfl) (by kernel_rfl) (by kernel_rfl) (by kernel_rfl) (fun _ _ _ h => (by cases h.1)) (Or.inl ⟨by kernel_rfl, fun W hS => (by obtain ⟨s0, s1, s2, s3, s4⟩ := hS; go_simp)⟩) hH ?_
      simp only [Act.put, List.setIfInBounds_toArray, List.set_cons_zero, List.set_cons_succ]
      refine g_take (i := 12) (v := .int .i64 ((n : Int) + 1)) (by rfl) (by kernel_rfl) (by kernel_rfl) (by kernel_rfl) (by kernel_rfl) (fun _ _ _ h => (by cases h.1)) (Or.inl ⟨by kernel_rfl, fun W hS => (by obtain ⟨s0, s1, s2, s3, s4⟩ := hS; go_simp)⟩) hH ?_
      simp only [Act.put, List.setIfInBounds_toArray, List.set_cons_zero, List.set_cons_succ]
      refine g_take (i := 13) (v := .int .i64 (n : Int)) (by rfl) (by kernel_rfl) (by kernel_rfl) (by kernel_rfl) (by kernel_rfl) (fun _ _ _ h => (by cases h.1)) (Or.inl ⟨by kernel_rfl, fun W hS => (by obtain ⟨s0, s1, s2, s3, s4⟩ := hS; go_simp)⟩) hH ?_
      simp only [Act.put, List.setIfInBounds_toArray, List.set_cons_zero, List.set_cons_succ]
      refine g_take (i := 14) (v := .pointer (some ⟨r, n * 2, none⟩)) (by rfl) (by kernel_rfl) (by kernel_rfl) (by kernel_rfl) (by kernel_rfl) (fun _ _ _ h => (by cases h.1)) (Or.inl ⟨by kernel_rfl, fun W hS => (by obtain ⟨s0, s1, s2, s3, s4⟩ := hS; go_simp; intro hc; omega)⟩) hH ?_
      simp only [Act.put, List.setIfInBounds_toArray, List.set_cons_zero, List.set_cons_succ]
      refine g_take (i := 15) (v := .agg #[.string ⟨q.p.toArray⟩, .string ⟨q.l.toArray⟩]) (by rfl) (by kernel_rfl) (by kernel_rfl) (by kernel_rfl) (by kernel_rfl) (fun _ _ _ h => (by cases h.1)) (Or.inl ⟨by kernel_rfl, fun W hS => (by obtain ⟨s0, s1, s2, s3, s4⟩ := hS; go_simp)⟩) hH ?_
      simp only [Act.put, List.setIfInBounds_toArray, List.set_cons_zero, List.set_cons_succ]
      refine g_one (i := 16) (by kernel_rfl) (by rfl) (fun K hK => ?_)
      go_simp
      refine hK.out _ _ (fun _ => hH) (fun _ => ?_)
      clear hK K
      refine g_done (by kernel_rfl) ⟨by first | rfl | trivial, ?_⟩ _
      clear hne hgd hne1 hz1 hw1 hH c18 c16 c17 hr1 hr2 hcap hcm hol2
      go_wp2_with fail
      refine hC.out.mono ?_
      intro E w3 hq
      have HF := Lib.hid (hq.pre hwd.out)
      have hE := hq.1
      clear hq
      subst hE
      go_wp2
      go_ret
      exact HF.out
end
end Go.Proofs.YtjepnddndpmnnaaGreatDoor

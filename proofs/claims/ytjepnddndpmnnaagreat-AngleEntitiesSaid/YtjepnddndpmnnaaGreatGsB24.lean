/-
  angle: raw text: endedBy, put, refer, add, take.
  angle: open names: Goes, Add, End.
-/
import Derived.Test.YtjepnddndpmnnaaGreatGsB23
import Derived.Deep.QuietTactic
import Derived.BigQuiet
namespace Go.Proofs.YtjepnddndpmnnaaGreat
open Go.RowKit Go.Maps
set_option maxRecDepth 100000
set_option linter.unusedSimpArgs false
set_option linter.unusedVariables false
set_option linter.unusedSectionVars false
set_option linter.unusedSectionVars false
variable [Tab] [Fo]

theorem strApp (a b : List UInt8) : (⟨a.toArray⟩ : ByteArray) ++ ⟨b.toArray⟩ = ⟨(a ++ b).toArray⟩ := by simp [ByteArray.append_eq, ByteArray.ext_iff, ByteArray.data_append]
theorem strOne (a : List UInt8) (b : UInt8) : (⟨a.toArray⟩ : ByteArray) ++ ⟨#[b]⟩ = ⟨(a ++ [b]).toArray⟩ := strApp a [b]
theorem svSize (a : List UInt8) : (⟨a.toArray⟩ : ByteArray).size = a.length := by show a.toArray.size = _; simp
theorem strEmp {a : List UInt8} (h : a ≠ []) : (⟨a.toArray⟩ : ByteArray).toList.isEmpty = false := by
  rw [Bool.eq_false_iff]
  intro e
  have h5 := List.isEmpty_iff.1 e
  rw [Lib.toList_data] at h5
  exact h (by simpa using h5)
section
variable {w w' : World} {base m o ck e mb g : Nat} {s : As}

theorem aended_any (b : UInt8) (c : Nat) (h : AX w base m o ck e mb g s) :
    Calls Tryz.prog 124 #[.pointer (some ⟨m, 5, none⟩), .int .u8 (b.toNat : Int), .int .u8 (c : Int)] w fun E w' => E = .returned (.bool (endedA s.m b c)) ∧ w' = w := by
  obtain ⟨av, ov, hM⟩ := h.mc
  have c7 := hM.cells.2.2.2.2.2.2.2.1
  have hlt := h.lt
  unfold endedA
  generalize s.m.rr = rr at c7 ⊢
  clear h hM
  by_cases hb : b.toNat = c
  · have z : ((b.toNat : Int) == (c : Int)) = true := by rw [beq_iff_eq]; omega
    have z2 : decide (b.toNat = c) = true := decide_eq_true hb
    rw [z2]
    clear z2 hb
    cases rr
    all_goals
      go_enter Tryz.func124, Tryz.ntmps124
      go_wp2
      go_ret
      exact ⟨rfl, rfl⟩
  · have z : ((b.toNat : Int) == (c : Int)) = false := by rw [beq_eq_false_iff_ne]; omega
    have z2 : decide (b.toNat = c) = false := decide_eq_false hb
    rw [z2]
    clear z2 hb
    go_enter Tryz.func124, Tryz.ntmps124
    go_wp2
    go_ret
    exact ⟨rfl, rfl⟩

theorem aput_any (t : List UInt8) (h : AX w base m o ck e mb g s) (h1 : s.m.rt.length ≤ 1000) (h2 : t.length ≤ 1000) :
    Calls Tryz.prog 138 #[.pointer (some ⟨m, 5, none⟩), .string ⟨t.toArray⟩] w (APo w base m o ck e mb g (s.mr (putR s.m t))) := by
  obtain ⟨av, ov, hM⟩ := h.mc
  have c6 := hM.cells.2.2.2.2.2.2.1
  have f6 := h.frz 6
  have hlt := h.lt
  have hz1 := svSize s.m.rt
  have hz2 := svSize t
  unfold putR
  by_cases hl : 48 < s.m.rt.length + t.length
  · rw [if_pos hl]
    have z : decide ((48 : Int) < (s.m.rt.length : Int) + (t.length : Int)) = true := by simp; omega
    have HF : Hid (APo w base m o ck e mb g (s.mr ⟨s.m, 4⟩) (.returned (.int .i64 4)) w) := Lib.hid ⟨rfl, h, Tch.refl _ _ _⟩
    clear h hM hl
    go_enter Tryz.func138, Tryz.ntmps138
    go_wp2
    go_ret
    exact HF.out
  · rw [if_neg hl]
    have z : decide ((48 : Int) < (s.m.rt.length : Int) + (t.length : Int)) = false := by simp; omega
    have HF : Hid (APo w base m o ck e mb g (s.mr ⟨{ s.m with rt := s.m.rt ++ t }, 0⟩) (.returned (.int .i64 0)) (w.setCell ⟨m, 6, none⟩ (.string (⟨s.m.rt.toArray⟩ ++ ⟨t.toArray⟩)))) := by
      refine Lib.hid ?_
      rw [strApp]
      have := h.set 6 (sv (s.m.rt ++ t)) { s.m with rt := s.m.rt ++ t } (fun _ _ => rfl) rfl rfl rfl rfl rfl
      exact ⟨rfl, this.1, this.2⟩
    clear h hM hl
    go_enter Tryz.func138, Tryz.ntmps138
    go_wp2
    go_ret
    exact HF.out

theorem atake_any (h : AX w base m o ck e mb g s) :
    Calls Tryz.prog 127 #[.pointer (some ⟨m, 5, none⟩)] w fun E w' => E = .returned (.string ⟨s.m.rt.toArray⟩) ∧ AX w' base m o ck e mb g { s with m := { s.m with rt := [] } } ∧ Tch base axO w w' := by
  obtain ⟨av, ov, hM⟩ := h.mc
  have c6 := hM.cells.2.2.2.2.2.2.1
  have f6 := h.frz 6
  have hlt := h.lt
  have HF := Lib.hid (h.set 6 (.string ⟨#[]⟩) { s.m with rt := [] } (fun _ _ => rfl) rfl rfl rfl rfl rfl)
  clear h hM
  go_enter Tryz.func127, Tryz.ntmps127
  go_wp2
  go_ret
  exact ⟨rfl, HF.out⟩
theorem atake_eq (h : AX w base m o ck e mb g s) :
    Calls Tryz.prog 127 #[.pointer (some ⟨m, 5, none⟩)] w fun E w' => E = .returned (.string ⟨s.m.rt.toArray⟩) ∧ w' = w.setCell ⟨m, 6, none⟩ (.string ⟨#[]⟩) := by
  obtain ⟨av, ov, hM⟩ := h.mc
  have c6 := hM.cells.2.2.2.2.2.2.1
  have f6 := h.frz 6
  have hlt := h.lt
  clear h hM
  go_enter Tryz.func127, Tryz.ntmps127
  go_wp2
  go_ret
  exact ⟨rfl, rfl⟩
/-- Texts that are not too long for a walk. -/
structure AgOk (M : Ag) : Prop where
  ent : M.ent.length ≤ 1000
  nmd : M.nmd.length ≤ 1000
  rt : M.rt.length ≤ 1000
  rn : M.rn.length ≤ 1000
  nt : M.nt.length ≤ 1000
  np : M.np.length ≤ 1000

theorem nGo_eq (t : List UInt8) (b : UInt8) : nGo ⟨t.toArray⟩ b = goesN t b := rfl
set_option maxHeartbeats 4000000 in
theorem arefer_any (b : UInt8) (h : AX w base m o ck e mb g s) (hok : AgOk s.m) :
    Calls Tryz.prog 137 #[.pointer (some ⟨m, 5, none⟩), .int .u8 (b.toNat : Int)] w (APo w base m o ck e mb g (s.mr (referA s.m b))) := by
  obtain ⟨av, ov, hM⟩ := h.mc
  have c8 : w.cell? ⟨m, 8, none⟩ = some (.string ⟨s.m.rn.toArray⟩) := hM.cells.2.2.2.2.2.2.2.2.1
  have hlt := h.lt
  have hrn := hok.rn
  have hrt := hok.rt
  have hz := svSize s.m.rn
  have hG := Lib.hid (ngoes_any w m 8 ⟨s.m.rn.toArray⟩ b c8 hlt (by omega))
  have H := Lib.hid h
  unfold referA
  by_cases hg : goesN s.m.rn b = true
  · rw [if_pos hg]
    have HG : Hid (nGo ⟨s.m.rn.toArray⟩ b = true) := Lib.hid hg
    by_cases h16 : 16 ≤ s.m.rn.length
    · rw [if_pos h16]
      have H6 := Lib.hid h16
      clear h hM c8 hlt hg h16 hok
      go_enter Tryz.func137, Tryz.ntmps137
      go_wp2_with fail
      refine hG.out.mono ?_
      rintro E w1 ⟨rfl, hb1⟩
      rw [HG.out]
      have h1 := H.out.below hb1
      have HB := Lib.hid hb1
      obtain ⟨av1, ov1, hM1⟩ := h1.mc
      have hA := Lib.hid (nadd_any w1 m 8 ⟨s.m.rn.toArray⟩ b hM1.cells.2.2.2.2.2.2.2.2.1 (h1.frz 8) h1.lt (by omega))
      have HF : Hid (APo w base m o ck e mb g (s.mr ⟨s.m, 2⟩) (.returned (.int .i64 2)) w1) := Lib.hid ⟨rfl, h1, Tch.of_below hb1⟩
      clear hM1 h1 hb1
      go_wp2_with fail
      refine hA.out.mono ?_
      rintro E w2 hq
      rw [if_pos (by rw [hz]; exact H6.out)] at hq
      obtain ⟨rfl, rfl⟩ := hq
      go_wp2
      go_ret
      exact HF.out
    · rw [if_neg h16]
      have H6 := Lib.hid h16
      clear h hM c8 hlt hg h16 hok
      go_enter Tryz.func137, Tryz.ntmps137
      go_wp2_with fail
      refine hG.out.mono ?_
      rintro E w1 ⟨rfl, hb1⟩
      rw [HG.out]
      have h1 := H.out.below hb1
      have HB := Lib.hid hb1
      obtain ⟨av1, ov1, hM1⟩ := h1.mc
      have hA := Lib.hid (nadd_any w1 m 8 ⟨s.m.rn.toArray⟩ b hM1.cells.2.2.2.2.2.2.2.2.1 (h1.frz 8) h1.lt (by omega))
      have hS := h1.set 8 (sv (s.m.rn ++ [b])) { s.m with rn := s.m.rn ++ [b] } (fun _ _ => rfl) rfl rfl rfl rfl rfl
      have HF : Hid (∀ w2, Below (w1.setCell ⟨m, 8, none⟩ (.string (⟨s.m.rn.toArray⟩ ++ ⟨#[b]⟩))).heap.size (w1.setCell ⟨m, 8, none⟩ (.string (⟨s.m.rn.toArray⟩ ++ ⟨#[b]⟩))) w2 → APo w base m o ck e mb g (s.mr ⟨{ s.m with rn := s.m.rn ++ [b] }, 0⟩) (.returned (.int .i64 0)) w2) := by
        refine Lib.hid fun w2 hb2 => ?_
        rw [strOne] at hb2
        exact ⟨rfl, hS.1.below hb2, (Tch.of_below hb1).trans (hS.2.trans (Tch.of_below hb2))⟩
      clear hM1 h1 hb1 hS
      go_wp2_with fail
      refine hA.out.mono ?_
      rintro E w2 hq
      rw [if_neg (by rw [hz]; exact H6.out)] at hq
      obtain ⟨rfl, hb2⟩ := hq
      have HB2 := Lib.hid hb2
      clear hb2
      go_wp2
      go_ret
      exact HF.out _ HB2.out
  · rw [if_neg hg]
    have HG : Hid (nGo ⟨s.m.rn.toArray⟩ b = false) := Lib.hid (by rw [nGo_eq]; simpa using hg)
    have hgen : ∀ (w1 : World), Below w.heap.size w w1 → AX (w1.setCell ⟨m, 8, none⟩ (.string ⟨#[]⟩)) base m o ck e mb g { s with m := { s.m with rn := [] } } ∧ Tch base axO w (w1.setCell ⟨m, 8, none⟩ (.string ⟨#[]⟩)) := fun w1 hb1 => by
      have hS := (h.below hb1).set 8 (sv []) { s.m with rn := [] } (fun _ _ => rfl) rfl rfl rfl rfl rfl
      exact ⟨hS.1, (Tch.of_below hb1).trans hS.2⟩
    have HGen := Lib.hid hgen
    by_cases h0 : s.m.rn = [] ∨ b.toNat ≠ 59
    · rw [if_pos h0]
      by_cases hne : s.m.rn = []
      · have hz0 : (⟨s.m.rn.toArray⟩ : ByteArray).size = 0 := by rw [hz, hne]; rfl
        clear h hM c8 hlt hg hok h0 hgen
        go_enter Tryz.func137, Tryz.ntmps137
        go_wp2_with fail
        refine hG.out.mono ?_
        rintro E w1 ⟨rfl, hb1⟩
        rw [HG.out]
        have h1 := H.out.below hb1
        obtain ⟨av1, ov1, hM1⟩ := h1.mc
        have hA := Lib.hid (nend_any w1 m 8 ⟨s.m.rn.toArray⟩ hM1.cells.2.2.2.2.2.2.2.2.1 (h1.frz 8) h1.lt (by omega))
        have HF := Lib.hid (HGen.out w1 hb1)
        clear hM1 h1 hb1
        go_wp2_with fail
        refine hA.out.mono ?_
        rintro E w2 ⟨rfl, rfl⟩
        rw [if_pos hz0]
        clear hz0 hz
        go_wp2
        go_ret
        exact ⟨rfl, HF.out⟩
      · have hz0 : ¬ (⟨s.m.rn.toArray⟩ : ByteArray).size = 0 := by rw [hz]; intro hc; exact hne (List.eq_nil_of_length_eq_zero hc)
        have hb59 : b.toNat ≠ 59 := h0.resolve_left hne
        have z59 : ((b.toNat : Int) != 59) = true := by rw [bne_iff_ne]; omega
        clear h hM c8 hlt hg hok h0 hgen hb59
        go_enter Tryz.func137, Tryz.ntmps137
        go_wp2_with fail
        refine hG.out.mono ?_
        rintro E w1 ⟨rfl, hb1⟩
        rw [HG.out]
        have h1 := H.out.below hb1
        obtain ⟨av1, ov1, hM1⟩ := h1.mc
        have hA := Lib.hid (nend_any w1 m 8 ⟨s.m.rn.toArray⟩ hM1.cells.2.2.2.2.2.2.2.2.1 (h1.frz 8) h1.lt (by omega))
        have HF := Lib.hid (HGen.out w1 hb1)
        clear hM1 h1 hb1
        go_wp2_with fail
        refine hA.out.mono ?_
        rintro E w2 ⟨rfl, rfl⟩
        rw [if_neg hz0]
        clear hz0 hz
        go_wp2
        go_ret
        exact ⟨rfl, HF.out⟩
    · rw [if_neg h0]
      have hne : s.m.rn ≠ [] := fun hc => h0 (.inl hc)
      have hb59 : b.toNat = 59 := Classical.byContradiction fun hc => h0 (.inr hc)
      have hz0 : ¬ (⟨s.m.rn.toArray⟩ : ByteArray).size = 0 := by rw [hz]; intro hc; exact hne (List.eq_nil_of_length_eq_zero hc)
      have z59 : ((b.toNat : Int) != 59) = false := by rw [bne_eq_false_iff_eq]; omega
      have HN := Lib.hid hz0
      have hL200 := hM.lim
      clear hg h0 hgen hne hb59 c8 hL200 hM hz0
      obtain ⟨G, hGe⟩ : ∃ G, getA s.m = G := ⟨_, rfl⟩
      have hsz : G.s.length ≤ 200 := by rw [← hGe]; exact get_len h.ent.sz
      have HGe : Hid (getE s.m.L s.m.told s.m.rn = G) := Lib.hid hGe
      rw [hGe]
      by_cases he : G.e ≠ 0
      · rw [if_pos he]
        have z0 : (G.e != 0) = true := by rw [bne_iff_ne]; exact he
        clear h hok he hGe hlt
        go_enter Tryz.func137, Tryz.ntmps137
        go_wp2_with fail
        refine hG.out.mono ?_
        rintro E w1 ⟨rfl, hb1⟩
        rw [HG.out]
        have h1 := H.out.below hb1
        obtain ⟨av1, ov1, hM1⟩ := h1.mc
        have hA := Lib.hid (nend_any w1 m 8 ⟨s.m.rn.toArray⟩ hM1.cells.2.2.2.2.2.2.2.2.1 (h1.frz 8) h1.lt (by omega))
        have HF := Lib.hid (HGen.out w1 hb1)
        clear hM1 h1 hb1
        go_wp2_with fail
        refine hA.out.mono ?_
        rintro E w2 ⟨rfl, rfl⟩
        rw [if_neg HN.out]
        obtain ⟨W, hW⟩ : ∃ W, w1.setCell ⟨m, 8, none⟩ (.string ⟨#[]⟩) = W := ⟨_, rfl⟩
        rw [hW] at HF ⊢
        clear hW hz
        obtain ⟨av2, ov2, hM2⟩ := HF.out.1.mc
        have c5 : W.cell? ⟨m, 5, none⟩ = some (.pointer (some ⟨e, 0, none⟩)) := hM2.cells.2.2.2.2.2.1
        have hl2 := hM2.lt
        have hGt := Lib.hid (eget_any W e mb s.m.L s.m.told ⟨s.m.rn.toArray⟩ HF.out.1.ent (by rw [svSize]; omega))
        clear hM2
        go_wp2_with fail
        refine hGt.out.mono ?_
        rintro E w3 ⟨rfl, hE3, hT3⟩
        have hq : getE s.m.L s.m.told (⟨s.m.rn.toArray⟩ : ByteArray).data.toList = G := HGe.out
        rw [hq] at hE3
        simp only [hq]
        have h3 := HF.out.1.entc hE3 hT3
        have HF3 : Hid (APo w base m o ck e mb g (s.mr ⟨{ s.m with rn := [], told := G.told }, G.e⟩) (.returned (.int .i64 G.e)) w3) := Lib.hid ⟨rfl, h3.1, HF.out.2.trans h3.2⟩
        clear h3 hE3 hT3 hq
        go_wp2
        go_ret
        exact HF3.out
      · rw [if_neg he]
        have he0 : G.e = 0 := by simpa using he
        clear h hok he hGe hlt
        obtain ⟨Gs, Ge, Gt⟩ := G
        have he1 : Ge = 0 := he0
        subst he1
        clear he0
        go_enter Tryz.func137, Tryz.ntmps137
        go_wp2_with fail
        refine hG.out.mono ?_
        rintro E w1 ⟨rfl, hb1⟩
        rw [HG.out]
        have h1 := H.out.below hb1
        obtain ⟨av1, ov1, hM1⟩ := h1.mc
        have hA := Lib.hid (nend_any w1 m 8 ⟨s.m.rn.toArray⟩ hM1.cells.2.2.2.2.2.2.2.2.1 (h1.frz 8) h1.lt (by omega))
        have HF := Lib.hid (HGen.out w1 hb1)
        clear hM1 h1 hb1
        go_wp2_with fail
        refine hA.out.mono ?_
        rintro E w2 ⟨rfl, rfl⟩
        rw [if_neg HN.out]
        obtain ⟨W, hW⟩ : ∃ W, w1.setCell ⟨m, 8, none⟩ (.string ⟨#[]⟩) = W := ⟨_, rfl⟩
        rw [hW] at HF ⊢
        clear hW hz
        obtain ⟨av2, ov2, hM2⟩ := HF.out.1.mc
        have c5 : W.cell? ⟨m, 5, none⟩ = some (.pointer (some ⟨e, 0, none⟩)) := hM2.cells.2.2.2.2.2.1
        have hl2 := hM2.lt
        have hGt := Lib.hid (eget_any W e mb s.m.L s.m.told ⟨s.m.rn.toArray⟩ HF.out.1.ent (by rw [svSize]; omega))
        clear hM2
        go_wp2_with fail
        refine hGt.out.mono ?_
        rintro E w3 ⟨rfl, hE3, hT3⟩
        have hq : getE s.m.L s.m.told (⟨s.m.rn.toArray⟩ : ByteArray).data.toList = ⟨Gs, 0, Gt⟩ := HGe.out
        rw [hq] at hE3
        simp only [hq]
        have h3 := HF.out.1.entc hE3 hT3
        have h4 := h3.1.set 7 (.bool false) { s.m with rn := [], L := s.m.L, told := Gt, rr := false } (fun _ _ => rfl) rfl rfl rfl rfl rfl
        have f7 := h3.1.frz 7
        have hl3 := h3.1.lt
        have c7 : w3.cell? ⟨m, 7, none⟩ = some (.bool s.m.rr) := by obtain ⟨_, _, q⟩ := h3.1.mc; exact q.cells.2.2.2.2.2.2.2.1
        have HP := Lib.hid (aput_any Gs h4.1 hrt (by omega))
        have HT4 := Lib.hid (HF.out.2.trans (h3.2.trans h4.2))
        clear h3 hE3 hT3 hq h4
        go_wp2_with fail
        refine HP.out.mono ?_
        intro E w5 hq
        have HF5 := Lib.hid (hq.pre HT4.out)
        have hE := hq.1
        clear hq HP
        subst hE
        go_wp2
        go_ret
        exact HF5.out

set_option maxHeartbeats 4000000 in
theorem aadd_any (b : UInt8) (h : AX w base m o ck e mb g s) (hok : AgOk s.m) :
    Calls Tryz.prog 125 #[.pointer (some ⟨m, 5, none⟩), .int .u8 (b.toNat : Int)] w (APo w base m o ck e mb g (s.mr (addR s.m b))) := by
  obtain ⟨av, ov, hM⟩ := h.mc
  have c7 : w.cell? ⟨m, 7, none⟩ = some (.bool s.m.rr) := hM.cells.2.2.2.2.2.2.2.1
  have f7 := h.frz 7
  have hlt := h.lt
  have hrt := hok.rt
  have hR := Lib.hid (arefer_any b h hok)
  have H := Lib.hid h
  unfold addR
  obtain ⟨rr, hrr⟩ : ∃ r, s.m.rr = r := ⟨_, rfl⟩
  rw [hrr] at c7 ⊢
  have H7 := Lib.hid (h.set 7 (.bool true) { s.m with rr := true } (fun _ _ => rfl) rfl rfl rfl rfl rfl)
  cases rr with
  | true =>
    rw [if_pos rfl]
    obtain ⟨R, hRe⟩ : ∃ R, s.mr (referA s.m b) = R := ⟨_, rfl⟩
    rw [hRe] at hR ⊢
    clear h hM hok hrr hRe
    go_enter Tryz.func125, Tryz.ntmps125
    go_wp2_with fail
    refine hR.out.mono ?_
    intro E w1 hq
    have HF := Lib.hid hq
    have hE := hq.1
    clear hq
    subst hE
    go_wp2
    go_ret
    exact HF.out
  | false =>
    rw [if_neg (by decide)]
    by_cases h38 : b.toNat = 38
    · rw [if_pos h38]
      have z38 : ((b.toNat : Int) == 38) = true := by rw [beq_iff_eq]; omega
      clear h hM hok hrr h38 hR
      go_enter Tryz.func125, Tryz.ntmps125
      go_wp2
      go_ret
      exact ⟨rfl, H7.out⟩
    · rw [if_neg h38]
      have z38 : ((b.toNat : Int) == 38) = false := by rw [beq_eq_false_iff_ne]; omega
      have hB := Lib.hid (fun w => tblank_any b w)
      by_cases h60 : b.toNat = 60 ∨ (b.toNat < 32 ∧ blankB b = false)
      · rw [if_pos h60]
        have HF : Hid (APo w base m o ck e mb g (s.mr ⟨s.m, 2⟩) (.returned (.int .i64 2)) w) := Lib.hid ⟨rfl, h, Tch.refl _ _ _⟩
        by_cases hx : b.toNat = 60
        · have z60 : ((b.toNat : Int) == 60) = true := by rw [beq_iff_eq]; omega
          clear h hM hok hrr h38 hR h60 hx
          go_enter Tryz.func125, Tryz.ntmps125
          go_wp2
          go_ret
          exact HF.out
        · have z60 : ((b.toNat : Int) == 60) = false := by rw [beq_eq_false_iff_ne]; omega
          obtain ⟨hl, hbk⟩ := h60.resolve_left hx
          have z32 : decide ((b.toNat : Int) < 32) = true := by simp; omega
          have HBk := Lib.hid hbk
          clear h hM hok hrr h38 hR hx hl hbk
          go_enter Tryz.func125, Tryz.ntmps125
          go_wp2_with fail
          refine (hB.out _).mono ?_
          rintro E w1 ⟨rfl, rfl⟩
          rw [HBk.out]
          go_wp2
          go_ret
          exact HF.out
      · rw [if_neg h60]
        have hx : b.toNat ≠ 60 := fun hc => h60 (.inl hc)
        have z60 : ((b.toNat : Int) == 60) = false := by rw [beq_eq_false_iff_ne]; omega
        have al : Below w.heap.size w (w.alloc (.cells #[.int .u8 (b.toNat : Int)] 5)) := (Below.refl _ _).alloc (Nat.le_refl _) _
        have hP := Lib.hid (aput_any [b] (h.below al) hrt (by simp))
        have HA := Lib.hid (Tch.of_below (base := base) (p := axO) al)
        have h1 := one_str w b
        obtain ⟨R, hRe⟩ : ∃ R, s.mr (putR s.m [b]) = R := ⟨_, rfl⟩
        rw [hRe] at hP ⊢
        by_cases hl : b.toNat < 32
        · have z32 : decide ((b.toNat : Int) < 32) = true := by simp; omega
          have hbk : blankB b = true := by cases hc : blankB b with | true => rfl | false => exact absurd (.inr ⟨hl, hc⟩) h60
          have HBk := Lib.hid hbk
          clear h hM hok hrr h38 hR hx hl hbk h60 hRe al
          go_enter Tryz.func125, Tryz.ntmps125
          go_wp2_with fail
          refine (hB.out _).mono ?_
          rintro E w1 ⟨rfl, rfl⟩
          rw [HBk.out]
          go_wp2_with fail
          refine hP.out.mono ?_
          intro E w1 hq
          have HF := Lib.hid (hq.pre HA.out)
          have hE := hq.1
          clear hq
          subst hE
          go_wp2
          go_ret
          exact HF.out
        · have z32 : decide ((b.toNat : Int) < 32) = false := by simp; omega
          clear h hM hok hrr h38 hR hx hl h60 hRe al
          go_enter Tryz.func125, Tryz.ntmps125
          go_wp2_with fail
          refine hP.out.mono ?_
          intro E w1 hq
          have HF := Lib.hid (hq.pre HA.out)
          have hE := hq.1
          clear hq
          subst hE
          go_wp2
          go_ret
          exact HF.out
end
end Go.Proofs.YtjepnddndpmnnaaGreat
namespace Go.Proofs.YtjepnddndpmnnaaGreat
open Go.RowKit Go.Maps
set_option maxRecDepth 100000
set_option linter.unusedSimpArgs false
set_option linter.unusedVariables false
set_option linter.unusedSectionVars false
set_option linter.unusedSectionVars false
variable [Tab] [Fo]

section
variable {w w' : World} {base m o ck e mb g : Nat} {s : As}

set_option maxHeartbeats 4000000 in
theorem aogoes_any (b : UInt8) (h : AX w base m o ck e mb g s) (hok : AgOk s.m) :
    Calls Tryz.prog 128 #[.pointer (some ⟨m, 9, none⟩), .int .u8 (b.toNat : Int)] w fun E w' => E = .returned (.bool (goesA s.m b)) ∧ Below w.heap.size w w' := by
  obtain ⟨av, ov, hM⟩ := h.mc
  have c9 : w.cell? ⟨m, 9, none⟩ = some (.string ⟨s.m.nt.toArray⟩) := hM.cells.2.2.2.2.2.2.2.2.2.1
  have c10 : w.cell? ⟨m, 10, none⟩ = some (.string ⟨s.m.np.toArray⟩) := hM.cells.2.2.2.2.2.2.2.2.2.2
  have hlt := h.lt
  have hnt := hok.nt
  have hG := Lib.hid (ngoes_any w m 9 ⟨s.m.nt.toArray⟩ b c9 hlt (by rw [svSize]; omega))
  unfold goesA
  have C10 := Lib.hid (fun (w1 : World) (hb : Below w.heap.size w w1) => (hb.cell (p := ⟨m, 10, none⟩) hlt).trans c10)
  have HLt := Lib.hid (fun (w1 : World) (hb : Below w.heap.size w w1) => Nat.lt_of_lt_of_le hlt hb.size)
  by_cases hg : goesN s.m.nt b = true
  · rw [hg, Bool.true_or]
    have HG : Hid (nGo ⟨s.m.nt.toArray⟩ b = true) := Lib.hid hg
    clear h hM hok hg c9 c10 hlt hnt
    go_enter Tryz.func128, Tryz.ntmps128
    go_wp2_with fail
    refine hG.out.mono ?_
    rintro E w1 ⟨rfl, hb1⟩
    rw [HG.out]
    have HB := Lib.hid hb1
    clear hb1
    go_wp2
    go_ret
    exact ⟨rfl, HB.out⟩
  · have hg' : goesN s.m.nt b = false := by simpa using hg
    rw [hg', Bool.false_or]
    have HG : Hid (nGo ⟨s.m.nt.toArray⟩ b = false) := Lib.hid hg'
    by_cases h58 : b.toNat = 58
    · have z58 : ((b.toNat : Int) == 58) = true := by rw [beq_iff_eq]; omega
      rw [decide_eq_true h58, Bool.true_and]
      have HEq := Lib.hid (show s.m.np.isEmpty = decide (s.m.np = []) by cases s.m.np <;> rfl)
      clear h hM hok hg hg' c9 c10 hlt hnt h58
      go_enter Tryz.func128, Tryz.ntmps128
      go_wp2_with fail
      refine hG.out.mono ?_
      rintro E w1 ⟨rfl, hb1⟩
      rw [HG.out]
      have HB := Lib.hid hb1
      have c10 := C10.out w1 hb1
      have hlt := HLt.out w1 hb1
      clear hb1
      go_wp2
      go_ret
      refine ⟨?_, HB.out⟩
      show Ending.returned (.bool s.m.np.isEmpty) = _
      rw [HEq.out]
    · have z58 : ((b.toNat : Int) == 58) = false := by rw [beq_eq_false_iff_ne]; omega
      rw [decide_eq_false h58, Bool.false_and]
      clear h hM hok hg hg' c9 c10 hlt hnt h58
      go_enter Tryz.func128, Tryz.ntmps128
      go_wp2_with fail
      refine hG.out.mono ?_
      rintro E w1 ⟨rfl, hb1⟩
      rw [HG.out]
      have HB := Lib.hid hb1
      clear hb1
      go_wp2
      go_ret
      exact ⟨rfl, HB.out⟩

set_option maxHeartbeats 4000000 in
theorem aoadd_any (b : UInt8) (h : AX w base m o ck e mb g s) (hok : AgOk s.m) :
    Calls Tryz.prog 129 #[.pointer (some ⟨m, 9, none⟩), .int .u8 (b.toNat : Int)] w (APo w base m o ck e mb g (s.mr (nameAdd s.m b))) := by
  obtain ⟨av, ov, hM⟩ := h.mc
  have c9 : w.cell? ⟨m, 9, none⟩ = some (.string ⟨s.m.nt.toArray⟩) := hM.cells.2.2.2.2.2.2.2.2.2.1
  have c10 : w.cell? ⟨m, 10, none⟩ = some (.string ⟨s.m.np.toArray⟩) := hM.cells.2.2.2.2.2.2.2.2.2.2
  have f9 := h.frz 9
  have f10 := h.frz 10
  have hlt := h.lt
  have hnt := hok.nt
  have hz := svSize s.m.nt
  unfold nameAdd
  by_cases h58 : b.toNat ≠ 58
  · rw [if_pos h58]
    have z58 : ((b.toNat : Int) != 58) = true := by rw [bne_iff_ne]; omega
    have hA := Lib.hid (nadd_any w m 9 ⟨s.m.nt.toArray⟩ b c9 f9 hlt (by omega))
    by_cases h16 : 16 ≤ s.m.nt.length
    · rw [if_pos h16]
      have H6 := Lib.hid h16
      have HF : Hid (APo w base m o ck e mb g (s.mr ⟨s.m, 4⟩) (.returned (.int .i64 4)) w) := Lib.hid ⟨rfl, h, Tch.refl _ _ _⟩
      clear h hM hok h58 h16
      go_enter Tryz.func129, Tryz.ntmps129
      go_wp2_with fail
      refine hA.out.mono ?_
      rintro E w2 hq
      rw [if_pos (by rw [hz]; exact H6.out)] at hq
      obtain ⟨rfl, rfl⟩ := hq
      go_wp2
      go_ret
      exact HF.out
    · rw [if_neg h16]
      have H6 := Lib.hid h16
      have hS := h.set 9 (sv (s.m.nt ++ [b])) { s.m with nt := s.m.nt ++ [b] } (fun _ _ => rfl) rfl rfl rfl rfl rfl
      have HF : Hid (∀ w2, Below (w.setCell ⟨m, 9, none⟩ (.string (⟨s.m.nt.toArray⟩ ++ ⟨#[b]⟩))).heap.size (w.setCell ⟨m, 9, none⟩ (.string (⟨s.m.nt.toArray⟩ ++ ⟨#[b]⟩))) w2 → APo w base m o ck e mb g (s.mr ⟨{ s.m with nt := s.m.nt ++ [b] }, 0⟩) (.returned (.int .i64 0)) w2) := by
        refine Lib.hid fun w2 hb2 => ?_
        rw [strOne] at hb2
        exact ⟨rfl, hS.1.below hb2, hS.2.trans (Tch.of_below hb2)⟩
      clear h hM hok h58 h16 hS
      go_enter Tryz.func129, Tryz.ntmps129
      go_wp2_with fail
      refine hA.out.mono ?_
      rintro E w2 hq
      rw [if_neg (by rw [hz]; exact H6.out)] at hq
      obtain ⟨rfl, hb2⟩ := hq
      have HB2 := Lib.hid hb2
      clear hb2
      go_wp2
      go_ret
      exact HF.out _ HB2.out
  · rw [if_neg h58]
    have z58 : ((b.toNat : Int) != 58) = false := by rw [bne_eq_false_iff_eq]; omega
    have hA := Lib.hid (nend_any w m 9 ⟨s.m.nt.toArray⟩ c9 f9 hlt (by omega))
    have h1 := h.set 9 (.string ⟨#[]⟩) { s.m with nt := [] } (fun _ _ => rfl) rfl rfl rfl rfl rfl
    have c10' : (w.setCell ⟨m, 9, none⟩ (.string ⟨#[]⟩)).cell? ⟨m, 10, none⟩ = some (.string ⟨s.m.np.toArray⟩) := by obtain ⟨_, _, q⟩ := h1.1.mc; exact q.cells.2.2.2.2.2.2.2.2.2.2
    have f10' : (w.setCell ⟨m, 9, none⟩ (.string ⟨#[]⟩)).frozen? ⟨m, 10, none⟩ = false := h1.1.frz 10
    have h2 := h1.1.set 10 (sv s.m.nt) { s.m with np := s.m.nt, nt := [] } (fun _ _ => rfl) rfl rfl rfl rfl rfl
    have hlt' := h1.1.lt
    have HF := Lib.hid (And.intro h2.1 (h1.2.trans h2.2))
    have e0 : (if (⟨s.m.nt.toArray⟩ : ByteArray).size = 0 then (2 : Int) else 0) = (if s.m.nt = [] then 2 else 0) := by rw [hz]; simp
    obtain ⟨k, hk⟩ : ∃ k : Int, (if s.m.nt = [] then (2 : Int) else 0) = k := ⟨_, rfl⟩
    rw [hk] at e0 ⊢
    have HE := Lib.hid e0
    clear hk
    clear h hM hok h58 h1 h2 c9 f9 c10 f10 e0
    obtain ⟨W, hW⟩ : ∃ W, w.setCell ⟨m, 9, none⟩ (.string ⟨#[]⟩) = W := ⟨_, rfl⟩
    rw [hW] at c10' f10' hlt' HF
    have HW := Lib.hid hW
    clear hW
    go_enter Tryz.func129, Tryz.ntmps129
    go_wp2_with fail
    refine hA.out.mono ?_
    rintro E w2 ⟨rfl, rfl⟩
    rw [HW.out, HE.out]
    go_wp2
    go_ret
    exact ⟨rfl, HF.out⟩

set_option maxHeartbeats 4000000 in
theorem aoend_any (h : AX w base m o ck e mb g s) (hok : AgOk s.m) :
    Calls Tryz.prog 130 #[.pointer (some ⟨m, 9, none⟩)] w fun E w' => E = .returned (.tuple #[.agg #[sv s.m.np, sv s.m.nt], .int .i64 (if s.m.nt = [] then 2 else 0)]) ∧ AX w' base m o ck e mb g { s with m := nameGone s.m } ∧ Tch base axO w w' := by
  obtain ⟨av, ov, hM⟩ := h.mc
  have c10 : w.cell? ⟨m, 10, none⟩ = some (.string ⟨s.m.np.toArray⟩) := hM.cells.2.2.2.2.2.2.2.2.2.2
  have f10 := h.frz 10
  have hlt := h.lt
  have hnt := hok.nt
  have hz := svSize s.m.nt
  have h1 := h.set 10 (.string ⟨#[]⟩) { s.m with np := [] } (fun _ _ => rfl) rfl rfl rfl rfl rfl
  have h2 := h1.1.set 9 (.string ⟨#[]⟩) (nameGone s.m) (fun _ _ => rfl) rfl rfl rfl rfl rfl
  have HF := Lib.hid (And.intro h2.1 (h1.2.trans h2.2))
  have e0 : (if (⟨s.m.nt.toArray⟩ : ByteArray).size = 0 then (2 : Int) else 0) = (if s.m.nt = [] then 2 else 0) := by rw [hz]; simp
  obtain ⟨k, hk⟩ : ∃ k : Int, (if s.m.nt = [] then (2 : Int) else 0) = k := ⟨_, rfl⟩
  rw [hk] at e0 ⊢
  have HE := Lib.hid e0
  clear hk
  have hA := Lib.hid (fun (o : Obj) => nend_any ((w.setCell ⟨m, 10, none⟩ (.string ⟨#[]⟩)).alloc o) m 9 ⟨s.m.nt.toArray⟩ (by obtain ⟨_, _, q⟩ := (h1.1.below ((Below.refl _ _).alloc (Nat.le_refl _) o)).mc; exact q.cells.2.2.2.2.2.2.2.2.2.1) ((h1.1.below ((Below.refl _ _).alloc (Nat.le_refl _) o)).frz 9) ((h1.1.below ((Below.refl _ _).alloc (Nat.le_refl _) o)).lt) (by omega))
  clear h hM hok h1 h2 e0
  go_enter Tryz.func130, Tryz.ntmps130
  go_wp2_with fail
  refine (hA.out _).mono ?_
  rintro E w2 ⟨rfl, rfl⟩
  rw [HE.out, World.setCell_alloc_past _ _ _ _ (by simp; omega)]
  obtain ⟨V, hV⟩ : ∃ V, (w.setCell ⟨m, 10, none⟩ (.string ⟨#[]⟩)).setCell ⟨m, 9, none⟩ (.string ⟨#[]⟩) = V := ⟨_, rfl⟩
  rw [hV] at HF ⊢
  have hVs : V.heap.size = w.heap.size := by rw [← hV]; simp
  rw [← hVs]
  clear hV hVs c10 f10 hlt
  go_wp2
  (try simp only [Exit.inBlock, Exit.then])
  refine bodyPost_ret (v := .tuple #[.agg #[sv s.m.np, sv s.m.nt], .int .i64 k]) ?_ rfl ⟨rfl, HF.out.1.below ((Below.refl _ _).alloc (Nat.le_refl _) _), HF.out.2.alloc _⟩
  rw [results_cell_tmp rfl]
  unfold sv
  go_simp
end
end Go.Proofs.YtjepnddndpmnnaaGreat

/-
  angle: must, marked, entityName, entityText, define, equals, attrText.
  angle: entityName, entityText, define, equals.
  angle: define.
-/
import Derived.Test.YtjepnddndpmnnaaGreatGsB24
import Derived.Test.YtjepnddndpmnnaaGreatGsB15
namespace Go.Proofs.YtjepnddndpmnnaaGreat
open Go.RowKit Go.Maps
set_option maxRecDepth 100000
set_option linter.unusedSimpArgs false
set_option linter.unusedVariables false
set_option linter.unusedSectionVars false
set_option linter.unusedSectionVars false
variable [Tab] [Fo]

section
variable {w w' : World} {base m o ck e mb g : Nat} {s : As}

theorem AX.at0 (h : AX w base m o ck e mb g s) : w.cell? ⟨m, 0, none⟩ = some (.int .i64 s.m.a) := by obtain ⟨_, _, q⟩ := h.mc; exact q.cells.1
theorem AX.setAt (h : AX w base m o ck e mb g s) (a : Int) : AX (w.setCell ⟨m, 0, none⟩ (.int .i64 a)) base m o ck e mb g (setAt s a) ∧ Tch base axO w (w.setCell ⟨m, 0, none⟩ (.int .i64 a)) :=
  h.set 0 (.int .i64 a) { s.m with a := a } (fun _ _ => rfl) rfl rfl rfl rfl rfl
theorem APo.of (h : AX w' base m o ck e mb g s) (ht : Tch base axO w w') (k : Int) : APo w base m o ck e mb g ⟨s, k⟩ (.returned (.int .i64 k)) w' := ⟨rfl, h, ht⟩

theorem amust_any (b : UInt8) (c : Nat) (a : Int) (h : AX w base m o ck e mb g s) :
    Calls Tryz.prog 107 #[.pointer (some ⟨m, 0, none⟩), .int .u8 (b.toNat : Int), .int .u8 (c : Int), .int .i64 a] w (APo w base m o ck e mb g (s.mr (mustA s.m b c a))) := by
  have c0 := h.at0
  have f0 := h.frz 0
  have hlt := h.lt
  unfold mustA
  by_cases hb : b.toNat ≠ c
  · rw [if_pos hb]
    have z : ((b.toNat : Int) != (c : Int)) = true := by rw [bne_iff_ne]; omega
    have HF := Lib.hid (APo.of h (Tch.refl _ _ _) 2)
    clear h hb
    go_enter Tryz.func107, Tryz.ntmps107
    go_wp2
    go_ret
    exact HF.out
  · rw [if_neg hb]
    have z : ((b.toNat : Int) != (c : Int)) = false := by rw [bne_eq_false_iff_eq]; omega
    have HF := Lib.hid (APo.of (h.setAt a).1 (h.setAt a).2 0)
    clear h hb
    go_enter Tryz.func107, Tryz.ntmps107
    go_wp2
    go_ret
    exact HF.out

theorem AX.c1 (h : AX w base m o ck e mb g s) : w.cell? ⟨m, 1, none⟩ = some (.string ⟨s.m.rest.toArray⟩) := by obtain ⟨_, _, q⟩ := h.mc; exact q.cells.2.1
theorem AX.c2 (h : AX w base m o ck e mb g s) : w.cell? ⟨m, 2, none⟩ = some (.string ⟨s.m.ent.toArray⟩) := by obtain ⟨_, _, q⟩ := h.mc; exact q.cells.2.2.1
theorem AX.c3 (h : AX w base m o ck e mb g s) : w.cell? ⟨m, 3, none⟩ = some (.string ⟨s.m.nmd.toArray⟩) := by obtain ⟨_, _, q⟩ := h.mc; exact q.cells.2.2.2.1
theorem AX.c4 (h : AX w base m o ck e mb g s) : w.cell? ⟨m, 4, none⟩ = some (.pointer (some ⟨e, 0, none⟩)) := by obtain ⟨_, _, q⟩ := h.mc; exact q.cells.2.2.2.2.1
theorem ext_tail (c : UInt8) (t : List UInt8) : (⟨(c :: t).toArray⟩ : ByteArray).extract 1 (t.length + 1) = ⟨t.toArray⟩ := by
  apply ByteArray.ext
  rw [← Array.toList_inj]
  simp [ByteArray.data_extract]

set_option maxHeartbeats 4000000 in
theorem amarked_any (b : UInt8) (h : AX w base m o ck e mb g s) (hr : s.m.rest ≠ []) (hl : s.m.rest.length ≤ 1000) :
    Calls Tryz.prog 109 #[.pointer (some ⟨m, 0, none⟩), .int .u8 (b.toNat : Int)] w (APo w base m o ck e mb g (s.mr (markedA s.m b))) := by
  have c1 := h.c1
  have c0 := h.at0
  have f1 := h.frz 1
  have f0 := h.frz 0
  have hlt := h.lt
  unfold markedA
  obtain ⟨r, hre⟩ : ∃ r, s.m.rest = r := ⟨_, rfl⟩
  rw [hre] at c1 hr hl ⊢
  match r, hr with
  | c :: t, _ =>
  have hz : (⟨(c :: t).toArray⟩ : ByteArray).size = t.length + 1 := svSize _
  have h0z : 0 < (⟨(c :: t).toArray⟩ : ByteArray).size := by omega
  have hx := ext_tail c t
  have hl1 : t.length ≤ 1000 := by simp at hl; omega
  by_cases hb : b ≠ c
  · rw [if_pos (show b ≠ (c :: t).headD 0 from hb)]
    have z : ((b.toNat : Int) != (((⟨(c :: t).toArray⟩ : ByteArray)[0]'h0z).toNat : Int)) = true := by
      show ((b.toNat : Int) != (c.toNat : Int)) = true
      rw [bne_iff_ne]; intro hc; exact hb (UInt8.toNat_inj.1 (by omega))
    have HF := Lib.hid (APo.of h (Tch.refl _ _ _) 2)
    clear h hb hl hre
    go_enter Tryz.func109, Tryz.ntmps109
    go_wp2
    go_ret
    exact HF.out
  · rw [if_neg (show ¬ b ≠ (c :: t).headD 0 from hb)]
    have hbc : b = c := Classical.byContradiction hb
    have z : ((b.toNat : Int) != (((⟨(c :: t).toArray⟩ : ByteArray)[0]'h0z).toNat : Int)) = false := by
      show ((b.toNat : Int) != (c.toNat : Int)) = false
      rw [bne_eq_false_iff_eq, hbc]
    have h1 := h.set 1 (.string ⟨t.toArray⟩) { s.m with rest := t } (fun _ _ => rfl) rfl rfl rfl rfl rfl
    have c1' := h1.1.c1
    have c0' := h1.1.at0
    have f0' := h1.1.frz 0
    have hlt' := h1.1.lt
    by_cases ht : t = []
    · rw [if_pos (show (c :: t).tail = [] from ht)]
      subst ht
      have h2 := h1.1.setAt 3
      have HF := Lib.hid (APo.of h2.1 (h1.2.trans h2.2) 0)
      clear h hb hl hre h1 h2 hbc
      go_enter Tryz.func109, Tryz.ntmps109
      go_wp2
      go_ret
      exact HF.out
    · rw [if_neg (show ¬ (c :: t).tail = [] from ht)]
      have HF := Lib.hid (APo.of h1.1 h1.2 0)
      have ht1 := strEmp ht
      have ht2 : t.isEmpty = false := by cases t with | nil => exact absurd rfl ht | cons _ _ => rfl
      clear h hb hl hre h1 hbc ht
      go_enter Tryz.func109, Tryz.ntmps109
      go_wp2
      go_ret
      exact HF.out
end
end Go.Proofs.YtjepnddndpmnnaaGreat
namespace Go.Proofs.YtjepnddndpmnnaaGreat
open Go.RowKit Go.Maps
set_option maxRecDepth 100000
set_option linter.unusedSimpArgs false
set_option linter.unusedVariables false
set_option linter.unusedSectionVars false
set_option linter.unusedSectionVars false
variable [Tab] [Fo]

section
variable {w w' : World} {base m o ck e mb g : Nat} {s : As}

set_option maxHeartbeats 4000000 in
theorem aentname_any (b : UInt8) (h : AX w base m o ck e mb g s) (hok : AgOk s.m) :
    Calls Tryz.prog 110 #[.pointer (some ⟨m, 0, none⟩), .int .u8 (b.toNat : Int)] w (APo w base m o ck e mb g (s.mr (entNameA s.m b))) := by
  have c2 := h.c2
  have hlt := h.lt
  have hen := hok.ent
  have hz := svSize s.m.ent
  have hG := Lib.hid (ngoes_any w m 2 ⟨s.m.ent.toArray⟩ b c2 hlt (by omega))
  have H := Lib.hid h
  unfold entNameA
  by_cases hg : goesN s.m.ent b = true
  · rw [if_pos hg]
    have HG : Hid (nGo ⟨s.m.ent.toArray⟩ b = true) := Lib.hid hg
    by_cases h16 : 16 ≤ s.m.ent.length
    · rw [if_pos h16]
      have H6 := Lib.hid h16
      clear h c2 hlt hg h16 hok
      go_enter Tryz.func110, Tryz.ntmps110
      go_wp2_with fail
      refine hG.out.mono ?_
      rintro E w1 ⟨rfl, hb1⟩
      rw [HG.out]
      have h1 := H.out.below hb1
      have hA := Lib.hid (nadd_any w1 m 2 ⟨s.m.ent.toArray⟩ b h1.c2 (h1.frz 2) h1.lt (by omega))
      have HF := Lib.hid (APo.of h1 (Tch.of_below hb1) 4)
      clear h1 hb1
      go_wp2_with fail
      refine hA.out.mono ?_
      rintro E w2 hq
      rw [if_pos (by rw [hz]; exact H6.out)] at hq
      obtain ⟨rfl, rfl⟩ := hq
      go_wp2
      go_ret
      exact HF.out
    · rw [if_neg h16]
      have H6 := Lib.hid h16
      clear h c2 hlt hg h16 hok
      go_enter Tryz.func110, Tryz.ntmps110
      go_wp2_with fail
      refine hG.out.mono ?_
      rintro E w1 ⟨rfl, hb1⟩
      rw [HG.out]
      have h1 := H.out.below hb1
      have hA := Lib.hid (nadd_any w1 m 2 ⟨s.m.ent.toArray⟩ b h1.c2 (h1.frz 2) h1.lt (by omega))
      have hS := h1.set 2 (sv (s.m.ent ++ [b])) { s.m with ent := s.m.ent ++ [b] } (fun _ _ => rfl) rfl rfl rfl rfl rfl
      have HF : Hid (∀ w2, Below (w1.setCell ⟨m, 2, none⟩ (.string (⟨s.m.ent.toArray⟩ ++ ⟨#[b]⟩))).heap.size (w1.setCell ⟨m, 2, none⟩ (.string (⟨s.m.ent.toArray⟩ ++ ⟨#[b]⟩))) w2 → APo w base m o ck e mb g (s.mr ⟨{ s.m with ent := s.m.ent ++ [b] }, 0⟩) (.returned (.int .i64 0)) w2) := by
        refine Lib.hid fun w2 hb2 => ?_
        rw [strOne] at hb2
        exact ⟨rfl, hS.1.below hb2, (Tch.of_below hb1).trans (hS.2.trans (Tch.of_below hb2))⟩
      clear h1 hb1 hS
      go_wp2_with fail
      refine hA.out.mono ?_
      rintro E w2 hq
      rw [if_neg (by rw [hz]; exact H6.out)] at hq
      obtain ⟨rfl, hb2⟩ := hq
      have HB2 := Lib.hid hb2
      clear hb2
      go_wp2
      go_ret
      exact HF.out _ HB2.out
  · rw [if_neg hg]
    have HG : Hid (nGo ⟨s.m.ent.toArray⟩ b = false) := Lib.hid (by rw [nGo_eq]; simpa using hg)
    have HGen : Hid (∀ (w1 : World), Below w.heap.size w w1 → AX ((w1.setCell ⟨m, 2, none⟩ (.string ⟨#[]⟩)).setCell ⟨m, 3, none⟩ (.string ⟨s.m.ent.toArray⟩)) base m o ck e mb g { s with m := { s.m with nmd := s.m.ent, ent := [] } } ∧ Tch base axO w ((w1.setCell ⟨m, 2, none⟩ (.string ⟨#[]⟩)).setCell ⟨m, 3, none⟩ (.string ⟨s.m.ent.toArray⟩)) ∧ AX (w1.setCell ⟨m, 2, none⟩ (.string ⟨#[]⟩)) base m o ck e mb g { s with m := { s.m with ent := [] } }) := Lib.hid fun w1 hb1 => by
      have hS := (h.below hb1).set 2 (.string ⟨#[]⟩) { s.m with ent := [] } (fun _ _ => rfl) rfl rfl rfl rfl rfl
      have hS2 := hS.1.set 3 (sv s.m.ent) { s.m with nmd := s.m.ent, ent := [] } (fun _ _ => rfl) rfl rfl rfl rfl rfl
      exact ⟨hS2.1, (Tch.of_below hb1).trans (hS.2.trans hS2.2), hS.1⟩
    by_cases hne : s.m.ent = []
    · rw [if_pos hne]
      have hz0 : (⟨s.m.ent.toArray⟩ : ByteArray).size = 0 := by rw [hz, hne]; rfl
      have HN := Lib.hid hne
      clear h c2 hlt hg hok hne
      go_enter Tryz.func110, Tryz.ntmps110
      go_wp2_with fail
      refine hG.out.mono ?_
      rintro E w1 ⟨rfl, hb1⟩
      rw [HG.out]
      have h1 := H.out.below hb1
      have hA := Lib.hid (nend_any w1 m 2 ⟨s.m.ent.toArray⟩ h1.c2 (h1.frz 2) h1.lt (by omega))
      have hF := HGen.out w1 hb1
      have HF : Hid (APo w base m o ck e mb g (s.mr ⟨{ s.m with nmd := [], ent := [] }, 2⟩) (.returned (.int .i64 2)) _) := Lib.hid ⟨rfl, by have := hF.1; rw [HN.out] at this; exact this, by have := hF.2.1; rw [HN.out] at this; exact this⟩
      have c3 := hF.2.2.c3
      have f3 := hF.2.2.frz 3
      have hlt := hF.2.2.lt
      rw [HN.out] at hA hz0
      clear h1 hb1 hF
      obtain ⟨W, hW⟩ : ∃ W, w1.setCell ⟨m, 2, none⟩ (.string ⟨#[]⟩) = W := ⟨_, rfl⟩
      rw [hW] at HF c3 f3 hlt hA
      clear hW
      go_wp2_with fail
      refine hA.out.mono ?_
      rintro E w2 ⟨rfl, rfl⟩
      rw [if_pos hz0]
      clear hz0 hz
      go_wp2
      go_ret
      exact HF.out
    · rw [if_neg hne]
      have hz0 : ¬ (⟨s.m.ent.toArray⟩ : ByteArray).size = 0 := by rw [hz]; intro hc; exact hne (List.eq_nil_of_length_eq_zero hc)
      have HN := Lib.hid hz0
      clear h c2 hlt hg hok hne hz0
      go_enter Tryz.func110, Tryz.ntmps110
      go_wp2_with fail
      refine hG.out.mono ?_
      rintro E w1 ⟨rfl, hb1⟩
      rw [HG.out]
      have h1 := H.out.below hb1
      have hA := Lib.hid (nend_any w1 m 2 ⟨s.m.ent.toArray⟩ h1.c2 (h1.frz 2) h1.lt (by omega))
      have hF := HGen.out w1 hb1
      have c3 := hF.2.2.c3
      have f3 := hF.2.2.frz 3
      have hlt := hF.2.2.lt
      have hM := Lib.hid (amust_any b 32 4 hF.1)
      have HT := Lib.hid hF.2.1
      clear h1 hb1 hF
      obtain ⟨W, hW⟩ : ∃ W, w1.setCell ⟨m, 2, none⟩ (.string ⟨#[]⟩) = W := ⟨_, rfl⟩
      rw [hW] at c3 f3 hlt hA hM HT
      clear hW
      go_wp2_with fail
      refine hA.out.mono ?_
      rintro E w2 ⟨rfl, rfl⟩
      rw [if_neg HN.out]
      go_wp2_with fail
      refine hM.out.mono ?_
      intro E w3 hq
      have HF := Lib.hid (hq.pre HT.out)
      have hE := hq.1
      clear hq
      subst hE
      go_wp2
      go_ret
      exact HF.out

set_option maxHeartbeats 4000000 in
theorem aenttext_any (b : UInt8) (h : AX w base m o ck e mb g s) (hok : AgOk s.m) :
    Calls Tryz.prog 111 #[.pointer (some ⟨m, 0, none⟩), .int .u8 (b.toNat : Int)] w (APo w base m o ck e mb g (s.mr (entTextA s.m b))) := by
  have c0 := h.at0
  have f0 := h.frz 0
  have hlt := h.lt
  have hE := Lib.hid (aended_any b 34 h)
  unfold entTextA
  cases hz : endedA s.m b 34 with
  | true =>
    rw [if_pos rfl]
    rw [hz] at hE
    have HF := Lib.hid (APo.of (h.setAt 6).1 (h.setAt 6).2 0)
    clear h hok hz
    go_enter Tryz.func111, Tryz.ntmps111
    go_wp2_with fail
    refine hE.out.mono ?_
    rintro E w1 ⟨rfl, rfl⟩
    go_wp2
    go_ret
    exact HF.out
  | false =>
    rw [if_neg (by decide)]
    rw [hz] at hE
    have hA := Lib.hid (aadd_any b h hok)
    obtain ⟨R, hR⟩ : ∃ R, s.mr (addR s.m b) = R := ⟨_, rfl⟩
    rw [hR] at hA ⊢
    clear h hok hz hR
    go_enter Tryz.func111, Tryz.ntmps111
    go_wp2_with fail
    refine hE.out.mono ?_
    rintro E w1 ⟨rfl, rfl⟩
    go_wp2_with fail
    refine hA.out.mono ?_
    intro E w3 hq
    have HF := Lib.hid hq
    have hE := hq.1
    clear hq
    subst hE
    go_wp2
    go_ret
    exact HF.out

theorem AX.c15 (h : AX w base m o ck e mb g s) : ∃ A cap, w.cell? ⟨m, 15, none⟩ = some (.slice A s.m.ats.length cap) := by
  obtain ⟨av, ov, q⟩ := h.mc
  have h1 := q.cells2.2.2.2.2.1
  rcases q.ats.2 with ⟨rfl, h0⟩ | ⟨g', cap, cur, rfl, _⟩
  · rw [h0]; exact ⟨none, 0, h1⟩
  · exact ⟨_, _, h1⟩

set_option maxHeartbeats 4000000 in
theorem aequals_any (b : UInt8) (h : AX w base m o ck e mb g s) (hl : s.m.ats.length ≤ 1000) :
    Calls Tryz.prog 116 #[.pointer (some ⟨m, 0, none⟩), .int .u8 (b.toNat : Int)] w (APo w base m o ck e mb g (s.mr (equalsA s.m b))) := by
  obtain ⟨A, cap, c15⟩ := h.c15
  have hlt := h.lt
  have hM := Lib.hid (amust_any b 61 12 h)
  obtain ⟨n, hn⟩ : ∃ n, s.m.ats.length = n := ⟨_, rfl⟩
  unfold equalsA
  rw [hn] at c15 hl ⊢
  by_cases h61 : b.toNat = 61
  · have z61 : ((b.toNat : Int) == 61) = true := by rw [beq_iff_eq]; omega
    by_cases h20 : 20 ≤ n
    · rw [if_pos ⟨h61, h20⟩]
      have z20 : decide ((20 : Int) ≤ (n : Int)) = true := by simp; omega
      have HF := Lib.hid (APo.of h (Tch.refl _ _ _) 7)
      clear h hM h61 h20 hn
      go_enter Tryz.func116, Tryz.ntmps116
      go_wp2
      go_ret
      exact HF.out
    · rw [if_neg (fun hc => h20 hc.2)]
      have z20 : decide ((20 : Int) ≤ (n : Int)) = false := by simp; omega
      obtain ⟨R, hR⟩ : ∃ R, s.mr (mustA s.m b 61 12) = R := ⟨_, rfl⟩
      rw [hR] at hM ⊢
      clear h h61 h20 hn hR
      go_enter Tryz.func116, Tryz.ntmps116
      go_wp2_with fail
      refine hM.out.mono ?_
      intro E w3 hq
      have HF := Lib.hid hq
      have hE := hq.1
      clear hq
      subst hE
      go_wp2
      go_ret
      exact HF.out
  · have z61 : ((b.toNat : Int) == 61) = false := by rw [beq_eq_false_iff_ne]; omega
    rw [if_neg (fun hc => h61 hc.1)]
    obtain ⟨R, hR⟩ : ∃ R, s.mr (mustA s.m b 61 12) = R := ⟨_, rfl⟩
    rw [hR] at hM ⊢
    clear h h61 hn hR
    go_enter Tryz.func116, Tryz.ntmps116
    go_wp2_with fail
    refine hM.out.mono ?_
    intro E w3 hq
    have HF := Lib.hid hq
    have hE := hq.1
    clear hq
    subst hE
    go_wp2
    go_ret
    exact HF.out
end
end Go.Proofs.YtjepnddndpmnnaaGreat
namespace Go.Proofs.YtjepnddndpmnnaaGreat
open Go.RowKit Go.Maps
set_option maxRecDepth 100000
set_option linter.unusedSimpArgs false
set_option linter.unusedVariables false
set_option linter.unusedSectionVars false
set_option linter.unusedSectionVars false
variable [Tab] [Fo]

section
variable {w w' : World} {base m o ck e mb g : Nat} {s : As}
theorem AX.drew (h : AX w base m o ck e mb g s) : AX w.drew base m o ck e mb g s := h.below (below_drew (Below.refl _ _))

set_option maxHeartbeats 4000000 in
theorem adefine_any (b : UInt8) (h : AX w base m o ck e mb g s) (hok : AgOk s.m) :
    Calls Tryz.prog 112 #[.pointer (some ⟨m, 0, none⟩), .int .u8 (b.toNat : Int)] w (APo w base m o ck e mb g (s.mr (defineA s.m b))) := by
  have c0 := h.at0
  have f0 := h.frz 0
  have hlt := h.lt
  unfold defineA
  by_cases hb : b.toNat ≠ 62
  · rw [if_pos hb]
    have z : ((b.toNat : Int) != 62) = true := by rw [bne_iff_ne]; omega
    have HF := Lib.hid (APo.of h (Tch.refl _ _ _) 2)
    clear h hb
    go_enter Tryz.func112, Tryz.ntmps112
    go_wp2
    go_ret
    exact HF.out
  · rw [if_neg hb]
    have z : ((b.toNat : Int) != 62) = false := by rw [bne_eq_false_iff_eq]; omega
    have h1 := h.setAt 0
    have hn := hok.nmd
    have hr := hok.rt
    have HD : Hid (AX (w.setCell ⟨m, 0, none⟩ (.int .i64 0)).drew base m o ck e mb g (setAt s 0)) := Lib.hid h1.1.drew
    have HT : Hid (Tch base axO w (w.setCell ⟨m, 0, none⟩ (.int .i64 0)).drew) := Lib.hid h1.2.drew
    have d4 := h1.1.drew.c4
    have d3 : (w.setCell ⟨m, 0, none⟩ (.int .i64 0)).drew.cell? ⟨m, 3, none⟩ = some (.string ⟨s.m.nmd.toArray⟩) := h1.1.drew.c3
    clear h hb h1 hok
    go_enter Tryz.func112, Tryz.ntmps112
    go_wp2
    refine region_g [13] (S := (fun W => W.cell? ⟨m, 4, none⟩ = some (.pointer (some ⟨e, 0, none⟩)) ∧ W.cell? ⟨m, 3, none⟩ = some (.string ⟨s.m.nmd.toArray⟩))) (by kernel_rfl) ⟨d4, d3⟩ (fun hH => ?_)
    refine g_take (i := 0) (v := .pointer (some ⟨m, 0, none⟩)) (by rfl) (by kernel_rfl) (by kernel_rfl) (by kernel_rfl) (by kernel_rfl) (fun _ _ _ h => (by cases h.1)) (Or.inl ⟨by kernel_rfl, fun W hS => (by obtain ⟨s0, s1⟩ := hS; go_simp)⟩) hH ?_
    simp only [Act.put, List.setIfInBounds_toArray, List.set_cons_zero, List.set_cons_succ]
    refine g_take (i := 1) (v := .pointer (some ⟨m, 0, none⟩)) (by rfl) (by kernel_rfl) (by kernel_rfl) (by kernel_rfl) (by kernel_rfl) (fun _ _ _ h => (by cases h.1)) (Or.inl ⟨by kernel_rfl, fun W hS => (by obtain ⟨s0, s1⟩ := hS; go_simp)⟩) hH ?_
    simp only [Act.put, List.setIfInBounds_toArray, List.set_cons_zero, List.set_cons_succ]
    refine g_take (i := 2) (v := .pointer (some ⟨m, 4, none⟩)) (by rfl) (by kernel_rfl) (by kernel_rfl) (by kernel_rfl) (by kernel_rfl) (fun _ _ _ h => (by cases h.1)) (Or.inl ⟨by kernel_rfl, fun W hS => (by obtain ⟨s0, s1⟩ := hS; go_simp)⟩) hH ?_
    simp only [Act.put, List.setIfInBounds_toArray, List.set_cons_zero, List.set_cons_succ]
    refine g_take (i := 3) (v := .pointer (some ⟨e, 0, none⟩)) (by rfl) (by kernel_rfl) (by kernel_rfl) (by kernel_rfl) (by kernel_rfl) (fun _ _ _ h => (by cases h.1)) (Or.inl ⟨by kernel_rfl, fun W hS => (by obtain ⟨s0, s1⟩ := hS; go_simp)⟩) hH ?_
    simp only [Act.put, List.setIfInBounds_toArray, List.set_cons_zero, List.set_cons_succ]
    refine g_take (i := 4) (v := .pointer (some ⟨m, 0, none⟩)) (by rfl) (by kernel_rfl) (by kernel_rfl) (by kernel_rfl) (by kernel_rfl) (fun _ _ _ h => (by cases h.1)) (Or.inl ⟨by kernel_rfl, fun W hS => (by obtain ⟨s0, s1⟩ := hS; go_simp)⟩) hH ?_
    simp only [Act.put, List.setIfInBounds_toArray, List.set_cons_zero, List.set_cons_succ]
    refine g_take (i := 5) (v := .pointer (some ⟨m, 0, none⟩)) (by rfl) (by kernel_rfl) (by kernel_rfl) (by kernel_rfl) (by kernel_rfl) (fun _ _ _ h => (by cases h.1)) (Or.inl ⟨by kernel_rfl, fun W hS => (by obtain ⟨s0, s1⟩ := hS; go_simp)⟩) hH ?_
    simp only [Act.put, List.setIfInBounds_toArray, List.set_cons_zero, List.set_cons_succ]
    refine g_take (i := 6) (v := .pointer (some ⟨m, 3, none⟩)) (by rfl) (by kernel_rfl) (by kernel_rfl) (by kernel_rfl) (by kernel_rfl) (fun _ _ _ h => (by cases h.1)) (Or.inl ⟨by kernel_rfl, fun W hS => (by obtain ⟨s0, s1⟩ := hS; go_simp)⟩) hH ?_
    simp only [Act.put, List.setIfInBounds_toArray, List.set_cons_zero, List.set_cons_succ]
    refine g_take (i := 7) (v := .string ⟨s.m.nmd.toArray⟩) (by rfl) (by kernel_rfl) (by kernel_rfl) (by kernel_rfl) (by kernel_rfl) (fun _ _ _ h => (by cases h.1)) (Or.inl ⟨by kernel_rfl, fun W hS => (by obtain ⟨s0, s1⟩ := hS; go_simp)⟩) hH ?_
    simp only [Act.put, List.setIfInBounds_toArray, List.set_cons_zero, List.set_cons_succ]
    refine g_take (i := 8) (v := .pointer (some ⟨m, 0, none⟩)) (by rfl) (by kernel_rfl) (by kernel_rfl) (by kernel_rfl) (by kernel_rfl) (fun _ _ _ h => (by cases h.1)) (Or.inl ⟨by kernel_rfl, fun W hS => (by obtain ⟨s0, s1⟩ := hS; go_simp)⟩) hH ?_
    simp only [Act.put, List.setIfInBounds_toArray, List.set_cons_zero, List.set_cons_succ]
    refine g_take (i := 9) (v := .pointer (some ⟨m, 0, none⟩)) (by rfl) (by kernel_rfl) (by kernel_rfl) (by kernel_rfl) (by kernel_rfl) (fun _ _ _ h => (by cases h.1)) (Or.inl ⟨by kernel_rfl, fun W hS => (by obtain ⟨s0, s1⟩ := hS; go_simp)⟩) hH ?_
    simp only [Act.put, List.setIfInBounds_toArray, List.set_cons_zero, List.set_cons_succ]
    refine g_take (i := 10) (v := .pointer (some ⟨m, 5, none⟩)) (by rfl) (by kernel_rfl) (by kernel_rfl) (by kernel_rfl) (by kernel_rfl) (fun _ _ _ h => (by cases h.1)) (Or.inl ⟨by kernel_rfl, fun W hS => (by obtain ⟨s0, s1⟩ := hS; go_simp)⟩) hH ?_
    simp only [Act.put, List.setIfInBounds_toArray, List.set_cons_zero, List.set_cons_succ]
    refine g_one (i := 11) (by kernel_rfl) (by rfl) (fun K hK => ?_)
    go_simp
    refine (atake_any HD.out).mono ?_
    rintro E w2 ⟨rfl, h2, t2⟩
    have H2 := Lib.hid h2
    have T2' := Lib.hid (HT.out.trans t2)
    have k4 := h2.c4
    have k3 : w2.cell? ⟨m, 3, none⟩ = some (.string ⟨s.m.nmd.toArray⟩) := h2.c3
    clear h2 t2
    refine hK.out _ _ (fun _ => ⟨k4, k3⟩) (fun _ => ?_)
    clear hK K hH
    try simp only [Act.put, List.setIfInBounds_toArray, List.set_cons_zero, List.set_cons_succ]
    refine g_one (i := 12) (by kernel_rfl) (by rfl) (fun K hK => ?_)
    go_simp
    have hD := edefine_any w2 e mb s.m.L s.m.told ⟨s.m.nmd.toArray⟩ ⟨s.m.rt.toArray⟩ H2.out.ent (by rw [svSize]; omega) (by rw [svSize]; omega)
    refine hD.mono ?_
    rintro E w3 ⟨rfl, hE3, hT3⟩
    have h3 := H2.out.entc hE3 hT3
    have HF : Hid (APo w base m o ck e mb g (s.mr ⟨{ s.m with a := 0, rt := [], L := defE s.m.L s.m.nmd s.m.rt }, defC s.m.L s.m.nmd s.m.rt⟩) (.returned (.int .i64 (defC s.m.L s.m.nmd s.m.rt))) w3) := Lib.hid ⟨rfl, h3.1, T2'.out.trans h3.2⟩
    have q4 := h3.1.c4
    have q3 : w3.cell? ⟨m, 3, none⟩ = some (.string ⟨s.m.nmd.toArray⟩) := h3.1.c3
    clear h3 hE3 hT3 hD H2 T2' HD HT k4 k3
    refine hK.out _ _ (fun _ => ⟨q4, q3⟩) (fun _ => ?_)
    clear hK K
    try simp only [Act.put, List.setIfInBounds_toArray, List.set_cons_zero, List.set_cons_succ]
    refine g_one (i := 13) (by kernel_rfl) (by rfl) (fun K hK => ?_)
    go_simp
    refine hK.out _ _ (fun h => absurd (List.mem_singleton.2 rfl) h) (fun _ => ?_)
    clear hK K
    refine g_done (by kernel_rfl) ⟨by first | rfl | trivial, ?_⟩ _
    go_wp2
    go_ret
    exact HF.out
end
end Go.Proofs.YtjepnddndpmnnaaGreat

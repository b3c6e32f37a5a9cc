/-
  angle: behindAttr, inName.
-/
import Derived.Test.YtjepnddndpmnnaaGreatGsA38
namespace Go.Proofs.YtjepnddndpmnnaaGreat
open Go.RowKit Go.Maps
set_option maxRecDepth 100000
set_option linter.unusedSimpArgs false
set_option linter.unusedVariables false
set_option linter.unusedSectionVars false
set_option linter.unusedSectionVars false
variable [Tab] [Fo]

section
variable {w w' : World} {base m o ck e mb g : Nat} {s : As} {M M' : Ag} {av ov : Value}
theorem abehind_any (b : UInt8) (h : AX w base m o ck e mb g s) (hp : OPre s) :
    Calls Tryz.prog 114 #[.pointer (some ⟨m, 0, none⟩), .int .u8 (b.toNat : Int), .pointer (some ⟨o, 0, none⟩)] w (APo w base m o ck e mb g (behindAttrA s b)) := by
  have c0 := h.at0
  have f0 := h.frz 0
  have hlt := h.lt
  have hBl := tblank_any b
  unfold behindAttrA
  cases hb : blankB b with
  | true =>
    rw [if_pos rfl]
    rw [hb] at hBl
    have HB := Lib.hid hBl
    have HF := Lib.hid (APo.of (h.setAt 9).1 (h.setAt 9).2 0)
    clear h hp hb hBl
    go_enter Tryz.func114, Tryz.ntmps114
    go_wp2_with fail
    refine (HB.out _).mono ?_
    rintro E w ⟨rfl, rfl⟩
    go_wp2
    go_ret
    exact HF.out
  | false =>
    rw [if_neg (by decide)]
    rw [hb] at hBl
    have HB := Lib.hid hBl
    have HC := Lib.hid (aendattrs_any b h hp)
    obtain ⟨R, hR⟩ : ∃ R, endAttrsA s b = R := ⟨_, rfl⟩
    rw [hR] at HC ⊢
    clear h hp hb hBl hR
    go_enter Tryz.func114, Tryz.ntmps114
    go_wp2_with fail
    refine (HB.out _).mono ?_
    rintro E w ⟨rfl, rfl⟩
    go_wp2_with fail
    refine HC.out.mono ?_
    intro E w3 hq
    have HF := Lib.hid hq
    have hE := hq.1
    clear hq
    subst hE
    go_wp2
    go_ret
    exact HF.out

set_option maxHeartbeats 4000000 in
theorem ainname_el (b : UInt8) (h : AX w base m o ck e mb g s) (hok : AgOk s.m) (R : Ar) (HS : s.m.nt ≠ [] → ∀ W, AX W base m o ck e mb g { s with m := { nameGone s.m with el := nameOf s.m, a := 8 } } → Calls Tryz.prog 103 #[.pointer (some ⟨m, 0, none⟩), .int .u8 (b.toNat : Int), .pointer (some ⟨o, 0, none⟩)] W (APo W base m o ck e mb g R)) :
    Calls Tryz.prog 113 #[.pointer (some ⟨m, 0, none⟩), .int .u8 (b.toNat : Int), .pointer (some ⟨m, 11, none⟩), .int .i64 8, .pointer (some ⟨o, 0, none⟩)] w (APo w base m o ck e mb g (if goesA s.m b = true then s.mr (nameAdd s.m b) else if s.m.nt = [] then ⟨{ s with m := { nameGone s.m with el := nameOf s.m } }, 2⟩ else R)) := by
  have hlt := h.lt
  have hG := aogoes_any b h hok
  have H := Lib.hid h
  by_cases hg : goesA s.m b = true
  · rw [if_pos hg]
    rw [hg] at hG
    have HG := Lib.hid hG
    have HA := Lib.hid (fun w1 (hb : Below w.heap.size w w1) => aoadd_any b (H.out.below hb) hok)
    obtain ⟨Q, hQ⟩ : ∃ Q, s.mr (nameAdd s.m b) = Q := ⟨_, rfl⟩
    rw [hQ] at HA ⊢
    clear h hok hg hG HS hQ
    go_enter Tryz.func113, Tryz.ntmps113
    go_wp2_with fail
    refine HG.out.mono ?_
    rintro E w1 ⟨rfl, hb1⟩
    have HA1 := Lib.hid (HA.out w1 hb1)
    have HT1 := Lib.hid (Tch.of_below (base := base) (p := axO) hb1)
    clear hb1
    go_wp2_with fail
    refine HA1.out.mono ?_
    intro E w3 hq
    have HF := Lib.hid (hq.pre HT1.out)
    have hE := hq.1
    clear hq
    subst hE
    go_wp2
    go_ret
    exact HF.out
  · rw [if_neg hg]
    have hg' : goesA s.m b = false := by simpa using hg
    rw [hg'] at hG
    have HG := Lib.hid hG
    have HA := Lib.hid (fun w1 (hb : Below w.heap.size w w1) => aoend_any (H.out.below hb) hok)
    have HSS := Lib.hid HS
    by_cases hn : s.m.nt = []
    · rw [if_pos hn]
      rw [if_pos hn] at HA
      clear h hok hg hg' hG HS hn
      go_enter Tryz.func113, Tryz.ntmps113
      go_wp2_with fail
      refine HG.out.mono ?_
      rintro E w1 ⟨rfl, hb1⟩
      have HA1 := Lib.hid (HA.out w1 hb1)
      have HT1 := Lib.hid (Tch.of_below (base := base) (p := axO) hb1)
      clear hb1
      go_wp2_with fail
      refine HA1.out.mono ?_
      rintro E w2 ⟨rfl, h2, t2⟩
      obtain ⟨av, ov, hM2⟩ := h2.mc
      have c1 : w2.cell? ⟨m, 11, none⟩ = some (.string ⟨s.m.el.p.toArray⟩) := hM2.cells2.1
      have c2 : w2.cell? ⟨m, 11 + 1, none⟩ = some (.string ⟨s.m.el.l.toArray⟩) := hM2.cells2.2.1
      have f1 := h2.frz 11
      have f2 : w2.frozen? ⟨m, 11 + 1, none⟩ = false := h2.frz (11 + 1)
      have hl2 := h2.lt
      have h3 := h2.set 11 (sv s.m.np) { nameGone s.m with el := ⟨s.m.np, s.m.el.l⟩ } (fun _ _ => rfl) rfl rfl rfl rfl rfl
      have h4 := h3.1.set (11 + 1) (sv s.m.nt) { nameGone s.m with el := nameOf s.m } (fun _ _ => rfl) rfl rfl rfl rfl rfl
      have HF := Lib.hid (APo.of h4.1 (HT1.out.trans (t2.trans (h3.2.trans h4.2))) 2)
      unfold sv at HF ⊢
      clear hM2 h2 t2 h3 h4
      go_wp2
      go_ret
      exact HF.out
    · rw [if_neg hn]
      rw [if_neg hn] at HA
      have HNn := Lib.hid hn
      clear h hok hg hg' hG HS hn
      go_enter Tryz.func113, Tryz.ntmps113
      go_wp2_with fail
      refine HG.out.mono ?_
      rintro E w1 ⟨rfl, hb1⟩
      have HA1 := Lib.hid (HA.out w1 hb1)
      have HT1 := Lib.hid (Tch.of_below (base := base) (p := axO) hb1)
      clear hb1
      go_wp2_with fail
      refine HA1.out.mono ?_
      rintro E w2 ⟨rfl, h2, t2⟩
      obtain ⟨av, ov, hM2⟩ := h2.mc
      have c0 : w2.cell? ⟨m, 0, none⟩ = some (.int .i64 s.m.a) := hM2.cells.1
      have c1 : w2.cell? ⟨m, 11, none⟩ = some (.string ⟨s.m.el.p.toArray⟩) := hM2.cells2.1
      have c2 : w2.cell? ⟨m, 11 + 1, none⟩ = some (.string ⟨s.m.el.l.toArray⟩) := hM2.cells2.2.1
      have f0 := h2.frz 0
      have f1 := h2.frz 11
      have f2 : w2.frozen? ⟨m, 11 + 1, none⟩ = false := h2.frz (11 + 1)
      have hl2 := h2.lt
      have h3 := h2.set 11 (sv s.m.np) { nameGone s.m with el := ⟨s.m.np, s.m.el.l⟩ } (fun _ _ => rfl) rfl rfl rfl rfl rfl
      have h4 := h3.1.set (11 + 1) (sv s.m.nt) { nameGone s.m with el := nameOf s.m } (fun _ _ => rfl) rfl rfl rfl rfl rfl
      have h5 := h4.1.setAt 8
      have HC := Lib.hid (HSS.out HNn.out _ h5.1)
      have HT5 := Lib.hid (HT1.out.trans (t2.trans (h3.2.trans (h4.2.trans h5.2))))
      unfold sv at HC HT5 ⊢
      clear hM2 h2 t2 h3 h4 h5
      go_wp2_with fail
      refine HC.out.mono ?_
      intro E w3 hq
      have HF := Lib.hid (hq.pre HT5.out)
      have hE := hq.1
      clear hq
      subst hE
      go_wp2
      go_ret
      exact HF.out

set_option maxHeartbeats 4000000 in
theorem ainname_an (b : UInt8) (h : AX w base m o ck e mb g s) (hok : AgOk s.m) (R : Ar) (HS : s.m.nt ≠ [] → ∀ W, AX W base m o ck e mb g { s with m := { nameGone s.m with an := nameOf s.m, a := 11 } } → Calls Tryz.prog 103 #[.pointer (some ⟨m, 0, none⟩), .int .u8 (b.toNat : Int), .pointer (some ⟨o, 0, none⟩)] W (APo W base m o ck e mb g R)) :
    Calls Tryz.prog 113 #[.pointer (some ⟨m, 0, none⟩), .int .u8 (b.toNat : Int), .pointer (some ⟨m, 13, none⟩), .int .i64 11, .pointer (some ⟨o, 0, none⟩)] w (APo w base m o ck e mb g (if goesA s.m b = true then s.mr (nameAdd s.m b) else if s.m.nt = [] then ⟨{ s with m := { nameGone s.m with an := nameOf s.m } }, 2⟩ else R)) := by
  have hlt := h.lt
  have hG := aogoes_any b h hok
  have H := Lib.hid h
  by_cases hg : goesA s.m b = true
  · rw [if_pos hg]
    rw [hg] at hG
    have HG := Lib.hid hG
    have HA := Lib.hid (fun w1 (hb : Below w.heap.size w w1) => aoadd_any b (H.out.below hb) hok)
    obtain ⟨Q, hQ⟩ : ∃ Q, s.mr (nameAdd s.m b) = Q := ⟨_, rfl⟩
    rw [hQ] at HA ⊢
    clear h hok hg hG HS hQ
    go_enter Tryz.func113, Tryz.ntmps113
    go_wp2_with fail
    refine HG.out.mono ?_
    rintro E w1 ⟨rfl, hb1⟩
    have HA1 := Lib.hid (HA.out w1 hb1)
    have HT1 := Lib.hid (Tch.of_below (base := base) (p := axO) hb1)
    clear hb1
    go_wp2_with fail
    refine HA1.out.mono ?_
    intro E w3 hq
    have HF := Lib.hid (hq.pre HT1.out)
    have hE := hq.1
    clear hq
    subst hE
    go_wp2
    go_ret
    exact HF.out
  · rw [if_neg hg]
    have hg' : goesA s.m b = false := by simpa using hg
    rw [hg'] at hG
    have HG := Lib.hid hG
    have HA := Lib.hid (fun w1 (hb : Below w.heap.size w w1) => aoend_any (H.out.below hb) hok)
    have HSS := Lib.hid HS
    by_cases hn : s.m.nt = []
    · rw [if_pos hn]
      rw [if_pos hn] at HA
      clear h hok hg hg' hG HS hn
      go_enter Tryz.func113, Tryz.ntmps113
      go_wp2_with fail
      refine HG.out.mono ?_
      rintro E w1 ⟨rfl, hb1⟩
      have HA1 := Lib.hid (HA.out w1 hb1)
      have HT1 := Lib.hid (Tch.of_below (base := base) (p := axO) hb1)
      clear hb1
      go_wp2_with fail
      refine HA1.out.mono ?_
      rintro E w2 ⟨rfl, h2, t2⟩
      obtain ⟨av, ov, hM2⟩ := h2.mc
      have c1 : w2.cell? ⟨m, 13, none⟩ = some (.string ⟨s.m.an.p.toArray⟩) := hM2.cells2.2.2.1
      have c2 : w2.cell? ⟨m, 13 + 1, none⟩ = some (.string ⟨s.m.an.l.toArray⟩) := hM2.cells2.2.2.2.1
      have f1 := h2.frz 13
      have f2 : w2.frozen? ⟨m, 13 + 1, none⟩ = false := h2.frz (13 + 1)
      have hl2 := h2.lt
      have h3 := h2.set 13 (sv s.m.np) { nameGone s.m with an := ⟨s.m.np, s.m.an.l⟩ } (fun _ _ => rfl) rfl rfl rfl rfl rfl
      have h4 := h3.1.set (13 + 1) (sv s.m.nt) { nameGone s.m with an := nameOf s.m } (fun _ _ => rfl) rfl rfl rfl rfl rfl
      have HF := Lib.hid (APo.of h4.1 (HT1.out.trans (t2.trans (h3.2.trans h4.2))) 2)
      unfold sv at HF ⊢
      clear hM2 h2 t2 h3 h4
      go_wp2
      go_ret
      exact HF.out
    · rw [if_neg hn]
      rw [if_neg hn] at HA
      have HNn := Lib.hid hn
      clear h hok hg hg' hG HS hn
      go_enter Tryz.func113, Tryz.ntmps113
      go_wp2_with fail
      refine HG.out.mono ?_
      rintro E w1 ⟨rfl, hb1⟩
      have HA1 := Lib.hid (HA.out w1 hb1)
      have HT1 := Lib.hid (Tch.of_below (base := base) (p := axO) hb1)
      clear hb1
      go_wp2_with fail
      refine HA1.out.mono ?_
      rintro E w2 ⟨rfl, h2, t2⟩
      obtain ⟨av, ov, hM2⟩ := h2.mc
      have c0 : w2.cell? ⟨m, 0, none⟩ = some (.int .i64 s.m.a) := hM2.cells.1
      have c1 : w2.cell? ⟨m, 13, none⟩ = some (.string ⟨s.m.an.p.toArray⟩) := hM2.cells2.2.2.1
      have c2 : w2.cell? ⟨m, 13 + 1, none⟩ = some (.string ⟨s.m.an.l.toArray⟩) := hM2.cells2.2.2.2.1
      have f0 := h2.frz 0
      have f1 := h2.frz 13
      have f2 : w2.frozen? ⟨m, 13 + 1, none⟩ = false := h2.frz (13 + 1)
      have hl2 := h2.lt
      have h3 := h2.set 13 (sv s.m.np) { nameGone s.m with an := ⟨s.m.np, s.m.an.l⟩ } (fun _ _ => rfl) rfl rfl rfl rfl rfl
      have h4 := h3.1.set (13 + 1) (sv s.m.nt) { nameGone s.m with an := nameOf s.m } (fun _ _ => rfl) rfl rfl rfl rfl rfl
      have h5 := h4.1.setAt 11
      have HC := Lib.hid (HSS.out HNn.out _ h5.1)
      have HT5 := Lib.hid (HT1.out.trans (t2.trans (h3.2.trans (h4.2.trans h5.2))))
      unfold sv at HC HT5 ⊢
      clear hM2 h2 t2 h3 h4 h5
      go_wp2_with fail
      refine HC.out.mono ?_
      intro E w3 hq
      have HF := Lib.hid (hq.pre HT5.out)
      have hE := hq.1
      clear hq
      subst hE
      go_wp2
      go_ret
      exact HF.out

set_option maxHeartbeats 4000000 in
theorem ainname_en (b : UInt8) (h : AX w base m o ck e mb g s) (hok : AgOk s.m) (R : Ar) (HS : s.m.nt ≠ [] → ∀ W, AX W base m o ck e mb g { s with m := { nameGone s.m with en := nameOf s.m, a := 17 } } → Calls Tryz.prog 103 #[.pointer (some ⟨m, 0, none⟩), .int .u8 (b.toNat : Int), .pointer (some ⟨o, 0, none⟩)] W (APo W base m o ck e mb g R)) :
    Calls Tryz.prog 113 #[.pointer (some ⟨m, 0, none⟩), .int .u8 (b.toNat : Int), .pointer (some ⟨m, 16, none⟩), .int .i64 17, .pointer (some ⟨o, 0, none⟩)] w (APo w base m o ck e mb g (if goesA s.m b = true then s.mr (nameAdd s.m b) else if s.m.nt = [] then ⟨{ s with m := { nameGone s.m with en := nameOf s.m } }, 2⟩ else R)) := by
  have hlt := h.lt
  have hG := aogoes_any b h hok
  have H := Lib.hid h
  by_cases hg : goesA s.m b = true
  · rw [if_pos hg]
    rw [hg] at hG
    have HG := Lib.hid hG
    have HA := Lib.hid (fun w1 (hb : Below w.heap.size w w1) => aoadd_any b (H.out.below hb) hok)
    obtain ⟨Q, hQ⟩ : ∃ Q, s.mr (nameAdd s.m b) = Q := ⟨_, rfl⟩
    rw [hQ] at HA ⊢
    clear h hok hg hG HS hQ
    go_enter Tryz.func113, Tryz.ntmps113
    go_wp2_with fail
    refine HG.out.mono ?_
    rintro E w1 ⟨rfl, hb1⟩
    have HA1 := Lib.hid (HA.out w1 hb1)
    have HT1 := Lib.hid (Tch.of_below (base := base) (p := axO) hb1)
    clear hb1
    go_wp2_with fail
    refine HA1.out.mono ?_
    intro E w3 hq
    have HF := Lib.hid (hq.pre HT1.out)
    have hE := hq.1
    clear hq
    subst hE
    go_wp2
    go_ret
    exact HF.out
  · rw [if_neg hg]
    have hg' : goesA s.m b = false := by simpa using hg
    rw [hg'] at hG
    have HG := Lib.hid hG
    have HA := Lib.hid (fun w1 (hb : Below w.heap.size w w1) => aoend_any (H.out.below hb) hok)
    have HSS := Lib.hid HS
    by_cases hn : s.m.nt = []
    · rw [if_pos hn]
      rw [if_pos hn] at HA
      clear h hok hg hg' hG HS hn
      go_enter Tryz.func113, Tryz.ntmps113
      go_wp2_with fail
      refine HG.out.mono ?_
      rintro E w1 ⟨rfl, hb1⟩
      have HA1 := Lib.hid (HA.out w1 hb1)
      have HT1 := Lib.hid (Tch.of_below (base := base) (p := axO) hb1)
      clear hb1
      go_wp2_with fail
      refine HA1.out.mono ?_
      rintro E w2 ⟨rfl, h2, t2⟩
      obtain ⟨av, ov, hM2⟩ := h2.mc
      have c1 : w2.cell? ⟨m, 16, none⟩ = some (.string ⟨s.m.en.p.toArray⟩) := hM2.cells2.2.2.2.2.2.1
      have c2 : w2.cell? ⟨m, 16 + 1, none⟩ = some (.string ⟨s.m.en.l.toArray⟩) := hM2.cells2.2.2.2.2.2.2.1
      have f1 := h2.frz 16
      have f2 : w2.frozen? ⟨m, 16 + 1, none⟩ = false := h2.frz (16 + 1)
      have hl2 := h2.lt
      have h3 := h2.set 16 (sv s.m.np) { nameGone s.m with en := ⟨s.m.np, s.m.en.l⟩ } (fun _ _ => rfl) rfl rfl rfl rfl rfl
      have h4 := h3.1.set (16 + 1) (sv s.m.nt) { nameGone s.m with en := nameOf s.m } (fun _ _ => rfl) rfl rfl rfl rfl rfl
      have HF := Lib.hid (APo.of h4.1 (HT1.out.trans (t2.trans (h3.2.trans h4.2))) 2)
      unfold sv at HF ⊢
      clear hM2 h2 t2 h3 h4
      go_wp2
      go_ret
      exact HF.out
    · rw [if_neg hn]
      rw [if_neg hn] at HA
      have HNn := Lib.hid hn
      clear h hok hg hg' hG HS hn
      go_enter Tryz.func113, Tryz.ntmps113
      go_wp2_with fail
      refine HG.out.mono ?_
      rintro E w1 ⟨rfl, hb1⟩
      have HA1 := Lib.hid (HA.out w1 hb1)
      have HT1 := Lib.hid (Tch.of_below (base := base) (p := axO) hb1)
      clear hb1
      go_wp2_with fail
      refine HA1.out.mono ?_
      rintro E w2 ⟨rfl, h2, t2⟩
      obtain ⟨av, ov, hM2⟩ := h2.mc
      have c0 : w2.cell? ⟨m, 0, none⟩ = some (.int .i64 s.m.a) := hM2.cells.1
      have c1 : w2.cell? ⟨m, 16, none⟩ = some (.string ⟨s.m.en.p.toArray⟩) := hM2.cells2.2.2.2.2.2.1
      have c2 : w2.cell? ⟨m, 16 + 1, none⟩ = some (.string ⟨s.m.en.l.toArray⟩) := hM2.cells2.2.2.2.2.2.2.1
      have f0 := h2.frz 0
      have f1 := h2.frz 16
      have f2 : w2.frozen? ⟨m, 16 + 1, none⟩ = false := h2.frz (16 + 1)
      have hl2 := h2.lt
      have h3 := h2.set 16 (sv s.m.np) { nameGone s.m with en := ⟨s.m.np, s.m.en.l⟩ } (fun _ _ => rfl) rfl rfl rfl rfl rfl
      have h4 := h3.1.set (16 + 1) (sv s.m.nt) { nameGone s.m with en := nameOf s.m } (fun _ _ => rfl) rfl rfl rfl rfl rfl
      have h5 := h4.1.setAt 17
      have HC := Lib.hid (HSS.out HNn.out _ h5.1)
      have HT5 := Lib.hid (HT1.out.trans (t2.trans (h3.2.trans (h4.2.trans h5.2))))
      unfold sv at HC HT5 ⊢
      clear hM2 h2 t2 h3 h4 h5
      go_wp2_with fail
      refine HC.out.mono ?_
      intro E w3 hq
      have HF := Lib.hid (hq.pre HT5.out)
      have hE := hq.1
      clear hq
      subst hE
      go_wp2
      go_ret
      exact HF.out
end
end Go.Proofs.YtjepnddndpmnnaaGreat

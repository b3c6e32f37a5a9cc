/-
  angle: behindAttr, inName.
  angle: beginAttr, begin; Step whole.
-/
import Derived.Test.YtjepnddndpmnnaaGreatDoorGwA33
namespace Go.Proofs.YtjepnddndpmnnaaGreatDoor
open Go.RowKit Go.Maps
set_option maxRecDepth 100000
set_option linter.unusedSimpArgs false
set_option linter.unusedVariables false
set_option linter.unusedSectionVars false
set_option linter.unusedSectionVars false
variable [Tab] [Fo]

section
variable {w w' : World} {base m o ck e mb g : Nat} {s : As} {M M' : Ag} {av ov : Value}
theorem abehind_any (b : UInt8) (h : AX w base m o ck e mb g s) (hp : OPre s) :
    Calls Tryz.prog 143 #[.pointer (some ⟨m, 0, none⟩), .int .u8 (b.toNat : Int), .pointer (some ⟨o, 0, none⟩)] w (APo w base m o ck e mb g (behindAttrA s b)) := by
  have c0 := h.at0
  have f0 := h.frz 0
  have hlt := h.lt
  have hBl := tblank_any b
  unfold behindAttrA
  cases hb : blankB b with
  | true =>
    rw [if_pos rfl]
    rw [hb] at hBl
    have HB := Lib.hid hBl
    have HF := Lib.hid (APo.of (h.setAt 9).1 (h.setAt 9).2 0)
    clear h hp hb hBl
    go_enter Tryz.func143, Tryz.ntmps143
    go_wp2_with fail
    refine (HB.out _).mono ?_
    rintro E w ⟨rfl, rfl⟩
    go_wp2
    go_ret
    exact HF.out
  | false =>
    rw [if_neg (by decide)]
    rw [hb] at hBl
    have HB := Lib.hid hBl
    have HC := Lib.hid (aendattrs_any b h hp)
    obtain ⟨R, hR⟩ : ∃ R, endAttrsA s b = R := ⟨_, rfl⟩
    rw [hR] at HC ⊢
    clear h hp hb hBl hR
    go_enter Tryz.func143, Tryz.ntmps143
    go_wp2_with fail
    refine (HB.out _).mono ?_
    rintro E w ⟨rfl, rfl⟩
    go_wp2_with fail
    refine HC.out.mono ?_
    intro E w3 hq
    have HF := Lib.hid hq
    have hE := hq.1
    clear hq
    subst hE
    go_wp2
    go_ret
    exact HF.out

set_option maxHeartbeats 4000000 in
theorem ainname_el (b : UInt8) (h : AX w base m o ck e mb g s) (hok : AgOk s.m) (R : Ar) (HS : s.m.nt ≠ [] → ∀ W, AX W base m o ck e mb g { s with m := { nameGone s.m with el := nameOf s.m, a := 8 } } → Calls Tryz.prog 132 #[.pointer (some ⟨m, 0, none⟩), .int .u8 (b.toNat : Int), .pointer (some ⟨o, 0, none⟩)] W (APo W base m o ck e mb g R)) :
    Calls Tryz.prog 142 #[.pointer (some ⟨m, 0, none⟩), .int .u8 (b.toNat : Int), .pointer (some ⟨m, 11, none⟩), .int .i64 8, .pointer (some ⟨o, 0, none⟩)] w (APo w base m o ck e mb g (if goesA s.m b = true then s.mr (nameAdd s.m b) else if s.m.nt = [] then ⟨{ s with m := { nameGone s.m with el := nameOf s.m } }, 2⟩ else R)) := by
  have hlt := h.lt
  have hG := aogoes_any b h hok
  have H := Lib.hid h
  by_cases hg : goesA s.m b = true
  · rw [if_pos hg]
    rw [hg] at hG
    have HG := Lib.hid hG
    have HA := Lib.hid (fun w1 (hb : Below w.heap.size w w1) => aoadd_any b (H.out.below hb) hok)
    obtain ⟨Q, hQ⟩ : ∃ Q, s.mr (nameAdd s.m b) = Q := ⟨_, rfl⟩
    rw [hQ] at HA ⊢
    clear h hok hg hG HS hQ
    go_enter Tryz.func142, Tryz.ntmps142
    go_wp2_with fail
    refine HG.out.mono ?_
    rintro E w1 ⟨rfl, hb1⟩
    have HA1 := Lib.hid (HA.out w1 hb1)
    have HT1 := Lib.hid (Tch.of_below (base := base) (p := axO) hb1)
    clear hb1
    go_wp2_with fail
    refine HA1.out.mono ?_
    intro E w3 hq
    have HF := Lib.hid (hq.pre HT1.out)
    have hE := hq.1
    clear hq
    subst hE
    go_wp2
    go_ret
    exact HF.out
  · rw [if_neg hg]
    have hg' : goesA s.m b = false := by simpa using hg
    rw [hg'] at hG
    have HG := Lib.hid hG
    have HA := Lib.hid (fun w1 (hb : Below w.heap.size w w1) => aoend_any (H.out.below hb) hok)
    have HSS := Lib.hid HS
    by_cases hn : s.m.nt = []
    · rw [if_pos hn]
      rw [if_pos hn] at HA
      clear h hok hg hg' hG HS hn
      go_enter Tryz.func142, Tryz.ntmps142
      go_wp2_with fail
      refine HG.out.mono ?_
      rintro E w1 ⟨rfl, hb1⟩
      have HA1 := Lib.hid (HA.out w1 hb1)
      have HT1 := Lib.hid (Tch.of_below (base := base) (p := axO) hb1)
      clear hb1
      go_wp2_with fail
      refine HA1.out.mono ?_
      rintro E w2 ⟨rfl, h2, t2⟩
      obtain ⟨av, ov, hM2⟩ := h2.mc
      have c1 : w2.cell? ⟨m, 11, none⟩ = some (.string ⟨s.m.el.p.toArray⟩) := hM2.cells2.1
      have c2 : w2.cell? ⟨m, 11 + 1, none⟩ = some (.string ⟨s.m.el.l.toArray⟩) := hM2.cells2.2.1
      have f1 := h2.frz 11
      have f2 : w2.frozen? ⟨m, 11 + 1, none⟩ = false := h2.frz (11 + 1)
      have hl2 := h2.lt
      have h3 := h2.set 11 (sv s.m.np) { nameGone s.m with el := ⟨s.m.np, s.m.el.l⟩ } (fun _ _ => rfl) rfl rfl rfl rfl rfl
      have h4 := h3.1.set (11 + 1) (sv s.m.nt) { nameGone s.m with el := nameOf s.m } (fun _ _ => rfl) rfl rfl rfl rfl rfl
      have HF := Lib.hid (APo.of h4.1 (HT1.out.trans (t2.trans (h3.2.trans h4.2))) 2)
      unfold sv at HF ⊢
      clear hM2 h2 t2 h3 h4
      go_wp2
      go_ret
      exact HF.out
    · rw [if_neg hn]
      rw [if_neg hn] at HA
      have HNn := Lib.hid hn
      clear h hok hg hg' hG HS hn
      go_enter Tryz.func142, Tryz.ntmps142
      go_wp2_with fail
      refine HG.out.mono ?_
      rintro E w1 ⟨rfl, hb1⟩
      have HA1 := Lib.hid (HA.out w1 hb1)
      have HT1 := Lib.hid (Tch.of_below (base := base) (p := axO) hb1)
      clear hb1
      go_wp2_with fail
      refine HA1.out.mono ?_
      rintro E w2 ⟨rfl, h2, t2⟩
      obtain ⟨av, ov, hM2⟩ := h2.mc
      have c0 : w2.cell? ⟨m, 0, none⟩ = some (.int .i64 s.m.a) := hM2.cells.1
      have c1 : w2.cell? ⟨m, 11, none⟩ = some (.string ⟨s.m.el.p.toArray⟩) := hM2.cells2.1
      have c2 : w2.cell? ⟨m, 11 + 1, none⟩ = some (.string ⟨s.m.el.l.toArray⟩) := hM2.cells2.2.1
      have f0 := h2.frz 0
      have f1 := h2.frz 11
      have f2 : w2.frozen? ⟨m, 11 + 1, none⟩ = false := h2.frz (11 + 1)
      have hl2 := h2.lt
      have h3 := h2.set 11 (sv s.m.np) { nameGone s.m with el := ⟨s.m.np, s.m.el.l⟩ } (fun _ _ => rfl) rfl rfl rfl rfl rfl
      have h4 := h3.1.set (11 + 1) (sv s.m.nt) { nameGone s.m with el := nameOf s.m } (fun _ _ => rfl) rfl rfl rfl rfl rfl
      have h5 := h4.1.setAt 8
      have HC := Lib.hid (HSS.out HNn.out _ h5.1)
      have HT5 := Lib.hid (HT1.out.trans (t2.trans (h3.2.trans (h4.2.trans h5.2))))
      unfold sv at HC HT5 ⊢
      clear hM2 h2 t2 h3 h4 h5
      go_wp2_with fail
      refine HC.out.mono ?_
      intro E w3 hq
      have HF := Lib.hid (hq.pre HT5.out)
      have hE := hq.1
      clear hq
      subst hE
      go_wp2
      go_ret
      exact HF.out

set_option maxHeartbeats 4000000 in
theorem ainname_an (b : UInt8) (h : AX w base m o ck e mb g s) (hok : AgOk s.m) (R : Ar) (HS : s.m.nt ≠ [] → ∀ W, AX W base m o ck e mb g { s with m := { nameGone s.m with an := nameOf s.m, a := 11 } } → Calls Tryz.prog 132 #[.pointer (some ⟨m, 0, none⟩), .int .u8 (b.toNat : Int), .pointer (some ⟨o, 0, none⟩)] W (APo W base m o ck e mb g R)) :
    Calls Tryz.prog 142 #[.pointer (some ⟨m, 0, none⟩), .int .u8 (b.toNat : Int), .pointer (some ⟨m, 13, none⟩), .int .i64 11, .pointer (some ⟨o, 0, none⟩)] w (APo w base m o ck e mb g (if goesA s.m b = true then s.mr (nameAdd s.m b) else if s.m.nt = [] then ⟨{ s with m := { nameGone s.m with an := nameOf s.m } }, 2⟩ else R)) := by
  have hlt := h.lt
  have hG := aogoes_any b h hok
  have H := Lib.hid h
  by_cases hg : goesA s.m b = true
  · rw [if_pos hg]
    rw [hg] at hG
    have HG := Lib.hid hG
    have HA := Lib.hid (fun w1 (hb : Below w.heap.size w w1) => aoadd_any b (H.out.below hb) hok)
    obtain ⟨Q, hQ⟩ : ∃ Q, s.mr (nameAdd s.m b) = Q := ⟨_, rfl⟩
    rw [hQ] at HA ⊢
    clear h hok hg hG HS hQ
    go_enter Tryz.func142, Tryz.ntmps142
    go_wp2_with fail
    refine HG.out.mono ?_
    rintro E w1 ⟨rfl, hb1⟩
    have HA1 := Lib.hid (HA.out w1 hb1)
    have HT1 := Lib.hid (Tch.of_below (base := base) (p := axO) hb1)
    clear hb1
    go_wp2_with fail
    refine HA1.out.mono ?_
    intro E w3 hq
    have HF := Lib.hid (hq.pre HT1.out)
    have hE := hq.1
    clear hq
    subst hE
    go_wp2
    go_ret
    exact HF.out
  · rw [if_neg hg]
    have hg' : goesA s.m b = false := by simpa using hg
    rw [hg'] at hG
    have HG := Lib.hid hG
    have HA := Lib.hid (fun w1 (hb : Below w.heap.size w w1) => aoend_any (H.out.below hb) hok)
    have HSS := Lib.hid HS
    by_cases hn : s.m.nt = []
    · rw [if_pos hn]
      rw [if_pos hn] at HA
      clear h hok hg hg' hG HS hn
      go_enter Tryz.func142, Tryz.ntmps142
      go_wp2_with fail
      refine HG.out.mono ?_
      rintro E w1 ⟨rfl, hb1⟩
      have HA1 := Lib.hid (HA.out w1 hb1)
      have HT1 := Lib.hid (Tch.of_below (base := base) (p := axO) hb1)
      clear hb1
      go_wp2_with fail
      refine HA1.out.mono ?_
      rintro E w2 ⟨rfl, h2, t2⟩
      obtain ⟨av, ov, hM2⟩ := h2.mc
      have c1 : w2.cell? ⟨m, 13, none⟩ = some (.string ⟨s.m.an.p.toArray⟩) := hM2.cells2.2.2.1
      have c2 : w2.cell? ⟨m, 13 + 1, none⟩ = some (.string ⟨s.m.an.l.toArray⟩) := hM2.cells2.2.2.2.1
      have f1 := h2.frz 13
      have f2 : w2.frozen? ⟨m, 13 + 1, none⟩ = false := h2.frz (13 + 1)
      have hl2 := h2.lt
      have h3 := h2.set 13 (sv s.m.np) { nameGone s.m with an := ⟨s.m.np, s.m.an.l⟩ } (fun _ _ => rfl) rfl rfl rfl rfl rfl
      have h4 := h3.1.set (13 + 1) (sv s.m.nt) { nameGone s.m with an := nameOf s.m } (fun _ _ => rfl) rfl rfl rfl rfl rfl
      have HF := Lib.hid (APo.of h4.1 (HT1.out.trans (t2.trans (h3.2.trans h4.2))) 2)
      unfold sv at HF ⊢
      clear hM2 h2 t2 h3 h4
      go_wp2
      go_ret
      exact HF.out
    · rw [if_neg hn]
      rw [if_neg hn] at HA
      have HNn := Lib.hid hn
      clear h hok hg hg' hG HS hn
      go_enter Tryz.func142, Tryz.ntmps142
      go_wp2_with fail
      refine HG.out.mono ?_
      rintro E w1 ⟨rfl, hb1⟩
      have HA1 := Lib.hid (HA.out w1 hb1)
      have HT1 := Lib.hid (Tch.of_below (base := base) (p := axO) hb1)
      clear hb1
      go_wp2_with fail
      refine HA1.out.mono ?_
      rintro E w2 ⟨rfl, h2, t2⟩
      obtain ⟨av, ov, hM2⟩ := h2.mc
      have c0 : w2.cell? ⟨m, 0, none⟩ = some (.int .i64 s.m.a) := hM2.cells.1
      have c1 : w2.cell? ⟨m, 13, none⟩ = some (.string ⟨s.m.an.p.toArray⟩) := hM2.cells2.2.2.1
      have c2 : w2.cell? ⟨m, 13 + 1, none⟩ = some (.string ⟨s.m.an.l.toArray⟩) := hM2.cells2.2.2.2.1
      have f0 := h2.frz 0
      have f1 := h2.frz 13
      have f2 : w2.frozen? ⟨m, 13 + 1, none⟩ = false := h2.frz (13 + 1)
      have hl2 := h2.lt
      have h3 := h2.set 13 (sv s.m.np) { nameGone s.m with an := ⟨s.m.np, s.m.an.l⟩ } (fun _ _ => rfl) rfl rfl rfl rfl rfl
      have h4 := h3.1.set (13 + 1) (sv s.m.nt) { nameGone s.m with an := nameOf s.m } (fun _ _ => rfl) rfl rfl rfl rfl rfl
      have h5 := h4.1.setAt 11
      have HC := Lib.hid (HSS.out HNn.out _ h5.1)
      have HT5 := Lib.hid (HT1.out.trans (t2.trans (h3.2.trans (h4.2.trans h5.2))))
      unfold sv at HC HT5 ⊢
      clear hM2 h2 t2 h3 h4 h5
      go_wp2_with fail
      refine HC.out.mono ?_
      intro E w3 hq
      have HF := Lib.hid (hq.pre HT5.out)
      have hE := hq.1
      clear hq
      subst hE
      go_wp2
      go_ret
      exact HF.out

set_option maxHeartbeats 4000000 in
theorem ainname_en (b : UInt8) (h : AX w base m o ck e mb g s) (hok : AgOk s.m) (R : Ar) (HS : s.m.nt ≠ [] → ∀ W, AX W base m o ck e mb g { s with m := { nameGone s.m with en := nameOf s.m, a := 17 } } → Calls Tryz.prog 132 #[.pointer (some ⟨m, 0, none⟩), .int .u8 (b.toNat : Int), .pointer (some ⟨o, 0, none⟩)] W (APo W base m o ck e mb g R)) :
    Calls Tryz.prog 142 #[.pointer (some ⟨m, 0, none⟩), .int .u8 (b.toNat : Int), .pointer (some ⟨m, 16, none⟩), .int .i64 17, .pointer (some ⟨o, 0, none⟩)] w (APo w base m o ck e mb g (if goesA s.m b = true then s.mr (nameAdd s.m b) else if s.m.nt = [] then ⟨{ s with m := { nameGone s.m with en := nameOf s.m } }, 2⟩ else R)) := by
  have hlt := h.lt
  have hG := aogoes_any b h hok
  have H := Lib.hid h
  by_cases hg : goesA s.m b = true
  · rw [if_pos hg]
    rw [hg] at hG
    have HG := Lib.hid hG
    have HA := Lib.hid (fun w1 (hb : Below w.heap.size w w1) => aoadd_any b (H.out.below hb) hok)
    obtain ⟨Q, hQ⟩ : ∃ Q, s.mr (nameAdd s.m b) = Q := ⟨_, rfl⟩
    rw [hQ] at HA ⊢
    clear h hok hg hG HS hQ
    go_enter Tryz.func142, Tryz.ntmps142
    go_wp2_with fail
    refine HG.out.mono ?_
    rintro E w1 ⟨rfl, hb1⟩
    have HA1 := Lib.hid (HA.out w1 hb1)
    have HT1 := Lib.hid (Tch.of_below (base := base) (p := axO) hb1)
    clear hb1
    go_wp2_with fail
    refine HA1.out.mono ?_
    intro E w3 hq
    have HF := Lib.hid (hq.pre HT1.out)
    have hE := hq.1
    clear hq
    subst hE
    go_wp2
    go_ret
    exact HF.out
  · rw [if_neg hg]
    have hg' : goesA s.m b = false := by simpa using hg
    rw [hg'] at hG
    have HG := Lib.hid hG
    have HA := Lib.hid (fun w1 (hb : Below w.heap.size w w1) => aoend_any (H.out.below hb) hok)
    have HSS := Lib.hid HS
    by_cases hn : s.m.nt = []
    · rw [if_pos hn]
      rw [if_pos hn] at HA
      clear h hok hg hg' hG HS hn
      go_enter Tryz.func142, Tryz.ntmps142
      go_wp2_with fail
      refine HG.out.mono ?_
      rintro E w1 ⟨rfl, hb1⟩
      have HA1 := Lib.hid (HA.out w1 hb1)
      have HT1 := Lib.hid (Tch.of_below (base := base) (p := axO) hb1)
      clear hb1
      go_wp2_with fail
      refine HA1.out.mono ?_
      rintro E w2 ⟨rfl, h2, t2⟩
      obtain ⟨av, ov, hM2⟩ := h2.mc
      have c1 : w2.cell? ⟨m, 16, none⟩ = some (.string ⟨s.m.en.p.toArray⟩) := hM2.cells2.2.2.2.2.2.1
      have c2 : w2.cell? ⟨m, 16 + 1, none⟩ = some (.string ⟨s.m.en.l.toArray⟩) := hM2.cells2.2.2.2.2.2.2.1
      have f1 := h2.frz 16
      have f2 : w2.frozen? ⟨m, 16 + 1, none⟩ = false := h2.frz (16 + 1)
      have hl2 := h2.lt
      have h3 := h2.set 16 (sv s.m.np) { nameGone s.m with en := ⟨s.m.np, s.m.en.l⟩ } (fun _ _ => rfl) rfl rfl rfl rfl rfl
      have h4 := h3.1.set (16 + 1) (sv s.m.nt) { nameGone s.m with en := nameOf s.m } (fun _ _ => rfl) rfl rfl rfl rfl rfl
      have HF := Lib.hid (APo.of h4.1 (HT1.out.trans (t2.trans (h3.2.trans h4.2))) 2)
      unfold sv at HF ⊢
      clear hM2 h2 t2 h3 h4
      go_wp2
      go_ret
      exact HF.out
    · rw [if_neg hn]
      rw [if_neg hn] at HA
      have HNn := Lib.hid hn
      clear h hok hg hg' hG HS hn
      go_enter Tryz.func142, Tryz.ntmps142
      go_wp2_with fail
      refine HG.out.mono ?_
      rintro E w1 ⟨rfl, hb1⟩
      have HA1 := Lib.hid (HA.out w1 hb1)
      have HT1 := Lib.hid (Tch.of_below (base := base) (p := axO) hb1)
      clear hb1
      go_wp2_with fail
      refine HA1.out.mono ?_
      rintro E w2 ⟨rfl, h2, t2⟩
      obtain ⟨av, ov, hM2⟩ := h2.mc
      have c0 : w2.cell? ⟨m, 0, none⟩ = some (.int .i64 s.m.a) := hM2.cells.1
      have c1 : w2.cell? ⟨m, 16, none⟩ = some (.string ⟨s.m.en.p.toArray⟩) := hM2.cells2.2.2.2.2.2.1
      have c2 : w2.cell? ⟨m, 16 + 1, none⟩ = some (.string ⟨s.m.en.l.toArray⟩) := hM2.cells2.2.2.2.2.2.2.1
      have f0 := h2.frz 0
      have f1 := h2.frz 16
      have f2 : w2.frozen? ⟨m, 16 + 1, none⟩ = false := h2.frz (16 + 1)
      have hl2 := h2.lt
      have h3 := h2.set 16 (sv s.m.np) { nameGone s.m with en := ⟨s.m.np, s.m.en.l⟩ } (fun _ _ => rfl) rfl rfl rfl rfl rfl
      have h4 := h3.1.set (16 + 1) (sv s.m.nt) { nameGone s.m with en := nameOf s.m } (fun _ _ => rfl) rfl rfl rfl rfl rfl
      have h5 := h4.1.setAt 17
      have HC := Lib.hid (HSS.out HNn.out _ h5.1)
      have HT5 := Lib.hid (HT1.out.trans (t2.trans (h3.2.trans (h4.2.trans h5.2))))
      unfold sv at HC HT5 ⊢
      clear hM2 h2 t2 h3 h4 h5
      go_wp2_with fail
      refine HC.out.mono ?_
      intro E w3 hq
      have HF := Lib.hid (hq.pre HT5.out)
      have hE := hq.1
      clear hq
      subst hE
      go_wp2
      go_ret
      exact HF.out
end
end Go.Proofs.YtjepnddndpmnnaaGreatDoor
namespace Go.Proofs.YtjepnddndpmnnaaGreatDoor
open Go.RowKit Go.Maps
set_option maxRecDepth 100000
set_option linter.unusedSimpArgs false
set_option linter.unusedVariables false
set_option linter.unusedSectionVars false
set_option linter.unusedSectionVars false
variable [Tab] [Fo]

/-- What holds of the machine ahead of a byte, as far as a walk needs it. -/
structure APre (s : As) : Prop where
  ok : AgOk s.m
  o : OPre s
  rl : s.m.rest.length ≤ 1000
  rs : s.m.a = 2 → s.m.rest ≠ []
  opn : s.m.a = 14 ∨ s.m.a = 16 ∨ s.m.a = 17 → s.m.op ≠ []
section
variable {w w' : World} {base m o ck e mb g : Nat} {s : As} {M M' : Ag} {av ov : Value}
theorem AgOk.at (h : AgOk s.m) (a : Int) : AgOk (setAt s a).m := ⟨h.ent, h.nmd, h.rt, h.rn, h.nt, h.np⟩
theorem OPre.el (h : OPre s) (hok : AgOk s.m) (a : Int) : OPre { s with m := { nameGone s.m with el := nameOf s.m, a := a } } :=
  ⟨h.al, h.aok, hok.np, hok.nt, h.good, h.ln, h.sp, h.op, h.sl⟩
theorem ainElem (b : UInt8) (h : AX w base m o ck e mb g s) (hok : AgOk s.m) (hp : OPre s) :
    Calls Tryz.prog 142 #[.pointer (some ⟨m, 0, none⟩), .int .u8 (b.toNat : Int), .pointer (some ⟨m, 11, none⟩), .int .i64 8, .pointer (some ⟨o, 0, none⟩)] w (APo w base m o ck e mb g (inElem s b)) :=
  ainname_el b h hok _ fun _ W hA => astep_8 b hA rfl _ (abehind_any b hA (hp.el hok 8))
theorem ainAttr (b : UInt8) (h : AX w base m o ck e mb g s) (hok : AgOk s.m) (hl : s.m.ats.length ≤ 1000) :
    Calls Tryz.prog 142 #[.pointer (some ⟨m, 0, none⟩), .int .u8 (b.toNat : Int), .pointer (some ⟨m, 13, none⟩), .int .i64 11, .pointer (some ⟨o, 0, none⟩)] w (APo w base m o ck e mb g (inAttr s b)) :=
  ainname_an b h hok _ fun _ W hA => astep_11 b hA rfl _ (aequals_any b hA hl)
theorem ainEnd (b : UInt8) (h : AX w base m o ck e mb g s) (hok : AgOk s.m) (hp : EPre s) :
    Calls Tryz.prog 142 #[.pointer (some ⟨m, 0, none⟩), .int .u8 (b.toNat : Int), .pointer (some ⟨m, 16, none⟩), .int .i64 17, .pointer (some ⟨o, 0, none⟩)] w (APo w base m o ck e mb g (inEnd s b)) :=
  ainname_en b h hok _ fun _ W hA => by
    unfold atEnd
    cases hb : blankB b with
    | true => rw [if_pos rfl]; exact astep_skip b hA rfl hb
    | false => rw [if_neg (by decide)]; exact astep_17 b hA rfl hb _ (aendtag_any b hA ⟨hp.op, hp.ol, hp.good, hp.ln⟩)

set_option maxHeartbeats 4000000 in
theorem abeginattr_any (b : UInt8) (h : AX w base m o ck e mb g s) (hok : AgOk s.m) (hp : OPre s) :
    Calls Tryz.prog 144 #[.pointer (some ⟨m, 0, none⟩), .int .u8 (b.toNat : Int), .pointer (some ⟨o, 0, none⟩)] w (APo w base m o ck e mb g (beginAttrA s b)) := by
  have c0 := h.at0
  have f0 := h.frz 0
  have hlt := h.lt
  unfold beginAttrA
  by_cases hb : b.toNat = 47 ∨ b.toNat = 62
  · rw [if_pos hb]
    have HC := Lib.hid (aendattrs_any b h hp)
    obtain ⟨R, hR⟩ : ∃ R, endAttrsA s b = R := ⟨_, rfl⟩
    rw [hR] at HC ⊢
    by_cases h47 : b.toNat = 47
    · have z47 : ((b.toNat : Int) == 47) = true := by rw [beq_iff_eq]; omega
      clear h hok hp hb hR h47
      go_enter Tryz.func144, Tryz.ntmps144
      go_wp2_with fail
      refine HC.out.mono ?_
      intro E w3 hq
      have HF := Lib.hid hq
      have hE := hq.1
      clear hq
      subst hE
      go_wp2
      go_ret
      exact HF.out
    · have z47 : ((b.toNat : Int) == 47) = false := by rw [beq_eq_false_iff_ne]; omega
      have z62 : ((b.toNat : Int) == 62) = true := by rw [beq_iff_eq]; omega
      clear h hok hp hb hR h47
      go_enter Tryz.func144, Tryz.ntmps144
      go_wp2_with fail
      refine HC.out.mono ?_
      intro E w3 hq
      have HF := Lib.hid hq
      have hE := hq.1
      clear hq
      subst hE
      go_wp2
      go_ret
      exact HF.out
  · rw [if_neg hb]
    have z47 : ((b.toNat : Int) == 47) = false := by rw [beq_eq_false_iff_ne]; omega
    have z62 : ((b.toNat : Int) == 62) = false := by rw [beq_eq_false_iff_ne]; omega
    have h1 := h.setAt 10
    have HC := Lib.hid (astep_10 b h1.1 rfl _ (ainAttr b h1.1 (hok.at 10) hp.al))
    have HT := Lib.hid h1.2
    obtain ⟨R, hR⟩ : ∃ R, inAttr (setAt s 10) b = R := ⟨_, rfl⟩
    rw [hR] at HC ⊢
    clear h hok hp hb hR h1
    go_enter Tryz.func144, Tryz.ntmps144
    go_wp2_with fail
    refine HC.out.mono ?_
    intro E w3 hq
    have HF := Lib.hid (hq.pre HT.out)
    have hE := hq.1
    clear hq
    subst hE
    go_wp2
    go_ret
    exact HF.out

theorem AX.c18 (h : AX w base m o ck e mb g s) : ∃ A cap, w.cell? ⟨m, 18, none⟩ = some (.slice A s.m.op.length cap) := by
  obtain ⟨av, ov, q⟩ := h.mc
  obtain ⟨A, cap, rfl, _⟩ := own_shape q.opn
  exact ⟨A, cap, q.cells2.2.2.2.2.2.2.2.1⟩
set_option maxHeartbeats 4000000 in
theorem abegin_any (b : UInt8) (h : AX w base m o ck e mb g s) (hok : AgOk s.m) (hp : OPre s) :
    Calls Tryz.prog 137 #[.pointer (some ⟨m, 0, none⟩), .int .u8 (b.toNat : Int), .pointer (some ⟨o, 0, none⟩)] w (APo w base m o ck e mb g (beginA s b)) := by
  have c0 := h.at0
  have c1 := h.c1
  have f0 := h.frz 0
  have f1 := h.frz 1
  have hlt := h.lt
  obtain ⟨A, cap, c18⟩ := h.c18
  unfold beginA
  by_cases ho : s.m.op = []
  · have hn : s.m.op.length = 0 := by rw [ho]; rfl
    rw [hn] at c18
    by_cases hb : b.toNat = 33
    · rw [if_pos ⟨ho, hb⟩]
      have z33 : ((b.toNat : Int) == (((⟨#[33, 69, 78, 84, 73, 84, 89, 32]⟩ : ByteArray)[0]'(by decide)).toNat : Int)) = true := by
        show ((b.toNat : Int) == 33) = true
        rw [beq_iff_eq]; omega
      have h1 := h.setAt 2
      have h2 := h1.1.set 1 (.string ⟨markL.toArray⟩) { s.m with a := 2, rest := markL } (fun _ _ => rfl) rfl rfl rfl rfl rfl
      have hmk : AX ((w.setCell ⟨m, 0, none⟩ (.int .i64 2)).setCell ⟨m, 1, none⟩ (.string ⟨#[33, 69, 78, 84, 73, 84, 89, 32]⟩)) base m o ck e mb g { s with m := { s.m with a := 2, rest := markL } } := h2.1
      have HT : Hid (Tch base axO w ((w.setCell ⟨m, 0, none⟩ (.int .i64 2)).setCell ⟨m, 1, none⟩ (.string ⟨#[33, 69, 78, 84, 73, 84, 89, 32]⟩))) := Lib.hid (h1.2.trans h2.2)
      have HC := Lib.hid (astep_2 b hmk rfl _ (amarked_any b hmk (by show markL ≠ []; decide) (by show markL.length ≤ 1000; decide)))
      obtain ⟨R, hR⟩ : ∃ R, s.mr (markedA { s.m with a := 2, rest := markL } b) = R := ⟨_, rfl⟩
      change Hid (Calls _ _ _ _ (APo _ _ _ _ _ _ _ _ (s.mr (markedA { s.m with a := 2, rest := markL } b)))) at HC
      rw [hR] at HC ⊢
      clear h hok hp hb hR h1 h2 hmk ho hn
      go_enter Tryz.func137, Tryz.ntmps137
      go_wp2_with fail
      refine HC.out.mono ?_
      intro E w3 hq
      have HF := Lib.hid (hq.pre HT.out)
      have hE := hq.1
      clear hq
      subst hE
      go_wp2
      go_ret
      exact HF.out
    · rw [if_neg (fun hc => hb hc.2), if_neg (fun hc => hc.1 ho)]
      have z33 : ((b.toNat : Int) == (((⟨#[33, 69, 78, 84, 73, 84, 89, 32]⟩ : ByteArray)[0]'(by decide)).toNat : Int)) = false := by
        show ((b.toNat : Int) == 33) = false
        rw [beq_eq_false_iff_ne]; omega
      have h1 := h.setAt 7
      have HC := Lib.hid (astep_7 b h1.1 rfl _ (ainElem b h1.1 (hok.at 7) ⟨hp.al, hp.aok, hp.e1, hp.e2, hp.good, hp.ln, hp.sp, hp.op, hp.sl⟩))
      have HT := Lib.hid h1.2
      obtain ⟨R, hR⟩ : ∃ R, inElem (setAt s 7) b = R := ⟨_, rfl⟩
      rw [hR] at HC ⊢
      clear h hok hp hb hR h1 ho hn
      go_enter Tryz.func137, Tryz.ntmps137
      go_wp2_with fail
      refine HC.out.mono ?_
      intro E w3 hq
      have HF := Lib.hid (hq.pre HT.out)
      have hE := hq.1
      clear hq
      subst hE
      go_wp2
      go_ret
      exact HF.out
  · obtain ⟨n, hn⟩ : ∃ n, s.m.op.length = n + 1 := ⟨s.m.op.length - 1, by have := List.length_pos_iff.2 ho; omega⟩
    rw [hn] at c18
    have z0 : (((n + 1 : Nat) : Int) == 0) = false := by rw [beq_eq_false_iff_ne]; omega
    have z0' : ((n : Int) + 1 == 0) = false := by rw [beq_eq_false_iff_ne]; omega
    rw [if_neg (fun hc => ho hc.1)]
    by_cases hb : b.toNat = 47
    · rw [if_pos ⟨ho, hb⟩]
      have z47 : ((b.toNat : Int) == 47) = true := by rw [beq_iff_eq]; omega
      have HF := Lib.hid (APo.of (h.setAt 16).1 (h.setAt 16).2 0)
      clear h hok hp hb ho hn
      go_enter Tryz.func137, Tryz.ntmps137
      go_wp2
      go_ret
      exact HF.out
    · rw [if_neg (fun hc => hb hc.2)]
      have z47 : ((b.toNat : Int) == 47) = false := by rw [beq_eq_false_iff_ne]; omega
      have h1 := h.setAt 7
      have HC := Lib.hid (astep_7 b h1.1 rfl _ (ainElem b h1.1 (hok.at 7) ⟨hp.al, hp.aok, hp.e1, hp.e2, hp.good, hp.ln, hp.sp, hp.op, hp.sl⟩))
      have HT := Lib.hid h1.2
      obtain ⟨R, hR⟩ : ∃ R, inElem (setAt s 7) b = R := ⟨_, rfl⟩
      rw [hR] at HC ⊢
      clear h hok hp hb hR h1 ho hn
      go_enter Tryz.func137, Tryz.ntmps137
      go_wp2_with fail
      refine HC.out.mono ?_
      intro E w3 hq
      have HF := Lib.hid (hq.pre HT.out)
      have hE := hq.1
      clear hq
      subst hE
      go_wp2
      go_ret
      exact HF.out

/-- A byte. -/
theorem astep_any (b : UInt8) (h : AX w base m o ck e mb g s) (hp : APre s) (ha : 0 ≤ s.m.a ∧ s.m.a ≤ 18) :
    Calls Tryz.prog 132 #[.pointer (some ⟨m, 0, none⟩), .int .u8 (b.toNat : Int), .pointer (some ⟨o, 0, none⟩)] w (APo w base m o ck e mb g (stepA s b)) := by
  have hE : s.m.op ≠ [] → EPre s := fun q => ⟨q, hp.o.op, hp.o.good, by have := hp.o.ln; omega⟩
  unfold stepA
  by_cases hs : blankB b = true ∧ skipsA s.m.a = true
  · rw [if_pos hs]; exact astep_skip b h hs.2 hs.1
  rw [if_neg hs]
  have hb : skipsA s.m.a = true → blankB b = false := fun q => by
    cases hc : blankB b with
    | false => rfl
    | true => exact absurd ⟨hc, q⟩ hs
  by_cases h0 : s.m.a = 0
  · rw [if_pos h0]; exact astep_0 b h h0 (hb (by rw [h0]; rfl)) _ (amust_any b 60 1 h)
  rw [if_neg h0]
  by_cases h1 : s.m.a = 1
  · rw [if_pos h1]; exact astep_1 b h h1 _ (abegin_any b h hp.ok hp.o)
  rw [if_neg h1]
  by_cases h2 : s.m.a = 2
  · rw [if_pos h2]; exact astep_2 b h h2 _ (amarked_any b h (hp.rs h2) hp.rl)
  rw [if_neg h2]
  by_cases h3 : s.m.a = 3
  · rw [if_pos h3]; exact astep_3 b h h3 _ (aentname_any b h hp.ok)
  rw [if_neg h3]
  by_cases h4 : s.m.a = 4
  · rw [if_pos h4]; exact astep_4 b h h4 _ (amust_any b 34 5 h)
  rw [if_neg h4]
  by_cases h5 : s.m.a = 5
  · rw [if_pos h5]; exact astep_5 b h h5 _ (aenttext_any b h hp.ok)
  rw [if_neg h5]
  by_cases h6 : s.m.a = 6
  · rw [if_pos h6]; exact astep_6 b h h6 (hb (by rw [h6]; rfl)) _ (adefine_any b h hp.ok)
  rw [if_neg h6]
  by_cases h7 : s.m.a = 7
  · rw [if_pos h7]; exact astep_7 b h h7 _ (ainElem b h hp.ok hp.o)
  rw [if_neg h7]
  by_cases h8 : s.m.a = 8
  · rw [if_pos h8]; exact astep_8 b h h8 _ (abehind_any b h hp.o)
  rw [if_neg h8]
  by_cases h9 : s.m.a = 9
  · rw [if_pos h9]; exact astep_9 b h h9 (hb (by rw [h9]; rfl)) _ (abeginattr_any b h hp.ok hp.o)
  rw [if_neg h9]
  by_cases h10 : s.m.a = 10
  · rw [if_pos h10]; exact astep_10 b h h10 _ (ainAttr b h hp.ok hp.o.al)
  rw [if_neg h10]
  by_cases h11 : s.m.a = 11
  · rw [if_pos h11]; exact astep_11 b h h11 _ (aequals_any b h hp.o.al)
  rw [if_neg h11]
  by_cases h12 : s.m.a = 12
  · rw [if_pos h12]; exact astep_12 b h h12 _ (amust_any b 34 13 h)
  rw [if_neg h12]
  by_cases h13 : s.m.a = 13
  · rw [if_pos h13]; exact astep_13 b h h13 _ (aattrtext_any b h hp.ok hp.o.al)
  rw [if_neg h13]
  by_cases h14 : s.m.a = 14
  · rw [if_pos h14]; exact astep_14 b h h14 _ (aendempty_any b h (hE (hp.opn (.inl h14))))
  rw [if_neg h14]
  by_cases h15 : s.m.a = 15
  · rw [if_pos h15]; exact astep_15 b h h15 _ (acontent_any b h hp.ok hp.o.good (by have := hp.o.ln; omega))
  rw [if_neg h15]
  by_cases h16 : s.m.a = 16
  · rw [if_pos h16]; exact astep_16 b h h16 _ (ainEnd b h hp.ok (hE (hp.opn (.inr (.inl h16)))))
  rw [if_neg h16]
  by_cases h17 : s.m.a = 17
  · rw [if_pos h17]; exact astep_17 b h h17 (hb (by rw [h17]; rfl)) _ (aendtag_any b h (hE (hp.opn (.inr (.inr h17)))))
  rw [if_neg h17]
  have h18 : s.m.a = 18 := by omega
  exact astep_18 b h h18 (hb (by rw [h18]; rfl))
end
end Go.Proofs.YtjepnddndpmnnaaGreatDoor

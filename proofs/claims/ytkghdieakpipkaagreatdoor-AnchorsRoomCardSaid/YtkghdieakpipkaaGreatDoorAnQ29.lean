/-
  anchors: a Check that has gone through what is kept; an event apart.
-/
import Derived.Test.YtkghdieakpipkaaGreatDoorAnQ28
import Derived.Test.YtkghdieakpipkaaGreatDoorAnQ11
namespace Go.Proofs.YtkghdieakpipkaaGreatDoor
open Go.RowKit Go.Maps
set_option maxRecDepth 100000
set_option linter.unusedSimpArgs false
set_option linter.unusedVariables false

/-- The library's variables, laid below B. -/
def SWB (B : Nat) (w : World) : Prop := ∃ w0, Nm.StdW w0 ∧ w0.heap.size ≤ B ∧ Below w0.heap.size w0 w
theorem SWB.std {B : Nat} {w : World} (h : SWB B w) : Nm.StdW w := by obtain ⟨w0, h1, _, h3⟩ := h; exact h1.below h3
theorem SWB.below {B : Nat} {w w' : World} (h : SWB B w) (hb : Below B w w') : SWB B w' := by
  obtain ⟨w0, h1, h2, h3⟩ := h
  exact ⟨w0, h1, h2, h3.trans (hb.mono h2)⟩
theorem SWB.ts {B : Nat} {w w' : World} {S : Nat → Prop} {p : Obj → Prop} (h : SWB B w) (ht : TS S p w w') (hB : B ≤ w.heap.size) (hS : ∀ k, S k → B ≤ k) : SWB B w' := h.below (ht.below hB hS)
theorem SWB.of {w : World} (h : Nm.StdW w) : SWB w.heap.size w := ⟨w, h, Nat.le_refl _, Below.refl _ _⟩

set_option maxHeartbeats 4000000 in
theorem check_any (w : World) (p : Nat) (lv : Value) (evs : List Ev) (hb : Blk w p 61 #[lv]) (hr : ERow w 0 lv evs) (hx : ∀ x ∈ evs, okE x) (hw : Nm.StdW w) (hn : evs.length ≤ 1000000) :
    Calls Tryz.prog 26 #[.pointer (some ⟨p, 0, none⟩)] w fun e w' => ∃ q, e = .returned (.pointer (some ⟨q, 0, none⟩)) ∧ w.heap.size ≤ q ∧ CAt w' w.heap.size q (runS [topP] evs) ∧ Below w.heap.size w w' := by
  obtain ⟨A, c, rfl, _, _, hrd⟩ := hr.read
  have c0 := hb.cell 0
  have HN := Lib.hid (fun w1 (h : Below w.heap.size w w1) => cnew_any w1 w.heap.size h.size)
  have HC := Lib.hid hb
  clear hb hr
  go_enter Tryz.func26, Tryz.ntmps26
  go_wp2_with fail
  refine (HN.out w (Below.refl _ _)).mono ?_
  rintro e w1 ⟨g, rfl, hg, hC1, hb1⟩
  have HB1 := Lib.hid hb1
  have c1 : w1.cell? ⟨p, 0, none⟩ = some (.slice A evs.length c) := (hb1.cell (p := ⟨p, 0, none⟩) (cell_lt c0)).trans c0
  have HC1 := Lib.hid hC1
  clear hb1 hC1 c0 HN
  go_wp2
  go_loopw [12] (fun i wr => ∃ (k : Nat) (st : List Pt), k ≤ evs.length ∧ i = .int .i64 k ∧ Hid (CAt wr w.heap.size g st) ∧ Hid (Good st) ∧ Hid (Below w.heap.size w wr) ∧ Hid (runS [topP] evs = runS st (evs.drop k))) (fun i _ => evs.length - (intOf i).toNat)
  case atStart => exact ⟨0, [topP], Nat.zero_le _, rfl, HC1, Lib.hid good_start, HB1, Lib.hid rfl⟩
  case round =>
    obtain ⟨k, st, hk, rfl, HCr, HG, HB, HR⟩ := hrel
    by_cases hlt : k < evs.length
    · obtain ⟨bb, oo, rfl, hc⟩ := hrd (by omega)
      obtain ⟨h1, h2, h3⟩ := hc k hlt
      have hok := hx _ (List.getElem_mem hlt)
      have g1 := (HB.out.cell (cell_lt h1)).trans h1
      have g2 := (HB.out.cell (cell_lt h2)).trans h2
      have g3 := (HB.out.cell (cell_lt h3)).trans h3
      have hd := HR.out
      rw [List.drop_eq_getElem_cons hlt] at hd
      have hd2 : runS st (evs[k] :: evs.drop (k + 1)) = runS (stepS st evs[k]) (evs.drop (k + 1)) := rfl
      rw [hd2] at hd
      clear hd2 hc hrd h1 h2 h3 c1
      generalize evs[k] = x at *
      obtain ⟨_, _, hs, _⟩ := hok
      have hbA : Below wr.heap.size wr (wr.alloc (.cells #[.int .i64 x.k, .string x.t, .string x.v] 31)) := (Below.refl _ _).alloc (Nat.le_refl _) _
      have HCA := Lib.hid (HCr.out.below hbA)
      have HB2 := Lib.hid (HB.out.trans (hbA.mono HB.out.size))
      have HW2 := Lib.hid (hw.below HB2.out)
      have HSt : Hid (∀ w', CAt w' w.heap.size g st → Nm.StdW w' → Calls Tryz.prog 27 #[.pointer (some ⟨g, 0, none⟩), .agg #[.int .i64 x.k, .string x.t, .string x.v]] w' (SPost w' w.heap.size g st x)) := Lib.hid fun w' h1 h2 => estep_any w' w.heap.size g st x h1 HG.out h2 hs
      have HG2 := Lib.hid (good_step HG.out x)
      have HD := Lib.hid hd
      clear hd hbA
      go_wp2_with fail
      refine (HSt.out _ HCA.out HW2.out).mono ?_
      unfold SPost
      rintro e w3 ⟨rfl, hC3, hT3⟩
      have HC3 := Lib.hid hC3
      have HB3 := Lib.hid (HB2.out.trans (hT3.below HB2.out.size))
      clear hC3 hT3 HSt
      go_wp2
      go_roundw
      case rel => exact ⟨k + 1, _, hlt, by go_num, HC3, HG2, HB3, HD⟩
      case measure => first | (simp [intOf]; done) | (simp [intOf]; omega)
    · have hke : k = evs.length := by omega
      have hd := HR.out
      rw [List.drop_of_length_le (by omega)] at hd
      have HD := Lib.hid hd
      subst hke
      clear hd hrd c1
      go_wp2
      go_ret
      exact ⟨g, rfl, hg, by rw [HD.out]; exact HCr.out, HB.out⟩
end Go.Proofs.YtkghdieakpipkaaGreatDoor

/-
  outline: New of its machine, Decode.
  The laws of outline: lives, few.
  The walk of OutlineWhole.
-/
import Derived.Test.YtalkjgijmceifaaGreatDoorOwA39
import Derived.Lib.SlBytesConst
namespace Go.Proofs.YtalkjgijmceifaaGreatDoor
open Go.RowKit Go.Maps
set_option maxRecDepth 100000
set_option linter.unusedSimpArgs false
set_option linter.unusedVariables false
set_option linter.unusedSectionVars false
set_option linter.unusedSectionVars false
variable [Tab] [Fo]

theorem olnew_any (w : World) (T : TypeId) (u : Value) (g : Nat) :
    Calls Tryz.prog 33 #[.iface T u, .slice (some ⟨g, 0, none⟩) 1 1] w fun e w' => e = .returned (.pointer (some ⟨w.heap.size, 0, none⟩)) ∧ w' = w.alloc (.cells #[.iface T u, .slice (some ⟨g, 0, none⟩) 1 1, .slice none 0 0] 94) := by
  go_enter Tryz.func33, Tryz.ntmps33
  go_wp2
  go_ret
  exact ⟨rfl, rfl⟩
set_option maxHeartbeats 4000000 in
theorem onew_any (w : World) (hfl : Fo.lim ≤ w.heap.size) : Calls Tryz.prog 21 #[] w fun e w' => ∃ m, e = .returned (.pointer (some ⟨m, 0, none⟩)) ∧ olRaw w' w.heap.size m ∧ Below w.heap.size w w' := by
  have hmf : ∀ (fn : Fn) (first cap : Array Value) (w : World), (Instr.makeFunc fn first cap).run Tryz.prog w = .ok (.func fn first cap) w := fun _ _ _ _ => rfl
  have HA := Lib.hid (anew_any w)
  go_enter Tryz.func21, Tryz.ntmps21
  go_wp2_with fail
  refine HA.out.mono ?_
  rintro e w1 ⟨an, rfl, hA, hb1⟩
  have hmin := aAt_min hA
  have hz1 := hb1.size
  have hkd : KdS w.heap.size (aCut (Ext noS w w1) w1) w1 := fun k hk => by
    rcases hk.1 with h1 | ⟨h1, _⟩
    · exact h1.elim
    · exact ⟨h1, nf_new (Nat.le_trans hfl h1), hk.2⟩
  obtain ⟨T, hT⟩ : ∃ T, aCut (Ext noS w w1) w1 = T := ⟨_, rfl⟩
  rw [hT] at hmin hkd
  have HX := Lib.hid (And.intro hmin (And.intro hkd hb1))
  clear hmin hkd hb1 hA hT HA
  obtain ⟨p, W2, hp, hW2, hB2, al2, hlt2⟩ := box_new w1 #[.pointer (some ⟨an, 0, none⟩), .slice none 0 0, .bool false, .bool false] 72
  obtain ⟨g, W3, hg, hW3, hB3, al3, hlt3⟩ := box_new W2 #[othV an] 39
  have HB2 := Lib.hid (hB2.below al3 hB2.lt)
  have HB3 := Lib.hid hB3
  have HAl := Lib.hid (And.intro al2 al3)
  have hN := olnew_any W3 69 (.pointer (some ⟨p, 0, none⟩)) g
  have HN := Lib.hid hN
  have hs : w.heap.size ≤ p ∧ p < g ∧ g < W3.heap.size := ⟨by omega, by omega, hlt3⟩
  unfold othV at hW3
  clear hB2 hB3 al2 al3 hN
  go_wp2_with fail
  refine HN.out.mono ?_
  rintro e w' ⟨rfl, rfl⟩
  have al4 : Below W3.heap.size W3 (W3.alloc (.cells #[.iface 69 (.pointer (some ⟨p, 0, none⟩)), .slice (some ⟨g, 0, none⟩) 1 1, .slice none 0 0] 94)) := (Below.refl _ _).alloc (Nat.le_refl _) _
  have hM := Blk.new W3 94 #[.iface 69 (.pointer (some ⟨p, 0, none⟩)), .slice (some ⟨g, 0, none⟩) 1 1, .slice none 0 0]
  obtain ⟨m, hm⟩ : ∃ m, W3.heap.size = m := ⟨_, rfl⟩
  obtain ⟨W4, hW4⟩ : ∃ W4, W3.alloc (.cells #[.iface 69 (.pointer (some ⟨p, 0, none⟩)), .slice (some ⟨g, 0, none⟩) 1 1, .slice none 0 0] 94) = W4 := ⟨_, rfl⟩
  rw [hW4] at hM al4 ⊢
  rw [hm] at hM ⊢
  have hb14 : Below w1.heap.size w1 W4 := (HAl.out.1.trans (HAl.out.2.mono HAl.out.1.size)).trans (al4.mono (Nat.le_trans HAl.out.1.size HAl.out.2.size))
  have HF := Lib.hid (show olRaw W4 w.heap.size m ∧ Below w.heap.size w W4 from by
    obtain ⟨h1, h2, h3⟩ := HX.out
    refine ⟨⟨p, an, g, T, hM, HB2.out.below al4 HB2.out.lt, HB3.out.below al4 HB3.out.lt, h1.below hb14, h2.keep h1.1 (fun k r hs hr => (hb14.block k (h1.1 k hs)).trans hr), by omega, hs.1, nf_new (by omega), nf_new (by omega), Nat.le_trans (Nat.le_trans hfl hz1) hb14.size⟩, h3.trans (hb14.mono hz1)⟩)
  clear hM al4 hb14 HX
  go_wp2
  go_ret
  exact ⟨m, rfl, HF.out⟩
/-- What Decode gives of a text. -/
def olRun (bs : List UInt8) : Option (List Ev) := runI (M := outMI) bs
def OlDc (bs : List UInt8) (w : World) (e : Ending) (w' : World) : Prop :=
  ∃ lv l k n, e = .returned (.tuple #[lv, .int .i64 k, .int .i64 ((n : Nat) : Int)]) ∧ ERow w' w.heap.size lv l ∧ allOk [topP] l ∧ (∀ e ∈ l, okE e) ∧ l.length ≤ 1000000 ∧ ((olRun bs = some l ∧ k = 0 ∧ n = bs.length ∧ doneB (runS [topP] l) = true) ∨ (olRun bs = none ∧ k ≠ 0 ∧ n ≤ bs.length)) ∧ Below w.heap.size w w'
set_option maxHeartbeats 4000000 in
theorem oldecode_any0 (w : World) (v : Value) (bs : List UInt8) (hn : bs.length ≤ 600) (hv : BRead w v bs) (hw : Nm.StdW w) (hfl : Fo.lim ≤ w.heap.size) (htk : Fo.tk = none) :
    Calls Tryz.prog 11 #[v] w (OlDc bs w) := by
  have hC : ∀ w1 m, olRaw w1 w.heap.size m → Below w.heap.size w w1 → Calls Tryz.prog 16 #[.iface 40 (.pointer (some ⟨m, 0, none⟩)), v] w1 (DecP outMI bs w1 w.heap.size) := fun w1 m hM hb =>
    sdecodeI_any (M := outMI) w1 w.heap.size m v bs hM htk hb.size ⟨w, hw, Nat.le_refl _, hb⟩ hn (fun w' h => hv.below (hb.trans h))
  have hP := onew_any w hfl
  have HC := Lib.hid hC
  clear hC hv
  go_enter Tryz.func11, Tryz.ntmps11
  go_wp2_with fail
  refine hP.mono ?_
  rintro e w0 ⟨m, rfl, hM, hb0⟩
  have HD := Lib.hid (HC.out w0 m hM hb0)
  have HB0 := Lib.hid hb0
  clear hM hb0 HC hP
  go_wp2_with fail
  refine HD.out.mono ?_
  rintro e w1 ⟨lv, l, k, n, rfl, hRow, h1, h2, h3, h4, hb1⟩
  have HR := Lib.hid (And.intro hRow (And.intro h1 (And.intro h2 (And.intro h3 (And.intro h4 (HB0.out.trans hb1))))))
  clear hRow h1 h2 h3 h4 hb1 HD HB0
  go_wp2
  go_ret3
  exact ⟨lv, l, k, n, rfl, HR.out.1, HR.out.2.1, HR.out.2.2.1, HR.out.2.2.2.1, HR.out.2.2.2.2.1, HR.out.2.2.2.2.2⟩
end Go.Proofs.YtalkjgijmceifaaGreatDoor
namespace Go.Proofs.YtalkjgijmceifaaGreatDoor
open Go.RowKit Go.Maps
set_option maxRecDepth 100000
set_option linter.unusedSimpArgs false
set_option linter.unusedVariables false
set_option linter.unusedSectionVars false
variable [Tab] [Fo]

def liveT_O : List UInt8 := [97, 58, 32, 38, 107, 32, 91, 49, 93, 10, 98, 58, 32, 42, 107, 10]
def liveL_O : List Ev := [⟨7, ⟨#[]⟩, ⟨#[]⟩⟩, ⟨8, ⟨#[97]⟩, ⟨#[]⟩⟩, ⟨5, ⟨#[]⟩, ⟨#[]⟩⟩, ⟨3, ⟨#[49]⟩, ⟨#[]⟩⟩, ⟨6, ⟨#[]⟩, ⟨#[]⟩⟩, ⟨8, ⟨#[98]⟩, ⟨#[]⟩⟩, ⟨5, ⟨#[]⟩, ⟨#[]⟩⟩, ⟨3, ⟨#[49]⟩, ⟨#[]⟩⟩, ⟨6, ⟨#[]⟩, ⟨#[]⟩⟩, ⟨9, ⟨#[]⟩, ⟨#[]⟩⟩]
theorem live_O : olRun liveT_O = some liveL_O := by kernel_rfl

set_option maxHeartbeats 4000000 in
theorem lives_O (w : World) (hw : Nm.StdW w) (hfl : Fo.lim ≤ w.heap.size) (htk : Fo.tk = none) : Calls Tryz.prog 12 #[] w fun e w' => e = .returned (.bool true) ∧ Below w.heap.size w w' := by
  have al : Below w.heap.size w (w.alloc (.cells #[.int .u8 97, .int .u8 58, .int .u8 32, .int .u8 38, .int .u8 107, .int .u8 32, .int .u8 91, .int .u8 49, .int .u8 93, .int .u8 10, .int .u8 98, .int .u8 58, .int .u8 32, .int .u8 42, .int .u8 107, .int .u8 10] 5 (16, 17))) := (Below.refl _ _).alloc (Nat.le_refl _) _
  have hR : BRead (w.alloc (.cells #[.int .u8 97, .int .u8 58, .int .u8 32, .int .u8 38, .int .u8 107, .int .u8 32, .int .u8 91, .int .u8 49, .int .u8 93, .int .u8 10, .int .u8 98, .int .u8 58, .int .u8 32, .int .u8 42, .int .u8 107, .int .u8 10] 5 (16, 17))) (.slice (some ⟨w.heap.size, 0, none⟩) 16 16) liveT_O := by
    refine ⟨_, _, rfl, fun _ => ⟨_, rfl, fun j hj => ?_⟩⟩
    rw [addr_add0, World.cell?_alloc_mark]
    have hj' : j < 16 := hj
    match j, hj' with
    | 0, _ => rfl
    | 1, _ => rfl
    | 2, _ => rfl
    | 3, _ => rfl
    | 4, _ => rfl
    | 5, _ => rfl
    | 6, _ => rfl
    | 7, _ => rfl
    | 8, _ => rfl
    | 9, _ => rfl
    | 10, _ => rfl
    | 11, _ => rfl
    | 12, _ => rfl
    | 13, _ => rfl
    | 14, _ => rfl
    | 15, _ => rfl
    | i + 16, h => exact absurd h (by omega)
  have hC := oldecode_any0 _ _ liveT_O (by decide) hR (hw.below al) (Nat.le_trans hfl al.size) htk
  have hcv := Lib.run_convert_bytes_const (P := Tryz.prog) w 22 5 #[.int .u8 97, .int .u8 58, .int .u8 32, .int .u8 38, .int .u8 107, .int .u8 32, .int .u8 91, .int .u8 49, .int .u8 93, .int .u8 10, .int .u8 98, .int .u8 58, .int .u8 32, .int .u8 42, .int .u8 107, .int .u8 10] 16 16 Tryz.underlying22 Tryz.underlying5
  simp only [List.size_toArray, List.length_cons, List.length_nil, Nat.zero_add, Nat.reduceAdd] at hcv
  clear hR
  have HAL := Lib.hid al
  clear al
  go_enter Tryz.func12, Tryz.ntmps12
  go_wp2_with fail
  refine hC.mono ?_
  rintro e w1 ⟨lv, l, k, n, rfl, hRow, _, _, _, hcase, hb1⟩
  obtain ⟨rfl, rfl, rfl⟩ : l = liveL_O ∧ k = 0 ∧ n = 16 := by
    rcases hcase with ⟨h1, h2, h3, _⟩ | ⟨h1, _⟩
    · exact ⟨Option.some.inj (h1.symm.trans live_O), h2, h3⟩
    · exact absurd (h1.symm.trans live_O) (by simp)
  have HB := Lib.hid (HAL.out.trans (hb1.mono HAL.out.size))
  obtain ⟨A, c, hlv, _, _, hr⟩ := hRow.read
  obtain ⟨b, o, rfl, hcell⟩ := hr (by decide)
  have hlv' : lv = .slice (some ⟨b, o, none⟩) 10 c := hlv
  subst hlv'
  obtain ⟨x0, x1, x2⟩ := hcell 1 (by decide)
  obtain ⟨y0, y1, y2⟩ := hcell 7 (by decide)
  have x0' : w1.cell? ⟨b, o + 3, none⟩ = some (.int .i64 8) := x0
  have x1' : w1.cell? ⟨b, o + 4, none⟩ = some (.string ⟨#[97]⟩) := x1
  have x2' : w1.cell? ⟨b, o + 5, none⟩ = some (.string ⟨#[]⟩) := x2
  have y0' : w1.cell? ⟨b, o + 21, none⟩ = some (.int .i64 3) := y0
  have y1' : w1.cell? ⟨b, o + 22, none⟩ = some (.string ⟨#[49]⟩) := y1
  have y2' : w1.cell? ⟨b, o + 23, none⟩ = some (.string ⟨#[]⟩) := y2
  clear hRow hb1 hr hcell hlv x0 x1 x2 y0 y1 y2 hC hcv hcase
  go_wp2
  go_ret
  exact ⟨rfl, HB.out⟩

theorem few_O (w : World) (A : Option Addr) (c : Nat) (bs : List UInt8) (hv : BRead w (.slice A bs.length c) bs) (hc : bs.length ≤ c) :
    Calls Tryz.prog 10 #[.slice A bs.length c] w fun e w' => e = .returned (.slice A (bs.take 600).length c) ∧ BRead w (.slice A (bs.take 600).length c) (bs.take 600) ∧ w = w' := by
  by_cases h6 : 600 < bs.length
  · obtain ⟨A', c', he, hr⟩ := hv
    injection he with e1 _ e3
    subst e1 e3
    obtain ⟨ad, rfl, hcell⟩ := hr (by omega)
    have hz : decide ((600 : Int) < (bs.length : Int)) = true := by simp; omega
    have hle : 600 ≤ c := by omega
    have hl : (bs.take 600).length = 600 := by rw [List.length_take]; omega
    have HV : BRead w (.slice (some ad) (bs.take 600).length c) (bs.take 600) := by
      refine ⟨some ad, c, rfl, fun _ => ⟨ad, rfl, fun j hj => ?_⟩⟩
      rw [List.getElem_take]
      exact hcell j (by omega)
    have HR := Lib.hid HV
    rw [hl]
    rw [hl] at HR
    clear hcell hr HV hl
    generalize bs.take 600 = ts at *
    go_enter Tryz.func10, Tryz.ntmps10
    go_wp2
    go_ret
    exact ⟨rfl, HR.out, rfl⟩
  · have hz : decide ((600 : Int) < (bs.length : Int)) = false := by simp; omega
    rw [List.take_of_length_le (by omega)]
    have HV := Lib.hid hv
    clear hv
    go_enter Tryz.func10, Tryz.ntmps10
    go_wp2
    go_ret
    exact ⟨rfl, HV.out, rfl⟩
end Go.Proofs.YtalkjgijmceifaaGreatDoor
namespace Go.Proofs.YtalkjgijmceifaaGreatDoor
open Go.RowKit Go.Maps
set_option maxRecDepth 100000
set_option linter.unusedSimpArgs false
set_option linter.unusedVariables false
set_option linter.unusedSectionVars false
variable [Tab] [Fo]

set_option maxHeartbeats 4000000 in
theorem walk_OutlineWhole (v0 : Value) (bs : List UInt8) (_hlen : bs.length ≤ 140737488355328) (hcap : ∀ A n c, v0 = .slice A n c → n ≤ c) (w : World) (hw : Nm.StdW w) (hfl : Fo.lim ≤ w.heap.size) (htk : Fo.tk = none) (h0 : BRead w v0 bs) :
    Calls Tryz.prog 4 #[v0] w fun e w' => e = .returned (.bool true) ∧ Below w.heap.size w w' := by
  obtain ⟨A, c, rfl, hA⟩ := h0
  have hF := few_O w A c bs ⟨A, c, rfl, hA⟩ (hcap _ _ _ rfl)
  clear hA
  go_enter Tryz.func4, Tryz.ntmps4
  go_wp2_with fail
  refine hF.mono ?_
  rintro e w' ⟨rfl, hR, rfl⟩
  have hts : (bs.take 600).length ≤ 600 := by rw [List.length_take]; omega
  generalize bs.take 600 = ts at *
  have hD := oldecode_any0 w _ ts hts hR hw hfl htk
  have HD := Lib.hid hD
  clear hF hD
  obtain ⟨Lt, hLt⟩ : ∃ Lt, ts.length = Lt := ⟨_, rfl⟩
  have HLt := Lib.hid hLt
  have hdd := HD.out
  unfold OlDc at hdd
  rw [hLt] at hdd ⊢
  have HDD := Lib.hid hdd
  clear hdd HD hLt hts
  go_wp2_with fail
  refine HDD.out.mono ?_
  rintro e w1 ⟨lv, Zl, E, R, rfl, hRow, f1, f3, f0, hcase, hb1⟩
  have hRd := hRow.read
  have hW := ewhole_any w1 lv Zl hRd f3 (NumWs.of (hw.below hb1)) (by omega) (Nat.le_trans hfl hb1.size)
  rw [whole_of f1] at hW
  unfold WEnd at hW
  obtain ⟨A2, c2, hlv, _, _, _⟩ := hRd
  obtain ⟨Ll, hLl⟩ : ∃ Ll, Zl.length = Ll := ⟨_, rfl⟩
  rw [hLl] at hlv hW
  subst hlv
  have HB1 := Lib.hid hb1
  clear hRow hb1 HDD f3 f1 f0 hLl
  rcases hcase with ⟨_, rfl, hr, hdn⟩ | ⟨_, hE, hle⟩
  · subst hr
    have hd : (if doneB (runS [topP] Zl) then (0 : Int) else 19) = 0 := by rw [hdn]; rfl
    simp only [hd] at hW
    have HW := Lib.hid hW
    clear hd hW hdn
    go_wp2_with fail
    refine HW.out.mono ?_
    rintro e w3 ⟨rfl, hb3⟩
    have HB3 := Lib.hid (HB1.out.trans (hb3.mono HB1.out.size))
    have HL := Lib.hid (lives_O w3 (hw.below HB3.out) (Nat.le_trans hfl HB3.out.size) htk)
    clear hb3 HW
    go_wp2_with fail
    refine HL.out.mono ?_
    rintro e w4 ⟨rfl, hb4⟩
    have HB4 := Lib.hid (HB3.out.trans (hb4.mono HB3.out.size))
    clear hb4
    go_wp2
    go_ret
    exact ⟨rfl, HB4.out⟩
  · have e0 : (E == 0) = false := by rw [beq_eq_false_iff_ne]; exact hE
    generalize (if doneB (runS [topP] Zl) then (0 : Int) else 19) = D at *
    have HW := Lib.hid hW
    have HF1 := Lib.hid hle
    clear hW hE hle
    go_wp2_with fail
    refine HW.out.mono ?_
    rintro e w3 ⟨rfl, hb3⟩
    have HB3 := Lib.hid (HB1.out.trans (hb3.mono HB1.out.size))
    have HL := Lib.hid (lives_O w3 (hw.below HB3.out) (Nat.le_trans hfl HB3.out.size) htk)
    clear hb3 HW
    go_wp2_with fail
    refine HL.out.mono ?_
    rintro e w4 ⟨rfl, hb4⟩
    have HB4 := Lib.hid (HB3.out.trans (hb4.mono HB3.out.size))
    clear hb4
    go_wp2
    go_ret
    · exact ⟨rfl, HB4.out⟩
    all_goals exact absurd HF1.out (by assumption)
end Go.Proofs.YtalkjgijmceifaaGreatDoor

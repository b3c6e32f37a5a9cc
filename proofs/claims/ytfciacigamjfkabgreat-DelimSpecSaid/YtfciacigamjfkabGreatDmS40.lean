/-
  The walk of DelimSpec.
  A table for the walks that ask for one: the library's own.
-/
import Derived.Test.YtfciacigamjfkabGreatDmS28
import Derived.Test.YtfciacigamjfkabGreatDmS38
import Derived.Test.YtfciacigamjfkabGreatDmS39
import Derived.Test.YtfciacigamjfkabGreatRows
import Derived.Test.YtfciacigamjfkabGreatDmS02
import Derived.Lib.LaidTab
namespace Go.Proofs.YtfciacigamjfkabGreat
open Go.RowKit Go.Maps
set_option maxRecDepth 100000
set_option linter.unusedSimpArgs false
set_option linter.unusedVariables false
set_option linter.unusedSectionVars false
variable [Tab] [Fo]

set_option maxHeartbeats 4000000 in
theorem walk_DelimSpec (v0 : Value) (bs : List UInt8) (_hlen : bs.length ≤ 140737488355328) (hcap : ∀ A n c, v0 = .slice A n c → n ≤ c) (w : World) (hfl : Fo.lim ≤ w.heap.size) (h0 : BRead w v0 bs) :
    Calls Tryz.prog 3 #[v0] w fun e w' => e = .returned (.bool true) ∧ Below w.heap.size w w' := by
  obtain ⟨A, c, rfl, hA⟩ := h0
  have hF := few_D w A c bs ⟨A, c, rfl, hA⟩ (hcap _ _ _ rfl)
  clear hA
  go_enter Tryz.func3, Tryz.ntmps3
  go_wp2_with fail
  refine hF.mono ?_
  rintro e w' ⟨rfl, hR, rfl⟩
  have hts : (bs.take 600).length ≤ 600 := by rw [List.length_take]; omega
  generalize bs.take 600 = ts at *
  obtain ⟨Lt, hLt⟩ : ∃ Lt, ts.length = Lt := ⟨_, rfl⟩
  rw [hLt] at hR ⊢
  have HR := Lib.hid hR
  have HTS := Lib.hid hts
  have hD1 := ddecode_any w (.slice A Lt c) ts (by omega) hR hfl
  obtain ⟨hS1, hS2⟩ := spec_dec ts
  have hSp := fun (w1 : World) (h : Below w.heap.size w w1) => rspec_any ts w1 hts (Nat.le_trans hfl h.size)
  rw [hS1, hS2] at hSp
  obtain ⟨E, hE⟩ : ∃ E, dEr ts = E := ⟨_, rfl⟩
  obtain ⟨R, hRd⟩ : ∃ R, dRd ts = R := ⟨_, rfl⟩
  obtain ⟨L, hL⟩ : ∃ L, dEv ts = L := ⟨_, rfl⟩
  obtain ⟨n, hn⟩ : ∃ n, L.length = n := ⟨_, rfl⟩
  rw [hE, hRd, hL] at hD1 hSp
  have Hn := Lib.hid hn
  have HD1 := Lib.hid hD1
  have HSp := Lib.hid hSp
  clear hF hcap hts hLt hD1 hS1 hS2 hSp hE hRd hL hn hR
  go_wp2_with fail
  refine HD1.out.mono ?_
  rintro e w1 ⟨lv, rfl, hRow, hb1⟩
  have HRow := Lib.hid hRow
  have HB1 := Lib.hid hb1
  obtain ⟨A4, c4, rfl⟩ := hRow.shape
  rw [Hn.out] at HRow ⊢
  have hs1 := str_of_read (P := Tryz.prog) 22 9 5 Tryz.underlying22 Tryz.underlying5 Tryz.underlying9 (HR.out.below hb1)
  have HC := Lib.hid (HSp.out w1 hb1)
  clear hRow hb1 HD1 HSp
  go_wp2_with fail
  refine HC.out.mono ?_
  rintro e w2 ⟨lv2, rfl, hRow2, hb2⟩
  have HB2 := Lib.hid (HB1.out.trans (hb2.mono HB1.out.size))
  have HRow2 := Lib.hid hRow2
  obtain ⟨A5, c5, rfl⟩ := hRow2.shape
  rw [Hn.out] at HRow2 ⊢
  have hS := esame_any w2 (.slice A4 n c4) (.slice A5 n c5) L L (HRow.out.below hb2).read HRow2.out.read
  rw [decide_eq_true rfl] at hS
  have HS := Lib.hid hS
  clear hRow2 hb2 hS hs1
  go_wp2_with fail
  refine HS.out.mono ?_
  rintro e w6 ⟨rfl, hb6⟩
  have HB6 := Lib.hid (HB2.out.trans (hb6.mono HB2.out.size))
  have HV := Lib.hid (lives_D w6 (Nat.le_trans hfl HB6.out.size))
  clear hb6 HS
  go_wp2_with fail
  refine HV.out.mono ?_
  rintro e w7 ⟨rfl, hb7⟩
  have HB7 := Lib.hid (HB6.out.trans (hb7.mono HB6.out.size))
  clear hb7
  go_wp2
  go_ret
  exact ⟨rfl, HB7.out⟩
end Go.Proofs.YtfciacigamjfkabGreat
namespace Go.Proofs.YtfciacigamjfkabGreat
open Go.RowKit
@[reducible] def tab0 : Tab := ⟨Lib.pow10Tab, by unfold okTab; decide +kernel⟩
end Go.Proofs.YtfciacigamjfkabGreat

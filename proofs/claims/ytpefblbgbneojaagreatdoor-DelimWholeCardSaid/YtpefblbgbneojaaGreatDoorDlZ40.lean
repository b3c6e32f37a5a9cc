/-
  The walk of DelimWhole.
  What every row of this seat's laws shares: the variables that are listed, a world that holds them, what the walks lean on out of them; (stage 9).
-/
import Derived.Test.YtpefblbgbneojaaGreatDoorDlZ39
import Derived.Test.YtpefblbgbneojaaGreatDoorRows
import Derived.Test.YtpefblbgbneojaaGreatDoorCards
import Derived.Test.YtpefblbgbneojaaGreatDoorTie
import Derived.Test.YtpefblbgbneojaaGreatDoorDlZ25
import Derived.Deep.Slices
import Derived.Deep.Fields
import Derived.ChangeSame
import Derived.SizedLaws
import Derived.ProofKit
import Derived.OpenShut
import Derived.ShutString
import Derived.Deep.DeepHandedRow
import Derived.Lib.LaidTab
import Derived.Lay
import Derived.Stop.LaidErr
import Derived.SevenTiedAt
namespace Go.Proofs.YtpefblbgbneojaaGreatDoor
open Go.RowKit Go.Maps
set_option maxRecDepth 100000
set_option linter.unusedSimpArgs false
set_option linter.unusedVariables false
set_option linter.unusedSectionVars false
variable [Tab] [Fo]

set_option maxHeartbeats 4000000 in
theorem walk_DelimWhole (v0 : Value) (bs : List UInt8) (_hlen : bs.length ≤ 140737488355328) (hcap : ∀ A n c, v0 = .slice A n c → n ≤ c) (w : World) (hw : Nm.StdW w) (hfl : Fo.lim ≤ w.heap.size) (h0 : BRead w v0 bs) :
    Calls Tryz.prog 3 #[v0] w fun e w' => e = .returned (.bool true) ∧ Below w.heap.size w w' := by
  obtain ⟨A, c, rfl, hA⟩ := h0
  have hF := few_D w A c bs ⟨A, c, rfl, hA⟩ (hcap _ _ _ rfl)
  clear hA
  go_enter Tryz.func3, Tryz.ntmps3
  go_wp2_with fail
  refine hF.mono ?_
  rintro e w' ⟨rfl, hR, rfl⟩
  have hts : (bs.take 600).length ≤ 600 := by rw [List.length_take]; omega
  generalize bs.take 600 = ts at *
  have hD := ddecode_any w _ ts (by omega) hR hfl
  obtain ⟨f0, f1, f2, f3, f4, f5⟩ := text_facts dlW ts
  change (dEv ts).length ≤ 4 * ts.length + 8 at f0
  have HF0 := Lib.hid (show (dEv ts).length ≤ 4611686018427387904 by omega)
  clear f0
  change dRd ts ≤ ts.length at f1
  change dEr ts = 0 → dRd ts = ts.length at f2
  change ∀ x ∈ dEv ts, okE x at f3
  change wholeGo 0 [topP] (dEv ts) = ((dEv ts).length, if doneB (dlM.st (closeBs (feedG (ss0 dlM) ts))) then 0 else 19) at f4
  change dEr ts = 0 → doneB (dlM.st (closeBs (feedG (ss0 dlM) ts))) = true at f5
  generalize dEr ts = E at *
  generalize dRd ts = R at *
  generalize dEv ts = Zl at *
  generalize doneB (dlM.st (closeBs (feedG (ss0 dlM) ts))) = Zd at *
  have HF3 := Lib.hid f3
  have HF4 := Lib.hid f4
  have HD := Lib.hid hD
  clear hF f3 f4 hD
  obtain ⟨Lt, hLt⟩ : ∃ Lt, ts.length = Lt := ⟨_, rfl⟩
  obtain ⟨Ll, hLl⟩ : ∃ Ll, Zl.length = Ll := ⟨_, rfl⟩
  rw [hLt] at f1 f2 ⊢
  have HF1 := Lib.hid f1
  have HLl := Lib.hid hLl
  have HLt := Lib.hid hLt
  clear hLt hLl hts
  have hdd := HD.out
  rw [HLt.out] at hdd
  have HDD := Lib.hid hdd
  clear hdd HD
  go_wp2_with fail
  refine HDD.out.mono ?_
  rintro e w1 ⟨lv, rfl, hRow, hb1⟩
  have hRd := hRow.read
  have hW := ewhole_any w1 lv Zl hRd HF3.out (NumWs.of (hw.below hb1)) HF0.out (Nat.le_trans hfl hb1.size)
  rw [HF4.out, HLl.out] at hW
  unfold WEnd at hW
  obtain ⟨A2, c2, hlv, _, _, _⟩ := hRd
  rw [HLl.out] at hlv
  subst hlv
  have HB1 := Lib.hid hb1
  clear hRow hb1 HDD
  by_cases hE : E = 0
  · subst hE
    have hd : (if Zd then (0 : Int) else 19) = 0 := by rw [f5 rfl]; rfl
    have hr : R = Lt := f2 rfl
    subst hr
    simp only [hd] at hW
    have HW := Lib.hid hW
    clear hd hW f1 f2 f5
    go_wp2_with fail
    refine HW.out.mono ?_
    rintro e w3 ⟨rfl, hb3⟩
    have HB3 := Lib.hid (HB1.out.trans (hb3.mono HB1.out.size))
    have HL := Lib.hid (lives_D w3 (Nat.le_trans hfl HB3.out.size))
    clear hb3 HW
    go_wp2_with fail
    refine HL.out.mono ?_
    rintro e w4 ⟨rfl, hb4⟩
    have HB4 := Lib.hid (HB3.out.trans (hb4.mono HB3.out.size))
    clear hb4
    go_wp2
    go_ret
    exact ⟨rfl, HB4.out⟩
  · have e0 : (E == 0) = false := by rw [beq_eq_false_iff_ne]; exact hE
    generalize (if Zd then (0 : Int) else 19) = D at *
    have HW := Lib.hid hW
    clear hW f1 f2 f5 hE
    go_wp2_with fail
    refine HW.out.mono ?_
    rintro e w3 ⟨rfl, hb3⟩
    have HB3 := Lib.hid (HB1.out.trans (hb3.mono HB1.out.size))
    have HL := Lib.hid (lives_D w3 (Nat.le_trans hfl HB3.out.size))
    clear hb3 HW
    go_wp2_with fail
    refine HL.out.mono ?_
    rintro e w4 ⟨rfl, hb4⟩
    have HB4 := Lib.hid (HB3.out.trans (hb4.mono HB3.out.size))
    clear hb4
    go_wp2
    go_ret
    · exact ⟨rfl, HB4.out⟩
    all_goals exact absurd HF1.out (by assumption)
end Go.Proofs.YtpefblbgbneojaaGreatDoor
namespace Go.Proofs.YtpefblbgbneojaaGreatDoor
open Go.RowKit Go.ChangeShapes Go.WideShapes Go.Deep
set_option maxRecDepth 100000

theorem own : ownKnob Tryz.prog.godebug = none := by kernel_rfl
theorem laidOut : laidOutB Tryz.prog = true := by kernel_rfl
def laidL : List (String × DataW Unit) := Rows.delimWholeRow.laid
theorem laidL_eq : laidL = [("math/bits.deBruijn32tab", Rows.laid_math_bits_deBruijn32tab), ("math/bits.deBruijn64tab", Rows.laid_math_bits_deBruijn64tab), ("internal/strconv.uint64pow10", Rows.laid_internal_strconv_uint64pow10), ("unicode/utf8.acceptRanges", Rows.laid_unicode_utf8_acceptRanges), ("strconv.ErrRange", Rows.laid_strconv_ErrRange), ("strconv.ErrSyntax", Rows.laid_strconv_ErrSyntax), ("unicode/utf8.first", Rows.laid_unicode_utf8_first)] := rfl

theorem laid_met (os : Os) (args : Array Value) : laidMetH Tryz.prog laidL ((World.laidAll Tryz.prog os laidL).forCall (fun _ _ => 0) ⟨#[], args, []⟩).memory := by
  rw [MakeChecks.laidMetH_plain _ _ _ (by kernel_rfl)]
  exact laidMet_laidAll _ (by kernel_rfl) (by kernel_rfl)
theorem shapedW (os : Os) (args : Array Value) : ((World.laidAll Tryz.prog os laidL).forCall (fun _ _ => 0) ⟨#[], args, []⟩).Shaped Tryz.prog :=
  World.shaped_of_ZipB (by kernel_rfl) (by kernel_rfl)

theorem pow_data : (Rows.laid_internal_strconv_uint64pow10 : DataW Unit) = Lib.tabData .u64 Lib.pow10Tab := by kernel_rfl
theorem tPow : (Tryz.prog.globals[5]?).map (·.type) = some 152 := by kernel_rfl
theorem tRange : (Tryz.prog.globals[2]?).map (·.type) = some 117 := by kernel_rfl
theorem star : "*" ++ "errors.errorString" = "*errors.errorString" := by decide
theorem row_err (u : TypeId) (h : Tryz.prog.typeName? 3 u = some "*errors.errorString") : u = 156 :=
  typeName_ptr_named (nm := "errors.errorString") (by rw [star]; kernel_rfl) (by kernel_rfl) (by decide) u (by rw [star]; exact h)
/-- The table that the program's text lays. -/
@[reducible] def tab0 : Tab := ⟨Lib.pow10Tab, by unfold okTab; decide +kernel⟩
theorem std_of {W : World} (hL : laidMetH Tryz.prog laidL W) (hsh : W.ShapedOpen Tryz.prog) : @Nm.StdW tab0 W := by
  rw [MakeChecks.laidMetH_plain _ _ _ (by kernel_rfl), laidL_eq] at hL
  refine @Nm.StdW.mk tab0 W (Tryz.laysM145.s1_3 W hsh) ?_ ?_
  · have h5 := hL.tail.tail.tail.tail
    unfold Rows.laid_strconv_ErrRange at h5
    obtain ⟨a, s, h, _⟩ := laid_sentinel h5 Nm.gRange tRange Tryz.underlying117 row_err Tryz.underlying156 Tryz.underlying158 rfl rfl Tryz.underlying9 (by kernel_rfl) (by kernel_rfl)
    have hc := World.var?_cell Nm.gRange h 0
    exact ⟨_, by simpa using hc, .inr ⟨_, _, rfl⟩⟩
  · have h3 := hL.tail.tail
    rw [pow_data] at h3
    exact Lib.tabIs_of_head Nm.gPow tPow Tryz.underlying152 Tryz.underlying128 (by kernel_rfl) (by kernel_rfl) h3
end Go.Proofs.YtpefblbgbneojaaGreatDoor

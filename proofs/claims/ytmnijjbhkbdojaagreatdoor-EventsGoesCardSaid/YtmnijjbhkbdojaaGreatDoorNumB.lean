/-
  Contracts of num's exponent, the order of texts, compareSizes.
-/
import Derived.Test.YtmnijjbhkbdojaaGreatDoorNumA
import Derived.Test.YtmnijjbhkbdojaaGreatDoorNumQ
import Derived.Test.YtmnijjbhkbdojaaGreatDoorRead
import Derived.Test.YtmnijjbhkbdojaaGreatDoorShelf
import Derived.WalkSmall
import Derived.Lib.LaidTab
import Derived.Lib.AppendIntMem
import Derived.BigQuiet
import Derived.Deep.QuietTactic
namespace Go.Proofs.YtmnijjbhkbdojaaGreatDoor.Nm
open Go.RowKit

/-! What the walks lean on in the world: variables of the library. -/
theorem gMax : Tryz.prog.globalNamed "internal/bytealg.MaxLen" = some 0 := by kernel_rfl
theorem gRange : Tryz.prog.globalNamed "strconv.ErrRange" = some 2 := by kernel_rfl
theorem gPow : Tryz.prog.globalNamed "internal/strconv.uint64pow10" = some 5 := by kernel_rfl
structure StdW (w : World) : Prop where
  max : ∃ m, w.cell? ⟨0, 0, none⟩ = some (.int .i64 m)
  range : ∃ tp p, w.var? Tryz.prog "strconv.ErrRange" = some #[.iface tp p]
  pow : Lib.TabIs Tryz.prog w "internal/strconv.uint64pow10" .u64 Lib.pow10Tab
theorem StdW.below {w w' : World} (h : StdW w) (hb : Below w.heap.size w w') : StdW w' := by
  obtain ⟨⟨m, hm⟩, ⟨tp, p, hr⟩, hp⟩ := h
  refine ⟨⟨m, (hb.cell (p := ⟨0, 0, none⟩) (cell_lt hm)).trans hm⟩, ⟨tp, p, ?_⟩, Lib.tabBelow_of_tabIs hp w' hb⟩
  have hc := World.var?_cell gRange hr 0
  exact var?_below hb gRange (cell_lt (p := ⟨2, 0, none⟩) hc) hr
theorem StdW.drewN {w : World} (h : StdW w) (n : Nat) : StdW (w.drewN n) := h.below (below_drewN (Below.refl _ _) n)

theorem expo_any (s : ByteArray) (w : World) (hw : StdW w) (hs : s.size ≤ 30) (h1 : sgn s.data.toList ≠ []) (h2 : (sgn s.data.toList).all dig = true) :
    Calls Tryz.prog 76 #[.string s] w fun e w' => e = .returned (.int .i64 (clampI (atoiI s.data.toList))) ∧ Below w.heap.size w w' := by
  rcases (atoi_tail _ h1 h2).1 with ha | ⟨v, ha⟩
  · have hv : atoiI s.data.toList = Lib.atoiSat s.data.toList := by unfold atoiI; rw [ha]; rfl
    rw [hv]
    have HA := Lib.hid ha
    clear ha hv
    obtain ⟨tp, p, hr⟩ := hw.range
    go_enter Tryz.func76, Tryz.ntmps76
    go_wp2_with fail
    refine (Tryz.strconv_Atoi_range_var s (by omega) HA.out tp p _ hr).mono ?_
    rintro e w1 ⟨N, rfl, _, _, hb⟩
    go_wp2
    go_ret
    exact ⟨rfl, hb⟩
  · have hv : atoiI s.data.toList = v := by unfold atoiI; rw [ha]; rfl
    rw [hv]
    have HA := Lib.hid ha
    clear ha hv
    go_enter Tryz.func76, Tryz.ntmps76
    go_wp2_with fail
    refine (Tryz.strconv_Atoi_ok s (by omega) v HA.out _).mono ?_
    rintro e w1 ⟨rfl, hw1⟩
    have hb : Below w.heap.size w w1 := by
      rcases hw1 with rfl | ⟨t, rfl⟩
      · exact Below.refl _ _
      · exact Lib.bytesWorld_below _ _ _
    clear hw1
    go_wp2
    go_ret
    exact ⟨rfl, hb⟩

theorem lex_lss (x y : List UInt8) : Op.bytesLess x y = decide (lexC x y < 0) := by
  induction x generalizing y with
  | nil => cases y <;> simp [Op.bytesLess, lexC]
  | cons a x ih =>
    cases y with
    | nil => simp [Op.bytesLess, lexC]
    | cons b y =>
      simp only [Op.bytesLess, lexC]
      by_cases h : a.toNat < b.toNat
      · have : a < b := by rwa [UInt8.lt_iff_toNat_lt]
        simp [h, this]
      · have : ¬ a < b := by rwa [UInt8.lt_iff_toNat_lt]
        by_cases h2 : b.toNat < a.toNat
        · have h3 : (a == b) = false := by rw [beq_eq_false_iff_ne]; intro hc; subst hc; omega
          simp [h, this, h2, h3]
        · have h3 : a = b := UInt8.toNat_inj.1 (by omega)
          subst h3
          simp [ih]
theorem lex_eq (x y : List UInt8) : (x == y) = decide (lexC x y = 0) := by
  by_cases h : x = y
  · subst h; rw [lexC_self]; simp
  · have : lexC x y ≠ 0 := fun hc => h (lexC_zero hc)
    simp [h, this]

/-- A decimal as the program holds it. -/
def decA (v : Val) : Value := .agg #[.int .i64 (sgI v), .string ⟨v.digs.toArray⟩, .int .i64 v.pow]

end Go.Proofs.YtmnijjbhkbdojaaGreatDoor.Nm

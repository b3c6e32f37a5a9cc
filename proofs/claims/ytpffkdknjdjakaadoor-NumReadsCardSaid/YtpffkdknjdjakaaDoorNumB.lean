/-
  Contracts of num's exponent, the order of texts, compareSizes.
-/
import Derived.Test.YtpffkdknjdjakaaDoorNumA
import Derived.Test.YtpffkdknjdjakaaDoorNumQ
import Derived.Test.YtpffkdknjdjakaaDoorRead
import Derived.Test.YtpffkdknjdjakaaDoorShelf
import Derived.WalkSmall
import Derived.Lib.LaidTab
import Derived.Lib.AppendIntMem
import Derived.BigQuiet
import Derived.Deep.QuietTactic
namespace Go.Proofs.YtpffkdknjdjakaaDoor
open Go.RowKit

/-! What the walks lean on in the world: variables of the library. -/
theorem gMax : Tryd.prog.globalNamed "internal/bytealg.MaxLen" = some 0 := by kernel_rfl
theorem gRange : Tryd.prog.globalNamed "strconv.ErrRange" = some 2 := by kernel_rfl
theorem gPow : Tryd.prog.globalNamed "internal/strconv.uint64pow10" = some 5 := by kernel_rfl
structure StdW (w : World) : Prop where
  max : ∃ m, w.cell? ⟨0, 0, none⟩ = some (.int .i64 m)
  range : ∃ tp p, w.var? Tryd.prog "strconv.ErrRange" = some #[.iface tp p]
  pow : Lib.TabIs Tryd.prog w "internal/strconv.uint64pow10" .u64 Lib.pow10Tab
theorem StdW.below {w w' : World} (h : StdW w) (hb : Below w.heap.size w w') : StdW w' := by
  obtain ⟨⟨m, hm⟩, ⟨tp, p, hr⟩, hp⟩ := h
  refine ⟨⟨m, (hb.cell (p := ⟨0, 0, none⟩) (cell_lt hm)).trans hm⟩, ⟨tp, p, ?_⟩, Lib.tabBelow_of_tabIs hp w' hb⟩
  have hc := World.var?_cell gRange hr 0
  exact var?_below hb gRange (cell_lt (p := ⟨2, 0, none⟩) hc) hr
theorem StdW.drewN {w : World} (h : StdW w) (n : Nat) : StdW (w.drewN n) := h.below (below_drewN (Below.refl _ _) n)

theorem expo_any (s : ByteArray) (w : World) (hw : StdW w) (hs : s.size ≤ 30) (h1 : sgn s.data.toList ≠ []) (h2 : (sgn s.data.toList).all dig = true) :
    Calls Tryd.prog 34 #[.string s] w fun e w' => e = .returned (.int .i64 (clampI (atoiI s.data.toList))) ∧ Below w.heap.size w w' := by
  rcases (atoi_tail _ h1 h2).1 with ha | ⟨v, ha⟩
  · have hv : atoiI s.data.toList = Lib.atoiSat s.data.toList := by unfold atoiI; rw [ha]; rfl
    rw [hv]
    have HA := Lib.hid ha
    clear ha hv
    obtain ⟨tp, p, hr⟩ := hw.range
    go_enter Tryd.func34, Tryd.ntmps34
    go_wp2_with fail
    refine (Tryd.strconv_Atoi_range_var s (by omega) HA.out tp p _ hr).mono ?_
    rintro e w1 ⟨N, rfl, _, _, hb⟩
    go_wp2
    go_ret
    exact ⟨rfl, hb⟩
  · have hv : atoiI s.data.toList = v := by unfold atoiI; rw [ha]; rfl
    rw [hv]
    have HA := Lib.hid ha
    clear ha hv
    go_enter Tryd.func34, Tryd.ntmps34
    go_wp2_with fail
    refine (Tryd.strconv_Atoi_ok s (by omega) v HA.out _).mono ?_
    rintro e w1 ⟨rfl, hw1⟩
    have hb : Below w.heap.size w w1 := by
      rcases hw1 with rfl | ⟨t, rfl⟩
      · exact Below.refl _ _
      · exact Lib.bytesWorld_below _ _ _
    clear hw1
    go_wp2
    go_ret
    exact ⟨rfl, hb⟩

theorem lex_lss (x y : List UInt8) : Op.bytesLess x y = decide (lexC x y < 0) := by
  induction x generalizing y with
  | nil => cases y <;> simp [Op.bytesLess, lexC]
  | cons a x ih =>
    cases y with
    | nil => simp [Op.bytesLess, lexC]
    | cons b y =>
      simp only [Op.bytesLess, lexC]
      by_cases h : a.toNat < b.toNat
      · have : a < b := by rwa [UInt8.lt_iff_toNat_lt]
        simp [h, this]
      · have : ¬ a < b := by rwa [UInt8.lt_iff_toNat_lt]
        by_cases h2 : b.toNat < a.toNat
        · have h3 : (a == b) = false := by rw [beq_eq_false_iff_ne]; intro hc; subst hc; omega
          simp [h, this, h2, h3]
        · have h3 : a = b := UInt8.toNat_inj.1 (by omega)
          subst h3
          simp [ih]
theorem lex_eq (x y : List UInt8) : (x == y) = decide (lexC x y = 0) := by
  by_cases h : x = y
  · subst h; rw [lexC_self]; simp
  · have : lexC x y ≠ 0 := fun hc => h (lexC_zero hc)
    simp [h, this]

theorem cmps_any (s t : ByteArray) (w : World) :
    Calls Tryd.prog 31 #[.string s, .string t] w fun e w' => e = .returned (.int .i64 (lexC s.data.toList t.data.toList)) ∧ w = w' := by
  go_enter Tryd.func31, Tryd.ntmps31
  go_wp2
  all_goals go_ret
  all_goals refine ⟨ret_int ?_, rfl⟩
  all_goals simp only [Lib.toList_data, lex_lss, lex_eq, decide_eq_true_eq, decide_eq_false_iff_not, Bool.not_eq_true', Bool.not_eq_false'] at *
  all_goals have h3 := lexC_01 s.data.toList t.data.toList
  all_goals omega

theorem cmpi_any (x y : Int) (w : World) :
    Calls Tryd.prog 22 #[.int .i64 x, .int .i64 y] w fun e w' => e = .returned (.int .i64 (cmpI x y)) ∧ w' = w :=
  Tryd.cmp_Compare_int x y w

/-- A decimal as the program holds it. -/
def decA (v : Val) : Value := .agg #[.int .i64 (sgI v), .string ⟨v.digs.toArray⟩, .int .i64 v.pow]

set_option maxHeartbeats 400000 in
theorem sizes_any (x y : Val) (w : World) (hx : -2147483648 ≤ x.pow ∧ x.pow ≤ 2147483648) (hy : -2147483648 ≤ y.pow ∧ y.pow ≤ 2147483648) (h1 : x.digs.length ≤ 1000) (h2 : y.digs.length ≤ 1000) :
    Calls Tryd.prog 23 #[decA x, decA y] w fun e w' => e = .returned (.int .i64 (cmpSz x y)) ∧ Below w.heap.size w w' := by
  obtain ⟨n1, D1, p1⟩ := x
  obtain ⟨n2, D2, p2⟩ := y
  simp only at hx hy h1 h2
  obtain ⟨x1, x2⟩ := hx
  obtain ⟨y1, y2⟩ := hy
  unfold decA
  simp only
  generalize sgI ⟨n1, D1, p1⟩ = s1
  generalize sgI ⟨n2, D2, p2⟩ = s2
  go_enter Tryd.func23, Tryd.ntmps23
  go_wp2_with fail
  refine (cmpi_any _ _ _).mono ?_
  rintro e w' ⟨rfl, rfl⟩
  generalize hC : cmpI (D1.length + p1) (D2.length + p2) = C
  have HC := Lib.hid hC
  clear hC
  by_cases hz : C = 0
  · have hb : (C != 0) = false := by simp [hz]
    have hfin : cmpSz ⟨n1, D1, p1⟩ ⟨n2, D2, p2⟩ = lexC D1 D2 := by
      unfold cmpSz
      simp only [HC.out]
      rw [if_neg (by omega)]
    have HF := Lib.hid hfin
    clear hz hfin
    go_wp2_with (first | (go_at_call 31; refine (cmps_any _ _ _).mono ?_; rintro e w' ⟨rfl, rfl⟩))
    go_ret
    refine ⟨ret_int HF.out.symm, ?_⟩
    exact ((Below.refl _ _).alloc (Nat.le_refl _) _).alloc (by simp) _
  · have hb : (C != 0) = true := by simpa using hz
    have hfin : cmpSz ⟨n1, D1, p1⟩ ⟨n2, D2, p2⟩ = C := by
      unfold cmpSz
      simp only [HC.out]
      rw [if_pos hz]
    have HF := Lib.hid hfin
    clear hz hfin
    go_wp2
    go_ret
    refine ⟨ret_int HF.out.symm, ?_⟩
    exact ((Below.refl _ _).alloc (Nat.le_refl _) _).alloc (by simp) _
end Go.Proofs.YtpffkdknjdjakaaDoor

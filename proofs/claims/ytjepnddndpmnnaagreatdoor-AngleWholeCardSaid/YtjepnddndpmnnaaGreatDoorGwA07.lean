/-
  Contracts of num's machine: digit, step, complete, May.
  Contracts of num's exponent, the order of texts, compareSizes.
  The shape of a number's bytes, and where its parts are found.
-/
import Derived.Test.YtjepnddndpmnnaaGreatDoorChecked
import Derived.Test.YtjepnddndpmnnaaGreatDoorGwA02
import Derived.WalkKit
import Derived.WalkSpells
import Derived.WalkLawsBesides
import Derived.Lib.Hide
import Derived.Test.YtjepnddndpmnnaaGreatDoorGwA03
import Derived.Test.YtjepnddndpmnnaaGreatDoorGwA05
import Derived.Test.YtjepnddndpmnnaaGreatDoorShelf
import Derived.WalkSmall
import Derived.Lib.LaidTab
import Derived.Lib.AppendIntMem
import Derived.BigQuiet
import Derived.Deep.QuietTactic
import Derived.Lib.IndexAny
import Derived.Lib.IndexMore
namespace Go.Proofs.YtjepnddndpmnnaaGreatDoor.Nm
open Go.RowKit

theorem ret_bool {a b : Bool} (h : a = b) : Ending.returned (.bool a) = .returned (.bool b) := by rw [h]
theorem ret_int {k : IntKind} {a b : Int} (h : a = b) : Ending.returned (.int k a) = .returned (.int k b) := by rw [h]

theorem digit_any (a : Int) (w : World) :
    Calls Tryz.prog 69 #[.int .i64 a] w fun e w' => e = .returned (.int .i64 (dgI a)) ∧ w = w' := by
  go_enter Tryz.func69, Tryz.ntmps69
  go_wp2
  all_goals go_ret
  all_goals refine ⟨ret_int ?_, rfl⟩
  all_goals unfold dgI
  all_goals repeat' split
  all_goals first | rfl | (exfalso; simp_all; done) | (exfalso; simp_all; omega) 

theorem compl_any (a : Int) (w : World) :
    Calls Tryz.prog 61 #[.int .i64 a] w fun e w' => e = .returned (.bool (compB a)) ∧ w = w' := by
  go_enter Tryz.func61, Tryz.ntmps61
  go_wp2
  all_goals go_ret
  all_goals refine ⟨ret_bool ?_, rfl⟩
  all_goals unfold compB
  all_goals first | (refine (decide_eq_true ?_).symm; simp_all; done) | (refine (decide_eq_false ?_).symm; simp_all; done)

set_option maxHeartbeats 2000000 in
theorem step_any (a b : Int) (w : World) :
    Calls Tryz.prog 60 #[.int .i64 a, .int .u8 b] w fun e w' => e = .returned (.int .i64 (stepI a b)) ∧ w = w' := by
  go_enter Tryz.func60, Tryz.ntmps60
  go_wp2_with (go_at_call 69; refine (digit_any _ _).mono ?_; rintro e w' ⟨rfl, rfl⟩)
  all_goals go_ret
  all_goals refine ⟨ret_int ?_, rfl⟩
  all_goals simp only [beq_iff_eq, beq_eq_false_iff_ne, ne_eq] at *
  all_goals unfold stepI
  all_goals repeat' split
  all_goals first | rfl | omega

theorem stepI_rng (a b : Int) : 0 ≤ stepI a b ∧ stepI a b ≤ 9 := by
  unfold stepI dgI
  repeat' split
  all_goals omega

/-- May: the machine over the whole text; it stops where nothing can follow. -/
theorem may_any (s : ByteArray) (w : World) (hm : s.size ≤ 9223372036854775807) :
    Calls Tryz.prog 53 #[.string s] w fun e w' => e = .returned (.tuple #[.bool (begB s.data.toList), .bool (isB s.data.toList)]) ∧ w = w' := by
  go_enter Tryz.func53, Tryz.ntmps53
  go_wp2
  go_loop [4, 5] (fun a i => ∃ k : Nat, k ≤ s.size ∧ i = .int .i64 k ∧ a = .int .i64 (mst 1 (s.data.toList.take k))) (fun _ i => s.size - (intOf i).toNat)
  case atStart => exact ⟨0, Nat.zero_le _, rfl, rfl⟩
  case round =>
    obtain ⟨k, hk, rfl, rfl⟩ := hrel
    generalize hM : mst 1 (s.data.toList.take k) = M
    have HM := Lib.hid hM
    clear hM
    by_cases hlt : k < s.size
    · by_cases h0 : M = 0
      · have hb : (M != 0) = false := by simp [h0]
        have hfin : mst 1 s.data.toList = 0 := by
          rw [← List.take_append_drop k s.data.toList, mst_append, HM.out, h0, mst_0]
        have HF := Lib.hid hfin
        have H0 := Lib.hid h0
        clear hfin h0
        go_wp2_with (first | (go_at_call 61; refine (compl_any _ _).mono ?_; rintro e w' ⟨rfl, rfl⟩))
        go_ret2
        refine ⟨?_, rfl⟩
        unfold begB isB
        rw [HF.out, H0.out]
        rfl
      · have hb : (M != 0) = true := by simpa using h0
        have hts : mst 1 (s.data.toList.take (k + 1)) = stepI M (s[k].toNat : Int) := by
          rw [List.take_succ_eq_append_getElem (by simpa using hlt), mst_snoc, HM.out]
          rfl
        have HT := Lib.hid hts
        clear hts h0
        go_wp2_with (first | (go_at_call 60; refine (step_any _ _ _).mono ?_; rintro e w' ⟨rfl, rfl⟩))
        go_round
        case rel => exact ⟨k + 1, by omega, by go_num, by rw [HT.out]⟩
        case measure => simp [intOf]; omega
    · have hfin : begB s.data.toList = (M != 0) ∧ isB s.data.toList = compB M := by
        have h1 : mst 1 s.data.toList = M := by rw [← HM.out, List.take_of_length_le (by simp; omega)]
        unfold begB isB
        rw [h1]
        exact ⟨by rw [Bool.eq_iff_iff]; simp, rfl⟩
      have HF := Lib.hid hfin
      clear hfin
      go_wp2_with (first | (go_at_call 61; refine (compl_any _ _).mono ?_; rintro e w' ⟨rfl, rfl⟩))
      all_goals go_ret2
      all_goals refine ⟨?_, rfl⟩
      all_goals rw [HF.out.1, HF.out.2]
      all_goals rfl
end Go.Proofs.YtjepnddndpmnnaaGreatDoor.Nm
namespace Go.Proofs.YtjepnddndpmnnaaGreatDoor.Nm
open Go.RowKit

/-! What the walks lean on in the world: variables of the library. -/
theorem gMax : Tryz.prog.globalNamed "internal/bytealg.MaxLen" = some 0 := by kernel_rfl
theorem gRange : Tryz.prog.globalNamed "strconv.ErrRange" = some 2 := by kernel_rfl
theorem gPow : Tryz.prog.globalNamed "internal/strconv.uint64pow10" = some 5 := by kernel_rfl
set_option linter.unusedSectionVars false
variable [Tab]
structure StdW (w : World) : Prop where
  max : ∃ m, w.cell? ⟨0, 0, none⟩ = some (.int .i64 m)
  range : ∃ ev, w.cell? ⟨2, 0, none⟩ = some ev ∧ (ev = .nilIface ∨ ∃ te pe, ev = .iface te pe)
  pow : Lib.TabIs Tryz.prog w "internal/strconv.uint64pow10" .u64 Tab.zs
theorem StdW.below {w w' : World} (h : StdW w) (hb : Below w.heap.size w w') : StdW w' := by
  obtain ⟨⟨m, hm⟩, ⟨ev, hr, hv⟩, hp⟩ := h
  exact ⟨⟨m, (hb.cell (p := ⟨0, 0, none⟩) (cell_lt hm)).trans hm⟩, ⟨ev, (hb.cell (p := ⟨2, 0, none⟩) (cell_lt hr)).trans hr, hv⟩, Lib.tabBelow_of_tabIs hp w' hb⟩
theorem StdW.drewN {w : World} (h : StdW w) (n : Nat) : StdW (w.drewN n) := h.below (below_drewN (Below.refl _ _) n)

theorem expo_any (s : ByteArray) (w : World) (hw : StdW w) (hs : s.size ≤ 30) (h1 : sgn s.data.toList ≠ []) (h2 : (sgn s.data.toList).all dig = true) :
    Calls Tryz.prog 63 #[.string s] w fun e w' => e = .returned (.int .i64 (clampI (atoiI s.data.toList))) ∧ Below w.heap.size w w' := by
  rcases (atoi_tail _ h1 h2).1 with ha | ⟨v, ha⟩
  · have hv : atoiI s.data.toList = Lib.atoiSat s.data.toList := by unfold atoiI; rw [ha]; rfl
    rw [hv]
    have HA := Lib.hid ha
    clear ha hv
    obtain ⟨ev, hr, hev⟩ := hw.range
    go_enter Tryz.func63, Tryz.ntmps63
    go_wp2_with fail
    refine (Tryz.strconv_Atoi_range s (by omega) HA.out ev _ hr hev).mono ?_
    rintro e w1 ⟨N, rfl, _, _, hb⟩
    go_wp2
    go_ret
    exact ⟨rfl, hb⟩
  · have hv : atoiI s.data.toList = v := by unfold atoiI; rw [ha]; rfl
    rw [hv]
    have HA := Lib.hid ha
    clear ha hv
    go_enter Tryz.func63, Tryz.ntmps63
    go_wp2_with fail
    refine (Tryz.strconv_Atoi_ok s (by omega) v HA.out _).mono ?_
    rintro e w1 ⟨rfl, hw1⟩
    have hb : Below w.heap.size w w1 := by
      rcases hw1 with rfl | ⟨t, rfl⟩
      · exact Below.refl _ _
      · exact Lib.bytesWorld_below _ _ _
    clear hw1
    go_wp2
    go_ret
    exact ⟨rfl, hb⟩

theorem lex_lss (x y : List UInt8) : Op.bytesLess x y = decide (lexC x y < 0) := by
  induction x generalizing y with
  | nil => cases y <;> simp [Op.bytesLess, lexC]
  | cons a x ih =>
    cases y with
    | nil => simp [Op.bytesLess, lexC]
    | cons b y =>
      simp only [Op.bytesLess, lexC]
      by_cases h : a.toNat < b.toNat
      · have : a < b := by rwa [UInt8.lt_iff_toNat_lt]
        simp [h, this]
      · have : ¬ a < b := by rwa [UInt8.lt_iff_toNat_lt]
        by_cases h2 : b.toNat < a.toNat
        · have h3 : (a == b) = false := by rw [beq_eq_false_iff_ne]; intro hc; subst hc; omega
          simp [h, this, h2, h3]
        · have h3 : a = b := UInt8.toNat_inj.1 (by omega)
          subst h3
          simp [ih]
theorem lex_eq (x y : List UInt8) : (x == y) = decide (lexC x y = 0) := by
  by_cases h : x = y
  · subst h; rw [lexC_self]; simp
  · have : lexC x y ≠ 0 := fun hc => h (lexC_zero hc)
    simp [h, this]

/-- A decimal as the program holds it. -/
def decA (v : Val) : Value := .agg #[.int .i64 (sgI v), .string ⟨v.digs.toArray⟩, .int .i64 v.pow]

end Go.Proofs.YtjepnddndpmnnaaGreatDoor.Nm
namespace Go.Proofs.YtjepnddndpmnnaaGreatDoor.Nm
set_option linter.unusedSectionVars false
variable [Tab]

def sgL (l : List UInt8) : List UInt8 := if negL l then [45] else []
theorem sgL_split (l : List UInt8) : l = sgL l ++ unsigned l := by
  cases l with
  | nil => rfl
  | cons b l =>
    unfold sgL unsigned
    by_cases h : b.toNat = 45
    · have hb : b = 45 := UInt8.toNat_inj.1 h
      subst hb
      rfl
    · rw [show negL (b :: l) = false from decide_eq_false h]
      rfl
def PtOf (F pt : List UInt8) : Prop := (pt = [] ∧ F = []) ∨ (pt = 46 :: F ∧ F ≠ [])
def EtOf (T et : List UInt8) : Prop := (et = [] ∧ T = []) ∨ (∃ c, isE c = true ∧ et = c :: T ∧ sgn T ≠ [] ∧ (sgn T).all dig = true)
structure ShapeOf (p : Parts) (u pt et : List UInt8) : Prop where
  ne : p.whole ≠ []
  whole : p.whole.all dig = true
  part : p.part.all dig = true
  hpt : PtOf p.part pt
  het : EtOf p.tail et
  eq : u = p.whole ++ pt ++ et
theorem all_tw (l : List UInt8) : (l.takeWhile dig).all dig = true := by
  induction l with
  | nil => rfl
  | cons b l ih =>
    rw [List.takeWhile_cons]
    split
    · rw [List.all_cons, ih]; simp [*]
    · rfl
theorem shape_E (W F x pt : List UInt8) (c : UInt8) (hc : isE c = true) (hW : W ≠ []) (hW2 : W.all dig = true) (hF : F.all dig = true) (hp : PtOf F pt) (h : (partsE W F x).is = true) :
    ShapeOf (partsE W F x) (W ++ pt ++ (c :: x)) pt (c :: x) := by
  unfold partsE at h ⊢
  by_cases k : (sgn x).all dig = true
  · rw [if_pos k] at h ⊢
    exact ⟨hW, hW2, hF, hp, .inr ⟨c, hc, rfl, of_decide_eq_true h, k⟩, rfl⟩
  · rw [if_neg k] at h
    cases h
theorem shape_X (W F r pt : List UInt8) (hW : W ≠ []) (hW2 : W.all dig = true) (hF : F.all dig = true) (hp : PtOf F pt) (h : (partsX W F r).is = true) :
    ShapeOf (partsX W F r) (W ++ pt ++ r) pt r := by
  cases r with
  | nil => cases h
  | cons c x =>
    simp only [partsX] at h ⊢
    by_cases k : isE c = true
    · rw [if_pos k] at h ⊢; exact shape_E W F x pt c k hW hW2 hF hp h
    · rw [if_neg k] at h; cases h
theorem shape_W (W r : List UInt8) (hW2 : W.all dig = true) (hW : W ≠ []) (h : (partsW W r).is = true) : ∃ pt et, ShapeOf (partsW W r) (W ++ r) pt et := by
  cases r with
  | nil => exact ⟨[], [], hW, hW2, rfl, .inl ⟨rfl, rfl⟩, .inl ⟨rfl, rfl⟩, by simp [partsW]⟩
  | cons c r =>
    simp only [partsW] at h ⊢
    by_cases k : c.toNat = 46
    · have hc : c = 46 := UInt8.toNat_inj.1 k
      subst hc
      rw [if_pos k] at h ⊢
      unfold partsF at h ⊢
      have hs := List.takeWhile_append_dropWhile (p := dig) (l := r)
      by_cases k1 : r.dropWhile dig = []
      · rw [if_pos k1] at h ⊢
        rw [k1, List.append_nil] at hs
        have h2 : r.takeWhile dig ≠ [] := of_decide_eq_true h
        exact ⟨46 :: r.takeWhile dig, [], hW, hW2, all_tw r, .inr ⟨rfl, h2⟩, .inl ⟨rfl, rfl⟩, by simp [hs]⟩
      · rw [if_neg k1] at h ⊢
        by_cases k2 : r.takeWhile dig = []
        · rw [if_pos k2] at h; cases h
        · rw [if_neg k2] at h ⊢
          have := shape_X W (r.takeWhile dig) (r.dropWhile dig) (46 :: r.takeWhile dig) hW hW2 (all_tw r) (.inr ⟨rfl, k2⟩) h
          rw [show W ++ 46 :: List.takeWhile dig r ++ List.dropWhile dig r = W ++ 46 :: r from by simp [hs]] at this
          exact ⟨_, _, this⟩
    · rw [if_neg k] at h ⊢
      have := shape_X W [] (c :: r) [] hW hW2 rfl (.inl ⟨rfl, rfl⟩) h
      rw [List.append_nil] at this
      exact ⟨_, _, this⟩
theorem shape_of {l : List UInt8} (h : isB l = true) : ∃ pt et, ShapeOf (parts l) (unsigned l) pt et := by
  rw [← parts_is] at h
  unfold parts at h ⊢
  generalize unsigned l = u at *
  unfold partsU at h ⊢
  split at h
  · cases h
  · rename_i k1
    rw [if_neg k1]
    split at h
    · cases h
    · rename_i k2
      rw [if_neg k2]
      have hs := List.takeWhile_append_dropWhile (p := dig) (l := u)
      by_cases k3 : u.takeWhile dig = []
      · have k4 : u.dropWhile dig = [] := by
          apply Decidable.byContradiction
          intro hc
          exact k1 ⟨hc, k3⟩
        rw [k3, k4] at h
        cases h
      · have := shape_W _ _ (all_tw u) k3 h
        rw [hs] at this
        exact this

theorem dig_range {b : UInt8} (h : dig b = true) : 48 ≤ b.toNat ∧ b.toNat ≤ 57 := (dig_iff b).1 h
theorem isE_iff (b : UInt8) : isE b = true ↔ b.toNat = 101 ∨ b.toNat = 69 := by unfold isE; simp
theorem step_ascii {a : Int} {b : UInt8} (h : stepI a b.toNat ≠ 0) : b.toNat < 128 := by
  apply Decidable.byContradiction
  intro hc
  apply h
  unfold stepI
  repeat' split
  all_goals omega
theorem ascii_of_is {l : List UInt8} (h : isB l = true) : ∀ (j : Nat) b, l[j]? = some b → b.toNat < 128 := by
  have h1 := is_begins h
  unfold begB at h1
  have h2 := of_decide_eq_true h1
  intro j b hb
  have hj : j < l.length := by
    rcases Nat.lt_or_ge j l.length with h' | h'
    · exact h'
    · rw [List.getElem?_eq_none h'] at hb; cases hb
  rw [List.getElem?_eq_getElem hj] at hb
  injection hb with hb
  apply Decidable.byContradiction
  intro hc
  apply h2
  have e : l = l.take j ++ (b :: l.drop (j + 1)) := by
    have := List.take_append_drop j l
    rw [List.drop_eq_getElem_cons hj, hb] at this
    exact this.symm
  rw [e, mst_append, mst]
  have h0 : stepI (mst 1 (l.take j)) b.toNat = 0 := by
    apply Decidable.byContradiction
    intro hk
    exact hc (step_ascii hk)
  rw [h0, mst_0]

/-! Where the e stands, and the point. -/
def noE (l : List UInt8) : Prop := ∀ b ∈ l, isE b = false
theorem contains_e (b : UInt8) : ([101, 69] : List UInt8).contains b = isE b := by
  have e : isE b = decide (b.toNat = 101 ∨ b.toNat = 69) := rfl
  rw [e, Bool.eq_iff_iff]
  simp [← UInt8.toNat_inj]
theorem idx_none (l : List UInt8) (h : noE l) : Lib.indexAny l [101, 69] = -1 := by
  induction l with
  | nil => rfl
  | cons b l ih =>
    rw [Lib.indexAny, contains_e, h b (by simp), ih (fun x hx => h x (by simp [hx]))]
    rfl
theorem idx_hit (l : List UInt8) (c : UInt8) (r : List UInt8) (h : noE l) (hc : isE c = true) : Lib.indexAny (l ++ c :: r) [101, 69] = l.length := by
  induction l with
  | nil => simp only [List.nil_append]; rw [Lib.indexAny, contains_e, hc]; rfl
  | cons b l ih =>
    rw [List.cons_append, Lib.indexAny, contains_e, h b (by simp), ih (fun x hx => h x (by simp [hx]))]
    have : ((l.length : Int) == -1) = false := by rw [beq_eq_false_iff_ne]; omega
    rw [this]
    simp
theorem dig_noE {l : List UInt8} (h : l.all dig = true) : noE l := by
  intro b hb
  have := dig_range (List.all_eq_true.1 h b hb)
  cases he : isE b
  · rfl
  · rw [isE_iff] at he; omega
theorem sgL_noE (l : List UInt8) : noE (sgL l) := by
  unfold sgL
  split
  · intro b hb
    simp at hb
    subst hb
    rfl
  · intro b hb; cases hb
theorem noE_append {a b : List UInt8} (h1 : noE a) (h2 : noE b) : noE (a ++ b) := by
  intro x hx
  rcases List.mem_append.1 hx with h | h
  · exact h1 x h
  · exact h2 x h
theorem pt_noE {F pt : List UInt8} (h : PtOf F pt) (hF : F.all dig = true) : noE pt := by
  rcases h with ⟨rfl, _⟩ | ⟨rfl, _⟩
  · intro b hb; cases hb
  · intro b hb
    rcases List.mem_cons.1 hb with rfl | hb
    · rfl
    · exact dig_noE hF b hb
theorem point_none (l : List UInt8) (h : l.all dig = true) : Lib.index l [46] = -1 := by
  induction l with
  | nil => rfl
  | cons b l ih =>
    rw [List.all_cons, Bool.and_eq_true] at h
    have := dig_range h.1
    have hp : ([46] : List UInt8).isPrefixOf (b :: l) = false := by
      simp [List.isPrefixOf]
      intro hc; subst hc; simp at this
    rw [Lib.index, hp, ih h.2]
    rfl
theorem point_hit (l r : List UInt8) (h : l.all dig = true) : Lib.index (l ++ 46 :: r) [46] = l.length := by
  induction l with
  | nil => simp only [List.nil_append]; rw [Lib.index]; simp [List.isPrefixOf]
  | cons b l ih =>
    rw [List.all_cons, Bool.and_eq_true] at h
    have := dig_range h.1
    have hp : ([46] : List UInt8).isPrefixOf (b :: (l ++ 46 :: r)) = false := by
      simp [List.isPrefixOf]
      intro hc; subst hc; simp at this
    rw [List.cons_append, Lib.index, hp, ih h.2]
    have : ((l.length : Int) == -1) = false := by rw [beq_eq_false_iff_ne]; omega
    rw [this]
    simp
theorem cut_point {W F pt : List UInt8} (h : W.all dig = true) (hp : PtOf F pt) : (Lib.cut (W ++ pt) [46]).1 = W ∧ (Lib.cut (W ++ pt) [46]).2.1 = F := by
  unfold Lib.cut
  rcases hp with ⟨rfl, rfl⟩ | ⟨rfl, _⟩
  · rw [List.append_nil, point_none W h, if_neg (by omega)]
    exact ⟨rfl, rfl⟩
  · rw [point_hit W F h, if_pos (by omega)]
    refine ⟨?_, ?_⟩
    · simp
    · simp only [List.length_cons, List.length_nil, Int.toNat_natCast]
      rw [List.drop_append]
      simp
/-- What the number is cut into by its first e. -/
structure CutE (l : List UInt8) (H : List UInt8) (pt : List UInt8) : Prop where
  sh : ∃ et, ShapeOf (parts l) (unsigned l) pt et
  head : H = sgL l ++ ((parts l).whole ++ pt)
  neg : negL H = negL l
  uns : unsigned H = (parts l).whole ++ pt
theorem neg_head {l u W : List UInt8} (hW : W ≠ []) (hW2 : W.all dig = true) : negL (sgL l ++ (W ++ u)) = negL l ∧ unsigned (sgL l ++ (W ++ u)) = W ++ u := by
  cases hn : negL l
  · unfold sgL
    rw [hn]
    cases W with
    | nil => exact absurd rfl hW
    | cons b W =>
      rw [List.all_cons, Bool.and_eq_true] at hW2
      have := dig_range hW2.1
      have e : negL (b :: (W ++ u)) = false := decide_eq_false (by omega)
      refine ⟨e, ?_⟩
      unfold unsigned
      simp only [List.nil_append, List.cons_append, Bool.false_eq_true, if_false]
      rw [e]
      rfl
  · unfold sgL
    rw [hn]
    exact ⟨rfl, rfl⟩
theorem cutE {l : List UInt8} (h : isB l = true) :
    (∃ H pt, CutE l H pt ∧ l = H ∧ (parts l).tail = [] ∧ Lib.indexAny l [101, 69] = -1) ∨
    (∃ H pt c, CutE l H pt ∧ l = H ++ c :: (parts l).tail ∧ sgn (parts l).tail ≠ [] ∧ (sgn (parts l).tail).all dig = true ∧ Lib.indexAny l [101, 69] = H.length) := by
  obtain ⟨pt, et, hs⟩ := shape_of h
  have hn := neg_head (l := l) (u := pt) hs.ne hs.whole
  have hc : CutE l (sgL l ++ ((parts l).whole ++ pt)) pt := ⟨⟨et, hs⟩, rfl, hn.1, hn.2⟩
  have hno : noE (sgL l ++ ((parts l).whole ++ pt)) := noE_append (sgL_noE l) (noE_append (dig_noE hs.whole) (pt_noE hs.hpt hs.part))
  have e0 := sgL_split l
  rw [hs.eq] at e0
  rcases hs.het with ⟨rfl, ht⟩ | ⟨c, hce, rfl, h1, h2⟩
  · left
    rw [List.append_nil] at e0
    exact ⟨_, pt, hc, e0, ht, (congrArg (fun x => Lib.indexAny x [101, 69]) e0).trans (idx_none _ hno)⟩
  · right
    rw [← List.append_assoc] at e0
    refine ⟨_, pt, c, hc, e0, h1, h2, ?_⟩
    exact (congrArg (fun x => Lib.indexAny x [101, 69]) e0).trans (idx_hit _ c _ hno hce)
/-- What the program reckons the exponent to be. -/
def eprog (l : List UInt8) : Int := if (parts l).tail = [] then 0 else clampI (atoiI (parts l).tail)
theorem near_prog {l : List UInt8} (h : isB l = true) : Near (eexp (parts l).tail) (eprog l) := by
  unfold eprog
  rcases cutE h with ⟨_, _, _, _, h1, _⟩ | ⟨_, _, _, _, _, h1, h2, _⟩
  · rw [if_pos h1, h1]; exact .inl (by decide)
  · have : (parts l).tail ≠ [] := fun hc => h1 (by rw [hc]; rfl)
    rw [if_neg this]
    exact near_atoi _ h1 h2
end Go.Proofs.YtjepnddndpmnnaaGreatDoor.Nm

/-
  The reference's Is (hexaplaref05); the walk of AnchorsKeeps.
  What every row of this seat's laws shares: the variables that are listed, a world that holds them, what the walks lean on out of them; (stage 10).
  The walk of AnchorsKeeps.
-/
import Derived.Test.YtkghdieakpipkaaGreatDoorAnU31
import Derived.Test.YtkghdieakpipkaaGreatDoorAnU38
import Derived.Test.YtkghdieakpipkaaGreatDoorRows
import Derived.Test.YtkghdieakpipkaaGreatDoorCards
import Derived.Test.YtkghdieakpipkaaGreatDoorTie
import Derived.Test.YtkghdieakpipkaaGreatDoorAnU16
import Derived.Deep.Slices
import Derived.Deep.Fields
import Derived.ChangeSame
import Derived.SizedLaws
import Derived.ProofKit
import Derived.OpenShut
import Derived.ShutString
import Derived.Deep.DeepHandedRow
import Derived.Lib.LaidTab
import Derived.Lay
import Derived.Stop.LaidErr
import Derived.SevenTiedAt
namespace Go.Proofs.YtkghdieakpipkaaGreatDoor
open Go.RowKit Go.Maps
set_option maxRecDepth 100000
set_option linter.unusedSimpArgs false
set_option linter.unusedVariables false

theorem eis_any (w : World) (v : Value) (xs : List Ev) (hv : ERead w v xs) (hx : ∀ x ∈ xs, x.t.size ≤ 1099511627776 ∧ x.v.size ≤ 1099511627776) (hn : xs.length ≤ 100000) :
    Calls Tryz.prog 13 #[v] w fun e w' => e = .returned (.bool (decide (wholeE xs = 0))) ∧ Below w.heap.size w w' := by
  have h := rwhole_any w v xs hv hx hn
  have h' : Calls Tryz.prog 22 #[v] w fun e w' => e = .returned (.tuple #[.int .i64 (wholeN xs), .int .i64 (wholeE xs)]) ∧ Below w.heap.size w w' := h
  have H := Lib.hid h'
  obtain ⟨A, c, rfl, _⟩ := hv
  clear hx hn h h'
  generalize wholeE xs = E at *
  generalize wholeN xs = N at *
  by_cases h0 : E = 0
  · subst h0
    go_enter Tryz.func13, Tryz.ntmps13
    go_wp2_with fail
    refine H.out.mono ?_
    rintro e w1 ⟨rfl, hb⟩
    have HB := Lib.hid hb
    clear hb H
    go_wp2
    go_ret
    exact ⟨rfl, HB.out⟩
  · have z1 := eq_ibeq h0
    rw [decide_eq_false h0]
    clear h0
    go_enter Tryz.func13, Tryz.ntmps13
    go_wp2_with fail
    refine H.out.mono ?_
    rintro e w1 ⟨rfl, hb⟩
    have HB := Lib.hid hb
    clear hb H
    go_wp2
    go_ret
    exact ⟨rfl, HB.out⟩

theorem esame_self (w : World) (va vb : Value) (xs : List Ev) (ha : ERead w va xs) (hb : ERead w vb xs) :
    Calls Tryz.prog 18 #[va, vb] w fun e w' => e = .returned (.bool true) ∧ Below w.heap.size w w' := by
  have h := esame_any w va vb xs xs ha hb
  rw [decide_eq_true (rfl : xs = xs)] at h
  exact h

/-! One name, one value: pure. -/
def oneA (n : List UInt8) (l : List Ev) (t : Nat) : Am := ⟨[(n, l)], t⟩
theorem open_one {n : List UInt8} (h : openE ⟨[], 0⟩ n = 0) : openM ⟨[], 0⟩ n = oneA n [] 0 := by
  unfold openM
  rw [if_pos h]
  rfl
theorem allOk_take {l : List Ev} (h : allOk [topP] l) {k : Nat} (hk : k < l.length) : allOk [topP] (l.take k) ∧ stepE (runS [topP] (l.take k)) l[k] = 0 := by
  have key : ∀ (a b : List Ev) (x : Ev) (st : List Pt), allOk st (a ++ x :: b) → allOk st a ∧ stepE (runS st a) x = 0 := by
    intro a
    induction a with
    | nil => intro b x st h; exact ⟨trivial, h.1⟩
    | cons y a ih => intro b x st h; exact ⟨⟨h.1, (ih b x _ h.2).1⟩, (ih b x _ h.2).2⟩
  refine key _ (l.drop (k + 1)) _ _ ?_
  rw [← List.drop_eq_getElem_cons hk, List.take_append_drop]
  exact h
theorem take_open {l : List Ev} (h : wholeE l = 0) {k : Nat} (hk : k < l.length) : knownB (l.take k) = false := by
  have h1 := allOk_take (whole_ok h).1 hk
  unfold knownB
  rw [Bool.eq_false_iff]
  intro hd
  rw [done_stop hd (good_run good_start _)] at h1
  exact absurd h1.2 (by decide)
theorem one_step {n : List UInt8} {l : List Ev} (h : wholeE l = 0) {k : Nat} (hk : k < l.length) :
    (stepAE (oneA n (l.take k) 0) l[k] = 12 ∨ stepAE (oneA n (l.take k) 0) l[k] = 0) ∧ (stepAE (oneA n (l.take k) 0) l[k] = 0 → stepAM (oneA n (l.take k) 0) l[k] = oneA n (l.take (k + 1)) 0) := by
  have h1 := allOk_take (whole_ok h).1 hk
  have h2 := take_open h hk
  have ht : takesA (oneA n (l.take k) 0).m l[k] = true := by
    unfold takesA pend oneA
    simp [h2, h1.2]
  constructor
  · unfold stepAE
    rw [if_neg (by rw [ht]; decide)]
    split
    · exact .inl rfl
    · exact .inr rfl
  · intro h0
    unfold stepAM
    rw [if_pos h0]
    unfold oneA pushA
    simp [h2]
theorem one_get {n : List UInt8} {l : List Ev} (h : wholeE l = 0) (t : Nat) :
    (40 < t + l.length → getE (oneA n l t) n = 13 ∧ getL (oneA n l t) n = [] ∧ getM (oneA n l t) n = oneA n l t) ∧
    (t + l.length ≤ 40 → getE (oneA n l t) n = 0 ∧ getL (oneA n l t) n = l ∧ getM (oneA n l t) n = oneA n l (t + l.length)) := by
  have hk : knownB l = true := (whole_ok h).2
  have hl : lookA n (oneA n l t).m = some l := by unfold oneA lookA; simp
  have e : getE (oneA n l t) n = if 40 < t + l.length then 13 else 0 := by
    unfold getE
    rw [hl]
    simp only [hk]
    rfl
  constructor
  · intro hc
    rw [if_pos hc] at e
    have e1 : getL (oneA n l t) n = [] := by unfold getL; rw [if_neg (by rw [e]; decide)]
    exact ⟨e, e1, by unfold getM; rw [if_neg (by rw [e]; decide)]⟩
  · intro hc
    rw [if_neg (by omega)] at e
    have e1 : getL (oneA n l t) n = l := by unfold getL; rw [if_pos e, hl]; rfl
    refine ⟨e, e1, ?_⟩
    unfold getM
    rw [if_pos e, e1]
    rfl
def pickN (c : Int) (n : Int) : Int := if c < 0 then (-(c + 1)) % n else c % n
theorem pickN_range (c : Int) (n : Int) (hn : 0 < n) : 0 ≤ pickN c n ∧ pickN c n < n := by
  unfold pickN
  split
  · exact ⟨Int.emod_nonneg _ (by omega), Int.emod_lt_of_pos _ hn⟩
  · exact ⟨Int.emod_nonneg _ (by omega), Int.emod_lt_of_pos _ hn⟩
theorem pick50_any (c : Int) (w : World) (h0 : -9223372036854775808 ≤ c) (h1 : c ≤ 9223372036854775807) :
    Calls Tryz.prog 16 #[.int .i64 c, .int .i64 50] w fun e w' => e = .returned (.int .i64 (pickN c 50)) ∧ w = w' := by
  unfold pickN
  by_cases hc : c < 0
  · rw [if_pos hc]
    have e1 : IntKind.i64.wrap (-(c + 1)) = -(c + 1) := IntWalk.i64_in _ (by omega)
    have e2 : (0 : Int) ≤ -(c + 1) := by omega
    have e3 : (-(c + 1)).tmod 50 = -(c + 1) % 50 := Int.tmod_eq_emod_of_nonneg e2
    go_enter Tryz.func16, Tryz.ntmps16
    go_wp2
    go_ret
    exact ⟨rfl, rfl⟩
  · rw [if_neg hc]
    have e2 : 0 ≤ c := by omega
    have e3 : c.tmod 50 = c % 50 := Int.tmod_eq_emod_of_nonneg e2
    go_enter Tryz.func16, Tryz.ntmps16
    go_wp2
    go_ret
    exact ⟨rfl, rfl⟩
end Go.Proofs.YtkghdieakpipkaaGreatDoor
namespace Go.Proofs.YtkghdieakpipkaaGreatDoor
open Go.RowKit Go.ChangeShapes Go.WideShapes Go.Deep
set_option maxRecDepth 100000

theorem own : ownKnob Tryz.prog.godebug = none := by kernel_rfl
theorem laidOut : laidOutB Tryz.prog = true := by kernel_rfl
def laidL : List (String × DataW Unit) := Rows.anchorsRoomRow.laid
theorem laidL_eq : laidL = [("math/bits.deBruijn32tab", Rows.laid_math_bits_deBruijn32tab), ("math/bits.deBruijn64tab", Rows.laid_math_bits_deBruijn64tab), ("internal/strconv.uint64pow10", Rows.laid_internal_strconv_uint64pow10), ("unicode/utf8.acceptRanges", Rows.laid_unicode_utf8_acceptRanges), ("strconv.ErrRange", Rows.laid_strconv_ErrRange), ("strconv.ErrSyntax", Rows.laid_strconv_ErrSyntax), ("unicode/utf8.first", Rows.laid_unicode_utf8_first)] := rfl

theorem laid_met (os : Os) (args : Array Value) : laidMetH Tryz.prog laidL ((World.laidAll Tryz.prog os laidL).forCall (fun _ _ => 0) ⟨#[], args, []⟩).memory := by
  rw [MakeChecks.laidMetH_plain _ _ _ (by kernel_rfl)]
  exact laidMet_laidAll _ (by kernel_rfl) (by kernel_rfl)
theorem shapedW (os : Os) (args : Array Value) : ((World.laidAll Tryz.prog os laidL).forCall (fun _ _ => 0) ⟨#[], args, []⟩).Shaped Tryz.prog :=
  World.shaped_of_ZipB (by kernel_rfl) (by kernel_rfl)

theorem pow_data : (Rows.laid_internal_strconv_uint64pow10 : DataW Unit) = Lib.tabData .u64 Lib.pow10Tab := by kernel_rfl
theorem tPow : (Tryz.prog.globals[5]?).map (·.type) = some 194 := by kernel_rfl
theorem tRange : (Tryz.prog.globals[2]?).map (·.type) = some 162 := by kernel_rfl
theorem star : "*" ++ "errors.errorString" = "*errors.errorString" := by decide
theorem row_err (u : TypeId) (h : Tryz.prog.typeName? 3 u = some "*errors.errorString") : u = 197 :=
  typeName_ptr_named (nm := "errors.errorString") (by rw [star]; kernel_rfl) (by kernel_rfl) (by decide) u (by rw [star]; exact h)
theorem std_of {W : World} (hL : laidMetH Tryz.prog laidL W) (hsh : W.ShapedOpen Tryz.prog) : Nm.StdW W := by
  rw [MakeChecks.laidMetH_plain _ _ _ (by kernel_rfl), laidL_eq] at hL
  refine ⟨Tryz.laysM145.s1_3 W hsh, ?_, ?_⟩
  · have h5 := hL.tail.tail.tail.tail
    unfold Rows.laid_strconv_ErrRange at h5
    obtain ⟨a, s, h, _⟩ := laid_sentinel h5 Nm.gRange tRange Tryz.underlying162 row_err Tryz.underlying197 Tryz.underlying199 rfl rfl Tryz.underlying9 (by kernel_rfl) (by kernel_rfl)
    exact ⟨_, _, h⟩
  · have h3 := hL.tail.tail
    rw [pow_data] at h3
    exact Lib.tabIs_of_head Nm.gPow tPow Tryz.underlying194 Tryz.underlying101 (by kernel_rfl) (by kernel_rfl) h3


end Go.Proofs.YtkghdieakpipkaaGreatDoor
namespace Go.Proofs.YtkghdieakpipkaaGreatDoor
open Go.RowKit Go.Maps
set_option maxRecDepth 100000
set_option linter.unusedSimpArgs false
set_option linter.unusedVariables false

set_option maxHeartbeats 8000000 in
theorem walk_AnchorsKeeps (n : ByteArray) (hn : n.size ≤ 140737488355328) (v : Value) (xs : List Ev) (ho : ∀ x ∈ xs, okE x) (hl : xs.length ≤ 4611686018427387904) (hm : ∀ x ∈ xs, x.t.size ≤ 1048576 ∧ x.v.size ≤ 1048576)
    (c : Int) (hc : (Lit.int .i64 c).wf = true) (w : World) (hw : Nm.StdW w) (hv : ERead w v xs) :
    Calls Tryz.prog 4 #[.string n, v, .int .i64 c] w fun e w' => e = .returned (.bool true) ∧ Below w.heap.size w w' := by
  have hv' := hv
  obtain ⟨A, cc, rfl, hlc, hcc, _⟩ := hv'
  have hcc2 : cc ≤ 9223372036854775807 := by simpa [maxLen] using hcc
  have hw' : SWB w.heap.size w := SWB.of hw
  have HN := Lib.hid (new_is w.heap.size w (Nat.le_refl _) hw')
  have HLv := Lib.hid (fun (w' : World) (hb : w.heap.size ≤ w'.heap.size) (h : SWB w.heap.size w') => lives10_any w.heap.size w' hb h)
  have hc' : -9223372036854775808 ≤ c ∧ c ≤ 9223372036854775807 := by
    simp [Lit.wf, IntKind.min, IntKind.max, IntKind.signed, IntKind.bits] at hc
    omega
  have HP := Lib.hid (fun (w' : World) => pick50_any c w' hc'.1 hc'.2)
  have HC := Lib.hid (pickN_range c 50 (by decide))
  have HV : Hid (∃ ys, ERead w (.slice A (min xs.length 60) cc) ys ∧ (∀ x ∈ ys, okE x) ∧ (∀ x ∈ ys, x.t.size ≤ 1048576 ∧ x.v.size ≤ 1048576) ∧ ys.length = min xs.length 60) := by
    by_cases h60 : xs.length ≤ 60
    · refine Lib.hid ⟨xs, ?_, ho, hm, ?_⟩
      · rw [Nat.min_eq_left h60]; exact hv
      · omega
    · refine Lib.hid ⟨xs.take 60, ?_, fun x hx => ho x (List.mem_of_mem_take hx), fun x hx => hm x (List.mem_of_mem_take hx), ?_⟩
      · rw [Nat.min_eq_right (by omega)]; exact hv.take (by omega)
      · rw [List.length_take]; omega
  clear hw hw' hv ho hm hc hc' hcc
  obtain ⟨L0, hL0⟩ : ∃ L0, xs.length = L0 := ⟨_, rfl⟩
  rw [hL0] at HV hl hlc ⊢
  clear hL0
  generalize pickN c 50 = C at *
  go_enter Tryz.func4, Tryz.ntmps4
  go_wp2_with fail
  refine HN.out.mono ?_
  rintro e w1 ⟨a, rfl, hb1, S1, hA1, _⟩
  have HA1 := Lib.hid (And.intro hA1 hb1)
  clear hA1 hb1 HN
  by_cases h60 : 60 < L0
  case' pos =>
    have e60 : min L0 60 = 60 := by omega
    rw [e60] at HV
    clear e60
    have h60i : (60 : Int) ≤ cc := by omega
    go_wp2_with fail
    have hLc : 60 ≤ cc := by omega
    generalize hL : (60 : Nat) = L at HV hLc ⊢
    have hL60 : L ≤ 60 := by omega
    clear h60i hL h60 hlc
  case' neg =>
    have e60 : min L0 60 = L0 := by omega
    rw [e60] at HV
    clear e60
    go_wp2_with fail
    have hL60 : L0 ≤ 60 := by omega
    have hLc := hlc
    clear h60 hlc hl
    generalize L0 = L at *
  all_goals
    obtain ⟨ys, hv, ho, hm, hLy⟩ := HV.out
    subst hLy
    have hI := eis_any w1 _ ys (hv.below HA1.out.2) (fun x hx => ⟨by have := (hm x hx).1; omega, by have := (hm x hx).2; omega⟩) (by omega)
    have HI := Lib.hid hI
    have HY := Lib.hid (And.intro hv ho)
    clear hI hv ho hm HV
    refine HI.out.mono ?_
    rintro e w2 ⟨rfl, hb2⟩
    have hA2 := HA1.out.1.below hb2
    have hb2' := HA1.out.2.trans (hb2.mono HA1.out.2.size)
    have HA2 := Lib.hid (And.intro hA2 hb2')
    clear hA2 hb2 hb2' HI HA1
    by_cases hk : wholeE ys = 0
    case neg =>
      rw [decide_eq_false hk]
      have hfin := HLv.out w2 HA2.out.2.size HA2.out.1.std
      have Hfin := Lib.hid hfin
      clear hk hfin
      go_wp2_with fail
      refine Hfin.out.mono ?_
      rintro e w3 ⟨rfl, hb3⟩
      have HB := Lib.hid (HA2.out.2.trans (hb3.mono HA2.out.2.size))
      clear hb3 Hfin
      go_wp2
      go_ret
      exact ⟨rfl, HB.out⟩
    case pos =>
      rw [decide_eq_true hk]
      have HK := Lib.hid hk
      clear hk
      have HO := Lib.hid (open_is HA2.out.1 n hn)
      obtain ⟨E, hE⟩ : ∃ E, openE ⟨[], 0⟩ n.data.toList = E := ⟨_, rfl⟩
      have HE := Lib.hid hE
      rw [hE] at HO
      clear hE
      by_cases h0 : E = 0
      case neg =>
        have z1 := eq_ibne h0
        clear h0
        go_wp2_with fail
        refine HO.out.mono ?_
        rintro e w3 ⟨rfl, S3, hA3, _, hb3, _⟩
        have hb3' := HA2.out.2.trans hb3
        have Hfin := Lib.hid (HLv.out w3 hb3'.size hA3.std)
        have HB3 := Lib.hid hb3'
        clear hA3 hb3 hb3' HO
        go_wp2_with fail
        refine Hfin.out.mono ?_
        rintro e w4 ⟨rfl, hb4⟩
        have HB := Lib.hid (HB3.out.trans (hb4.mono HB3.out.size))
        clear hb4 Hfin
        go_wp2
        go_ret
        exact ⟨rfl, HB.out⟩
      case pos =>
        subst h0
        go_wp2_with fail
        refine HO.out.mono ?_
        rintro e w3 ⟨rfl, S3, hA3, _, hb3, _⟩
        rw [open_one HE.out] at hA3
        have start : Hid (∃ S, AIs w.heap.size w3 S a (oneA n.data.toList (ys.take 0) 0) ∧ Below w.heap.size w w3) := Lib.hid ⟨S3, hA3, HA2.out.2.trans hb3⟩
        clear hA3 hb3 HO HE
        go_wp2
        go_loopw [9] (fun u wr => ∃ k : Nat, k ≤ ys.length ∧ u = .int .i64 (k : Int) ∧ Hid (∃ S, AIs w.heap.size wr S a (oneA n.data.toList (ys.take k) 0) ∧ Below w.heap.size w wr)) (fun u _ => ys.length - (intOf u).toNat)
        case atStart => exact ⟨0, Nat.zero_le _, rfl, start⟩
        case round =>
          obtain ⟨k, hk, rfl, HA⟩ := hrel
          clear start
          obtain ⟨S4, hA4, hb4⟩ := HA.out
          by_cases hlt : k < ys.length
          case pos =>
            have hvk := HY.out.1.below hb4
            obtain ⟨A', c', hv, _, _, hr⟩ := hvk
            injection hv with e1 _ e3
            subst e1 e3
            obtain ⟨bb, oo, rfl, hcl⟩ := hr (by omega)
            obtain ⟨g1, g2, g3⟩ := hcl k hlt
            have h1 := one_step (n := n.data.toList) HK.out hlt
            have HS := Lib.hid (step_is hA4 ys[k] (HY.out.2 _ (List.getElem_mem hlt)))
            have hlti : (k : Int) < ys.length := by omega
            have HB4 := Lib.hid hb4
            have hs0 : Hid (stepAE (oneA n.data.toList (ys.take k) 0) ys[k] = 0 → stepAM (oneA n.data.toList (ys.take k) 0) ys[k] = oneA n.data.toList (ys.take (k + 1)) 0) := Lib.hid h1.2
            obtain ⟨E, hE⟩ : ∃ E, stepAE (oneA n.data.toList (ys.take k) 0) ys[k] = E := ⟨_, rfl⟩
            rw [hE] at HS h1 hs0
            clear hr hcl hA4 hb4 hE HA
            generalize stepAM (oneA n.data.toList (ys.take k) 0) ys[k] = M at *
            generalize ys[k] = x at *
            rcases h1.1 with rfl | rfl
            · clear h1 hs0
              go_wp2_with fail
              refine HS.out.mono ?_
              rintro e w5 ⟨rfl, S5, hA5, _, hb5, _⟩
              have hb5' := HB4.out.trans hb5
              have HSz := Lib.hid (size_is hA5)
              have hsz : (sizeA M.m : Int) ≤ 200 := by have := hA5.inv.sz; omega
              have hsz2 : sizeA M.m ≤ 200 := hA5.inv.sz
              have Hfin := Lib.hid (HLv.out w5 hb5'.size hA5.std)
              have HB5 := Lib.hid hb5'
              clear hA5 hb5 hb5' HS HB4 g1 g2 g3
              generalize sizeA M.m = z at *
              go_wp2_with (first
                | (go_at_call 9; refine HSz.out.mono ?_; rintro e w6 ⟨rfl, rfl⟩)
                | (go_at_call 12; refine Hfin.out.mono ?_; rintro e w6 ⟨rfl, hb6⟩))
              go_ret
              exact ⟨rfl, HB5.out.trans (hb6.mono HB5.out.size)⟩
            · have hM := hs0.out rfl
              clear h1 hs0
              go_wp2_with fail
              refine HS.out.mono ?_
              rintro e w5 ⟨rfl, S5, hA5, _, hb5, _⟩
              rw [hM] at hA5
              have HA5 : Hid (∃ S, AIs w.heap.size w5 S a (oneA n.data.toList (ys.take (k + 1)) 0) ∧ Below w.heap.size w w5) := Lib.hid ⟨S5, hA5, HB4.out.trans hb5⟩
              clear hA5 hb5 HS HB4 g1 g2 g3 hM
              go_wp2
              go_roundw
              case rel => exact ⟨k + 1, hlt, by go_num, HA5⟩
              case measure => first | (simp [intOf]; done) | (simp [intOf]; omega)
          case neg =>
            have hke : k = ys.length := by omega
            subst hke
            rw [List.take_of_length_le (Nat.le_refl _)] at hA4
            have start : Hid (∃ S, AIs w.heap.size wr S a (oneA n.data.toList ys 0) ∧ Below w.heap.size w wr) := Lib.hid ⟨_, hA4, hb4⟩
            clear hA4 hb4 HA hlt hk
            go_wp2
            go_loopw [11, 12] (fun u11 u12 wr => ∃ k t : Nat, u11 = .int .i64 (t : Int) ∧ u12 = .int .i64 (k : Int) ∧ k ≤ 51 ∧ Hid (∃ S, AIs w.heap.size wr S a (oneA n.data.toList ys t) ∧ Below w.heap.size w wr)) (fun _ u12 _ => 51 - (intOf u12).toNat)
            case atStart => exact ⟨0, 0, rfl, rfl, by omega, start⟩
            case round =>
              obtain ⟨k, t, rfl, rfl, hk, HA⟩ := hrel
              clear start
              obtain ⟨S4, hA4, hb4⟩ := HA.out
              have hC := HC.out
              have ht40 : t ≤ 40 := hA4.inv.told
              by_cases hlt : (k : Int) < 1 + C
              case neg =>
                have Hfin := Lib.hid (HLv.out wr hb4.size hA4.std)
                have HB4 := Lib.hid hb4
                clear hA4 hb4 HA
                go_wp2_with (first
                  | (go_at_call 16; refine (HP.out _).mono ?_; rintro e w6 ⟨rfl, rfl⟩)
                  | (go_at_call 12; refine Hfin.out.mono ?_; rintro e w6 ⟨rfl, hb6⟩))
                go_ret
                exact ⟨rfl, HB4.out.trans (hb6.mono HB4.out.size)⟩
              case pos =>
                have HG := Lib.hid (get_is hA4 n hn)
                have hg := one_get (n := n.data.toList) HK.out t
                have HB4 := Lib.hid hb4
                clear hA4 hb4 HA
                by_cases hto : 40 < t + ys.length
                · obtain ⟨e1, e2, e3⟩ := hg.1 hto
                  rw [e1, e2, e3] at HG
                  have htoi : (40 : Int) < (t : Int) + ys.length := by omega
                  clear hg e1 e2 e3
                  go_wp2_with (first
                    | (go_at_call 16; refine (HP.out _).mono ?_; rintro e w6 ⟨rfl, rfl⟩)
                    | (go_at_call 17; refine HG.out.mono ?_; rintro e w6 ⟨lv, rfl, hr, hA6, _, hb6⟩
                       obtain ⟨A6, c6, hlv⟩ := hr.shape
                       have hlv' : lv = .slice A6 0 c6 := hlv
                       subst hlv'
                       have HA6 : Hid (∃ S, AIs w.heap.size w6 S a (oneA n.data.toList ys t) ∧ Below w.heap.size w w6) := Lib.hid ⟨_, hA6, HB4.out.trans hb6⟩
                       clear hr hA6 hb6 hlv HG))
                  go_roundw
                  case rel => exact ⟨k + 1, t, rfl, by go_num, by omega, HA6⟩
                  case measure => first | (simp [intOf]; done) | (simp [intOf]; omega)
                · obtain ⟨e1, e2, e3⟩ := hg.2 (by omega)
                  rw [e1, e2, e3] at HG
                  have htoi : (t : Int) + ys.length ≤ 40 := by omega
                  clear hg e1 e2 e3
                  go_wp2_with (first
                    | (go_at_call 16; refine (HP.out _).mono ?_; rintro e w6 ⟨rfl, rfl⟩)
                    | (go_at_call 17; refine HG.out.mono ?_; rintro e w6 ⟨lv, rfl, hr, hA6, _, hb6⟩
                       have hb6' := HB4.out.trans hb6
                       have hTo := told_is hA6
                       have HSm := Lib.hid (esame_self w6 _ _ ys (HY.out.1.below hb6') hr.read)
                       have HA6 := Lib.hid (And.intro hA6 hb6')
                       clear hr hA6 hb6 hb6' HG hTo))
                  refine HSm.out.mono ?_
                  rintro e w7 ⟨rfl, hb7⟩
                  have hA7 := HA6.out.1.below hb7
                  have HTo := Lib.hid (told_is hA7)
                  have HA7 : Hid (∃ S, AIs w.heap.size w7 S a (oneA n.data.toList ys (t + ys.length)) ∧ Below w.heap.size w w7) := Lib.hid ⟨_, hA7, HA6.out.2.trans (hb7.mono HA6.out.2.size)⟩
                  have htt : ((oneA n.data.toList ys (t + ys.length)).told : Int) = (t : Int) + ys.length := by show ((t + ys.length : Nat) : Int) = _; omega
                  rw [htt] at HTo
                  clear hA7 hb7 HSm HA6 htt
                  go_wp2_with (go_at_call 11; refine HTo.out.mono ?_; rintro e w8 ⟨rfl, rfl⟩)
                  go_roundw
                  case rel => exact ⟨k + 1, t + ys.length, by go_num, by go_num, by omega, HA7⟩
                  case measure => first | (simp [intOf]; done) | (simp [intOf]; omega)
end Go.Proofs.YtkghdieakpipkaaGreatDoor

/-
  The walk of AnchorsRoom.
  The walk of AnchorsPlays.
-/
import Derived.Test.YtkghdieakpipkaaGreatDoorAnV39
import Derived.BigQuiet
namespace Go.Proofs.YtkghdieakpipkaaGreatDoor
open Go.RowKit Go.Maps
set_option maxRecDepth 100000
set_option linter.unusedSimpArgs false
set_option linter.unusedVariables false

theorem KRead.at {w : World} {A : Option Addr} {n c : Nat} {xs : List Dk} (h : KRead w (.slice A n c) xs) {k : Nat} (hk : k < xs.length) : ∃ b o : Nat, A = some ⟨b, o, none⟩ ∧ w.cell? ⟨b, o + k * 5, none⟩ = some (.int .i64 xs[k].k) ∧ w.cell? ⟨b, o + k * 5 + 1, none⟩ = some (.string xs[k].nm) ∧
    w.cell? ⟨b, o + k * 5 + 2, none⟩ = some (.int .i64 xs[k].x.k) ∧ w.cell? ⟨b, o + k * 5 + 3, none⟩ = some (.string xs[k].x.t) ∧ w.cell? ⟨b, o + k * 5 + 4, none⟩ = some (.string xs[k].x.v) := by
  obtain ⟨A', c', hv, _, hr⟩ := h
  injection hv with e1 _ _
  obtain ⟨b, o, hA, hc⟩ := hr (by omega)
  have h := hc k hk
  exact ⟨b, o, by rw [e1, hA], h 0 _ rfl, h 1 _ rfl, h 2 _ rfl, h 3 _ rfl, h 4 _ rfl⟩

set_option maxHeartbeats 8000000 in
theorem walk_AnchorsRoom (v : Value) (xs : List Dk) (hx : ∀ d ∈ xs, okK d) (hn : xs.length ≤ 4611686018427387904) (w : World) (hw : Nm.StdW w) (hv : KRead w v xs) :
    Calls Tryz.prog 5 #[v] w fun e w' => e = .returned (.bool true) ∧ Below w.heap.size w w' := by
  have hv' := hv
  obtain ⟨A, c, rfl, hlc, _⟩ := hv'
  obtain ⟨L, hL⟩ : ∃ L, xs.length = L := ⟨_, rfl⟩
  rw [hL] at hv ⊢
  have HK := Lib.hid hv
  have HL := Lib.hid hL
  have HX := Lib.hid hx
  have hn2 : L ≤ 4611686018427387904 := by omega
  have hw' : SWB w.heap.size w := SWB.of hw
  have HN := Lib.hid (new_is w.heap.size w (Nat.le_refl _) hw')
  have HLv := Lib.hid (fun (w' : World) (hb : w.heap.size ≤ w'.heap.size) (h : SWB w.heap.size w') => lives10_any w.heap.size w' hb h)
  clear hv hL hx hn hlc hw hw'
  go_enter Tryz.func5, Tryz.ntmps5
  go_wp2_with fail
  refine HN.out.mono ?_
  rintro e w1 ⟨a, rfl, hb1, S1, hA1, _⟩
  have start : Hid (∃ S, AIs w.heap.size w1 S a live0 ∧ Below w.heap.size w w1) := Lib.hid ⟨S1, hA1, hb1⟩
  clear hb1 hA1 HN
  go_wp2
  go_loopw [4, 5, 6] (fun u4 u5 u6 wr => ∃ (k : Nat) (s : Am), k ≤ L ∧ u4 = .int .i64 (sizeA s.m : Int) ∧ u5 = .int .i64 (s.told : Int) ∧ u6 = .int .i64 (k : Int) ∧ Hid (∃ S, AIs w.heap.size wr S a s ∧ Below w.heap.size w wr)) (fun _ _ u6 _ => L - (intOf u6).toNat)
  case atStart => exact ⟨0, live0, Nat.zero_le _, rfl, rfl, rfl, start⟩
  case round =>
    obtain ⟨k, s, hk, rfl, rfl, rfl, HA⟩ := hrel
    obtain ⟨S, hA, hb⟩ := HA.out
    have hfin : Hid (Calls Tryz.prog 12 #[] wr fun e w' => e = .returned (.bool true) ∧ Below wr.heap.size wr w') := Lib.hid (HLv.out wr hA.sz hA.std)
    have hsz200 : sizeA s.m ≤ 200 := hA.inv.sz
    have htold40 : s.told ≤ 40 := hA.inv.told
    by_cases hgo : k < L ∧ k < 300
    case neg =>
      have hB := Lib.hid hb
      clear hA hb HA start
      by_cases hlt : k < L
      case' pos => have h300 : decide ((k : Int) < 300) = false := by rw [decide_eq_false_iff_not]; omega
      all_goals
        clear hgo
        generalize sizeA s.m = zz at *
        go_wp2_with fail
        refine hfin.out.mono ?_
        rintro e w2 ⟨rfl, hb2⟩
        have HB2 := Lib.hid (hB.out.trans (hb2.mono hB.out.size))
        clear hb2 hfin
        go_wp2
        go_ret
        exact ⟨rfl, HB2.out⟩
    case pos =>
      obtain ⟨hlt, h300⟩ := hgo
      have hkl : k < xs.length := by rw [HL.out]; exact hlt
      obtain ⟨b, o, rfl, g0, g1, g2, g3, g4⟩ := HK.out.at hkl
      have hok := HX.out _ (List.getElem_mem hkl)
      have k0 := (hb.cell (cell_lt g0)).trans g0
      have k1 := (hb.cell (cell_lt g1)).trans g1
      have k2 := (hb.cell (cell_lt g2)).trans g2
      have k3 := (hb.cell (cell_lt g3)).trans g3
      have k4 := (hb.cell (cell_lt g4)).trans g4
      clear g0 g1 g2 g3 g4 hfin start HA
      generalize xs[k] = d at *
      clear hkl
      obtain ⟨⟨d1, d2⟩, d3, d4⟩ := hok
      have HD4 := Lib.hid d4
      have HP := Lib.hid (fun (w' : World) => pick3_any d.k w' d1 d2)
      obtain ⟨P, hP⟩ : ∃ P, pick3 d.k = P := ⟨_, rfl⟩
      have hPr := pick3_range d.k
      rw [hP] at HP hPr
      have hbA : Below wr.heap.size wr (wr.alloc (.cells #[.int .i64 d.k, .string d.nm, .int .i64 d.x.k, .string d.x.t, .string d.x.v] 33)) := (Below.refl _ _).alloc (Nat.le_refl _) _
      have hA2 := hA.below hbA
      have hb2 := hb.trans (hbA.mono hb.size)
      have HA2 := Lib.hid (And.intro hA2 hb2)
      clear hA hb hbA hA2 hb2 hP d4
      go_wp2_with fail
      refine (HP.out _).mono ?_
      rintro e w2 ⟨rfl, rfl⟩
      clear HP
      rcases hPr with rfl | rfl | rfl
      · have HO := Lib.hid (open_is HA2.out.1 d.nm d3)
        go_wp2_with fail
        refine HO.out.mono ?_
        rintro e w3 ⟨rfl, S3, hA3, _, hb3, _⟩
        have hup := open_up s d.nm.data.toList
        have HA3 : Hid (∃ S, AIs w.heap.size w3 S a (openM s d.nm.data.toList) ∧ Below w.heap.size w w3) := Lib.hid ⟨_, hA3, HA2.out.2.trans hb3⟩
        have HS := Lib.hid (size_is hA3)
        have HT := Lib.hid (told_is hA3)
        have q1 : sizeA (openM s d.nm.data.toList).m ≤ 200 := hA3.inv.sz
        have q2 : (openM s d.nm.data.toList).told ≤ 40 := hA3.inv.told
        have q3 : sizeA s.m ≤ sizeA (openM s d.nm.data.toList).m := by first | exact hup.1 | (rw [hup.1]; exact Nat.le_refl _)
        have q4 : s.told ≤ (openM s d.nm.data.toList).told := by first | exact hup.2 | (rw [hup.2]; exact Nat.le_refl _)
        clear hA3 hb3 hup HO k0 k1 k2 k3 k4
        generalize openM s d.nm.data.toList = s' at *
        obtain ⟨n1, hn1⟩ : ∃ n1, sizeA s'.m = n1 := ⟨_, rfl⟩
        obtain ⟨t1, ht1⟩ : ∃ t1, s'.told = t1 := ⟨_, rfl⟩
        rw [hn1] at HS q1 q3
        rw [ht1] at HT q2 q4
        have HE := Lib.hid (And.intro hn1 ht1)
        clear hn1 ht1
        generalize sizeA s.m = n0 at *
        generalize s.told = t0 at *
        have z1 : decide ((n1 : Int) < (n0 : Int)) = false := by rw [decide_eq_false_iff_not]; omega
        have z2 : decide ((200 : Int) < (n1 : Int)) = false := by rw [decide_eq_false_iff_not]; omega
        have z3 : decide ((t1 : Int) < (t0 : Int)) = false := by rw [decide_eq_false_iff_not]; omega
        have z4 : decide ((40 : Int) < (t1 : Int)) = false := by rw [decide_eq_false_iff_not]; omega
        have z5 : decide (n1 < n0) = false := by rw [decide_eq_false_iff_not]; omega
        have z6 : decide (t1 < t0) = false := by rw [decide_eq_false_iff_not]; omega
        clear q1 q2 q3 q4 hsz200 htold40
        go_wp2_with (first
          | (go_at_call 9; refine HS.out.mono ?_; rintro e w5 ⟨rfl, rfl⟩)
          | (go_at_call 11; refine HT.out.mono ?_; rintro e w5 ⟨rfl, rfl⟩))
        go_roundw
        case rel => exact ⟨k + 1, s', hlt, by rw [HE.out.1], by rw [HE.out.2], by go_num, HA3⟩
        case measure => first | (simp [intOf]; done) | (simp [intOf]; omega)
      · have HO := Lib.hid (step_is HA2.out.1 d.x HD4.out)
        go_wp2_with fail
        refine HO.out.mono ?_
        rintro e w3 ⟨rfl, S3, hA3, _, hb3, _⟩
        have hup := step_up s d.x
        have HA3 : Hid (∃ S, AIs w.heap.size w3 S a (stepAM s d.x) ∧ Below w.heap.size w w3) := Lib.hid ⟨_, hA3, HA2.out.2.trans hb3⟩
        have HS := Lib.hid (size_is hA3)
        have HT := Lib.hid (told_is hA3)
        have q1 : sizeA (stepAM s d.x).m ≤ 200 := hA3.inv.sz
        have q2 : (stepAM s d.x).told ≤ 40 := hA3.inv.told
        have q3 : sizeA s.m ≤ sizeA (stepAM s d.x).m := by first | exact hup.1 | (rw [hup.1]; exact Nat.le_refl _)
        have q4 : s.told ≤ (stepAM s d.x).told := by first | exact hup.2 | (rw [hup.2]; exact Nat.le_refl _)
        clear hA3 hb3 hup HO k0 k1 k2 k3 k4
        generalize stepAM s d.x = s' at *
        obtain ⟨n1, hn1⟩ : ∃ n1, sizeA s'.m = n1 := ⟨_, rfl⟩
        obtain ⟨t1, ht1⟩ : ∃ t1, s'.told = t1 := ⟨_, rfl⟩
        rw [hn1] at HS q1 q3
        rw [ht1] at HT q2 q4
        have HE := Lib.hid (And.intro hn1 ht1)
        clear hn1 ht1
        generalize sizeA s.m = n0 at *
        generalize s.told = t0 at *
        have z1 : decide ((n1 : Int) < (n0 : Int)) = false := by rw [decide_eq_false_iff_not]; omega
        have z2 : decide ((200 : Int) < (n1 : Int)) = false := by rw [decide_eq_false_iff_not]; omega
        have z3 : decide ((t1 : Int) < (t0 : Int)) = false := by rw [decide_eq_false_iff_not]; omega
        have z4 : decide ((40 : Int) < (t1 : Int)) = false := by rw [decide_eq_false_iff_not]; omega
        have z5 : decide (n1 < n0) = false := by rw [decide_eq_false_iff_not]; omega
        have z6 : decide (t1 < t0) = false := by rw [decide_eq_false_iff_not]; omega
        clear q1 q2 q3 q4 hsz200 htold40
        go_wp2_with (first
          | (go_at_call 9; refine HS.out.mono ?_; rintro e w5 ⟨rfl, rfl⟩)
          | (go_at_call 11; refine HT.out.mono ?_; rintro e w5 ⟨rfl, rfl⟩))
        go_roundw
        case rel => exact ⟨k + 1, s', hlt, by rw [HE.out.1], by rw [HE.out.2], by go_num, HA3⟩
        case measure => first | (simp [intOf]; done) | (simp [intOf]; omega)
      · have HO := Lib.hid (get_is HA2.out.1 d.nm d3)
        go_wp2_with fail
        refine HO.out.mono ?_
        rintro e w3 ⟨lv, rfl, _, hA3, _, hb3⟩
        have hup := get_up s d.nm.data.toList
        have HA3 : Hid (∃ S, AIs w.heap.size w3 S a (getM s d.nm.data.toList) ∧ Below w.heap.size w w3) := Lib.hid ⟨_, hA3, HA2.out.2.trans hb3⟩
        have HS := Lib.hid (size_is hA3)
        have HT := Lib.hid (told_is hA3)
        have q1 : sizeA (getM s d.nm.data.toList).m ≤ 200 := hA3.inv.sz
        have q2 : (getM s d.nm.data.toList).told ≤ 40 := hA3.inv.told
        have q3 : sizeA s.m ≤ sizeA (getM s d.nm.data.toList).m := by first | exact hup.1 | (rw [hup.1]; exact Nat.le_refl _)
        have q4 : s.told ≤ (getM s d.nm.data.toList).told := by first | exact hup.2 | (rw [hup.2]; exact Nat.le_refl _)
        clear hA3 hb3 hup HO k0 k1 k2 k3 k4
        generalize getM s d.nm.data.toList = s' at *
        obtain ⟨n1, hn1⟩ : ∃ n1, sizeA s'.m = n1 := ⟨_, rfl⟩
        obtain ⟨t1, ht1⟩ : ∃ t1, s'.told = t1 := ⟨_, rfl⟩
        rw [hn1] at HS q1 q3
        rw [ht1] at HT q2 q4
        have HE := Lib.hid (And.intro hn1 ht1)
        clear hn1 ht1
        generalize sizeA s.m = n0 at *
        generalize s.told = t0 at *
        have z1 : decide ((n1 : Int) < (n0 : Int)) = false := by rw [decide_eq_false_iff_not]; omega
        have z2 : decide ((200 : Int) < (n1 : Int)) = false := by rw [decide_eq_false_iff_not]; omega
        have z3 : decide ((t1 : Int) < (t0 : Int)) = false := by rw [decide_eq_false_iff_not]; omega
        have z4 : decide ((40 : Int) < (t1 : Int)) = false := by rw [decide_eq_false_iff_not]; omega
        have z5 : decide (n1 < n0) = false := by rw [decide_eq_false_iff_not]; omega
        have z6 : decide (t1 < t0) = false := by rw [decide_eq_false_iff_not]; omega
        clear q1 q2 q3 q4 hsz200 htold40
        go_wp2_with (first
          | (go_at_call 9; refine HS.out.mono ?_; rintro e w5 ⟨rfl, rfl⟩)
          | (go_at_call 11; refine HT.out.mono ?_; rintro e w5 ⟨rfl, rfl⟩))
        go_roundw
        case rel => exact ⟨k + 1, s', hlt, by rw [HE.out.1], by rw [HE.out.2], by go_num, HA3⟩
        case measure => first | (simp [intOf]; done) | (simp [intOf]; omega)
end Go.Proofs.YtkghdieakpipkaaGreatDoor
namespace Go.Proofs.YtkghdieakpipkaaGreatDoor
open Go.RowKit Go.Maps
set_option maxRecDepth 100000
set_option linter.unusedSimpArgs false
set_option linter.unusedVariables false

/-- A deed of few bytes. -/
def upK (d : Dk) : Prop := d.nm.size ≤ 1048576 ∧ d.x.t.size ≤ 1048576 ∧ d.x.v.size ≤ 1048576
/-- A new reference. -/
theorem ref_new (w : World) : RAt (w.alloc (.cells #[.slice none 0 0, .int .i64 0] 28)) (fun k => k = w.heap.size) w.heap.size live0 := by
  have hb := Blk.new w 28 #[.slice none 0 0, .int .i64 0]
  exact ⟨fun k hk => by subst hk; exact hb.lt, _, [], ⟨hb, World.ownsRow_nil _ _ _ _, fun _ h => absurd h List.not_mem_nil⟩, rfl, rfl, fun g hg => (by cases hg), fun _ h => absurd h List.not_mem_nil⟩
theorem both_new {B : Nat} {w : World} {S : Nat → Prop} {a : Nat} (h : AIs B w S a live0) : Both B (w.alloc (.cells #[.slice none 0 0, .int .i64 0] 28)) S (fun k => k = w.heap.size) a w.heap.size live0 :=
  ⟨h.below ((Below.refl _ _).alloc (Nat.le_refl _) _), ref_new w, fun k hk he => by have := h.lies.lt k hk; omega, fun k hk => by have := h.sz; omega⟩
theorem RAt.told {w : World} {T : Nat → Prop} {r : Nat} {s : Am} (h : RAt w T r s) : w.cell? ⟨r, 1, none⟩ = some (.int .i64 (s.told : Int)) := by
  obtain ⟨_, kv, K, hR, _⟩ := h
  exact hR.blk.cell 1
theorem rsize_is {w : World} {T : Nat → Prop} {r : Nat} {s : Am} (h : RAt w T r s) (hI : AInv s) : Calls Tryz.prog 10 #[.pointer (some ⟨r, 0, none⟩)] w fun e w' => e = .returned (.int .i64 (sizeA s.m : Int)) ∧ ∃ n, w' = w.drewN n := by
  obtain ⟨_, kv, K, hR, hK, _⟩ := h
  have h1 := rsize_any w r kv K s.told hR (by rw [hK]; have := hI.sz; omega)
  rw [hK] at h1
  exact h1

theorem drewN_two (w : World) (m m' : Nat) : (w.drewN m).drewN m' = w.drewN (m + m') := by
  simp [World.drewN, Nat.add_assoc]
set_option maxHeartbeats 8000000 in
theorem walk_AnchorsPlays (v : Value) (xs : List Dk) (hx : ∀ d ∈ xs, okK d) (hn : xs.length ≤ 4611686018427387904) (hu : ∀ d ∈ xs, upK d) (w : World) (hw : Nm.StdW w) (hv : KRead w v xs) :
    Calls Tryz.prog 3 #[v] w fun e w' => e = .returned (.bool true) ∧ Below w.heap.size w w' := by
  have hv' := hv
  obtain ⟨A, c, rfl, hlc, _⟩ := hv'
  obtain ⟨L, hL⟩ : ∃ L, xs.length = L := ⟨_, rfl⟩
  rw [hL] at hv ⊢
  have HK := Lib.hid hv
  have HL := Lib.hid hL
  have HX := Lib.hid (And.intro hx hu)
  have hn2 : L ≤ 4611686018427387904 := by omega
  have hw' : SWB w.heap.size w := SWB.of hw
  have HN := Lib.hid (new_is w.heap.size w (Nat.le_refl _) hw')
  have HLv := Lib.hid (fun (w' : World) (hb : w.heap.size ≤ w'.heap.size) (h : SWB w.heap.size w') => lives10_any w.heap.size w' hb h)
  clear hv hL hx hn hlc hw hw' hu
  go_enter Tryz.func3, Tryz.ntmps3
  go_wp2_with fail
  refine HN.out.mono ?_
  rintro e w1 ⟨a, rfl, hb1, S1, hA1, _⟩
  have start : Hid (∃ s S T, Both w.heap.size (w1.alloc (.cells #[.slice none 0 0, .int .i64 0] 28)) S T a w1.heap.size s ∧ Below w.heap.size w (w1.alloc (.cells #[.slice none 0 0, .int .i64 0] 28))) := Lib.hid ⟨live0, S1, _, both_new hA1, hb1.alloc hb1.size _⟩
  clear hb1 hA1 HN
  go_wp2
  go_loopw [5] (fun u5 wr => ∃ k : Nat, k ≤ L ∧ u5 = .int .i64 (k : Int) ∧ Hid (∃ s S T, Both w.heap.size wr S T a w1.heap.size s ∧ Below w.heap.size w wr)) (fun u5 _ => L - (intOf u5).toNat)
  case atStart => exact ⟨0, Nat.zero_le _, rfl, start⟩
  case round =>
    obtain ⟨k, hk, rfl, HA⟩ := hrel
    obtain ⟨s, S, T, hA, hb⟩ := HA.out
    clear start
    by_cases hgo : k < L ∧ k < 150
    case neg =>
      have hfin : Hid (Calls Tryz.prog 12 #[] wr fun e w' => e = .returned (.bool true) ∧ Below wr.heap.size wr w') := Lib.hid (HLv.out wr hA.prog.sz hA.prog.std)
      have hB := Lib.hid hb
      clear hA hb HA
      by_cases hlt : k < L
      case' pos => have h300 : decide ((k : Int) < 150) = false := by rw [decide_eq_false_iff_not]; omega
      all_goals
        clear hgo
        go_wp2_with fail
        refine hfin.out.mono ?_
        rintro e w2 ⟨rfl, hb2⟩
        have HB2 := Lib.hid (hB.out.trans (hb2.mono hB.out.size))
        clear hb2 hfin
        go_wp2
        go_ret
        exact ⟨rfl, HB2.out⟩
    case pos =>
      obtain ⟨hlt, h300⟩ := hgo
      have hkl : k < xs.length := by rw [HL.out]; exact hlt
      obtain ⟨b, o, rfl, g0, g1, g2, g3, g4⟩ := HK.out.at hkl
      have hok := HX.out.1 _ (List.getElem_mem hkl)
      have hup := HX.out.2 _ (List.getElem_mem hkl)
      have k0 := (hb.cell (cell_lt g0)).trans g0
      have k1 := (hb.cell (cell_lt g1)).trans g1
      have k2 := (hb.cell (cell_lt g2)).trans g2
      have k3 := (hb.cell (cell_lt g3)).trans g3
      have k4 := (hb.cell (cell_lt g4)).trans g4
      have HD := Lib.hid (does_any _ wr S T a _ s xs[k] hA hok hup.2.1 hup.2.2)
      have HB := Lib.hid hb
      clear g0 g1 g2 g3 g4 HA hA hb hok hup
      generalize xs[k] = d at *
      clear hkl
      go_wp2_with fail
      refine HD.out.mono ?_
      rintro e w2 ⟨rfl, S2, T2, hA2, _, hb2, _⟩
      have HQ := Lib.hid (And.intro hA2 (HB.out.trans hb2))
      have t1 := hA2.ref.told
      clear HD hb2 HB hA2 k0 k1 k2 k3 k4
      generalize deedM s d = s' at *
      obtain ⟨n1, hn1⟩ : ∃ n1, sizeA s'.m = n1 := ⟨_, rfl⟩
      obtain ⟨t0, ht0⟩ : ∃ t0, s'.told = t0 := ⟨_, rfl⟩
      have hN : ∀ m, Below w2.heap.size w2 (w2.drewN m) := fun m => below_drewN (Below.refl _ _) m
      have HS1 : Hid (∀ m, Calls Tryz.prog 9 #[.pointer (some ⟨a, 0, none⟩)] (w2.drewN m) fun e w' => e = .returned (.int .i64 (n1 : Int)) ∧ ∃ m', w' = w2.drewN m') := Lib.hid (fun m => by
        have h5 := size_is (HQ.out.1.prog.below (hN m))
        rw [hn1] at h5
        exact h5.mono fun e w' h => ⟨h.1, m, h.2.symm⟩)
      have HS2 : Hid (∀ m, Calls Tryz.prog 10 #[.pointer (some ⟨w1.heap.size, 0, none⟩)] (w2.drewN m) fun e w' => e = .returned (.int .i64 (n1 : Int)) ∧ ∃ m', w' = w2.drewN m') := Lib.hid (fun m => by
        have h5 := rsize_is (HQ.out.1.ref.below (hN m)) HQ.out.1.prog.inv
        rw [hn1] at h5
        exact h5.mono fun e w' h => ⟨h.1, by obtain ⟨m', hm'⟩ := h.2; exact ⟨m + m', by rw [hm']; exact drewN_two _ _ _⟩⟩)
      have HS3 : Hid (∀ m, Calls Tryz.prog 11 #[.pointer (some ⟨a, 0, none⟩)] (w2.drewN m) fun e w' => e = .returned (.int .i64 (t0 : Int)) ∧ ∃ m', w' = w2.drewN m') := Lib.hid (fun m => by
        have h5 := told_is (HQ.out.1.prog.below (hN m))
        rw [ht0] at h5
        exact h5.mono fun e w' h => ⟨h.1, m, h.2.symm⟩)
      rw [ht0] at t1
      have HQ2 : Hid (∀ m, ∃ s S T, Both w.heap.size (w2.drewN m) S T a w1.heap.size s ∧ Below w.heap.size w (w2.drewN m)) := Lib.hid (fun m => ⟨_, _, _, HQ.out.1.below (hN m), below_drewN HQ.out.2 m⟩)
      clear hn1 ht0 hN HQ
      go_wp2
      go_quiet (first | exact HS1.out _ | exact HS2.out _ | exact HS3.out _)
      have HQ3 := Lib.hid (HQ2.out nq)
      clear HQ2 HS1 HS2 HS3 t1
      go_wp2
      go_roundw
      case rel => exact ⟨k + 1, hlt, by go_num, HQ3⟩
      case measure => first | (simp [intOf]; done) | (simp [intOf]; omega)
end Go.Proofs.YtkghdieakpipkaaGreatDoor

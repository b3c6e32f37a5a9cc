/-
  The walks of TreeBack, TreeApart, TreeWalks and TreeRound.
-/
import Derived.Test.YtfilonbhcalkoaaGreatDoorTrM26
import Derived.Test.YtfilonbhcalkoaaGreatDoorTrM41
import Derived.Test.YtfilonbhcalkoaaGreatDoorTrM18
namespace Go.Proofs.YtfilonbhcalkoaaGreatDoor
open Go.RowKit Go.Maps
set_option maxRecDepth 100000
set_option linter.unusedSimpArgs false

theorem box_cells {w : World} {g : Nat} {n : Nd} {A : Option Addr} {c : Nat} (h : Blk w g 24 #[.int .i64 n.k, .string n.t, .string n.v, .slice A n.kids.length c]) :
    w.cell? ⟨g, 0, none⟩ = some (.int .i64 n.k) ∧ w.cell? ⟨g, 1, none⟩ = some (.string n.t) ∧ w.cell? ⟨g, 2, none⟩ = some (.string n.v) ∧ w.cell? ⟨g, 3, none⟩ = some (.slice A n.kids.length c) :=
  ⟨h.cell 0, h.cell 1, h.cell 2, h.cell 3⟩
theorem new_node (w : World) (cs : Array Value) : Blk (w.alloc (.cells cs 24)) w.heap.size 24 cs := Blk.new w _ cs
theorem al_node (w : World) (cs : Array Value) : Below w.heap.size w (w.alloc (.cells cs 24)) := (Below.refl _ _).alloc (Nat.le_refl _) _

set_option maxHeartbeats 8000000 in
theorem walk_TreeBack (n : Nd) (A : Option Addr) (c : Nat) (ho : okW 140737488355328 n) (w : World) (hw : Nm.StdW w) (hA : NAt (fun b _ => b < w.heap.size) w n A c) :
    Calls Tryz.prog 6 #[.agg #[.int .i64 n.k, .string n.t, .string n.v, .slice A n.kids.length c]] w fun e w' => e = .returned (.bool true) ∧ Below w.heap.size w w' := by
  have bX := new_node w #[.int .i64 n.k, .string n.t, .string n.v, .slice A n.kids.length c]
  have al1 := al_node w #[.int .i64 n.k, .string n.t, .string n.v, .slice A n.kids.length c]
  have hL := fun w' h => tlives_any w' h
  obtain ⟨W0, hW0⟩ : ∃ W0, w.alloc (.cells #[.int .i64 n.k, .string n.t, .string n.v, .slice A n.kids.length c] 24) = W0 := ⟨_, rfl⟩
  rw [hW0] at bX al1
  have HX := Lib.hid bX
  have HB := Lib.hid al1
  have HA := Lib.hid (NAt.up hA al1)
  obtain ⟨x0, x1, x2, x3⟩ := box_cells bX
  have HF := Lib.hid (few_any n _ A c W0 HA.out)
  have HK := Lib.hid (few_ok ho (by omega))
  clear bX al1 hA
  go_enter Tryz.func6, Tryz.ntmps6
  go_wp2_with fail
  clear hW0
  refine HF.out.mono ?_
  rintro e w1 ⟨rfl, hb1⟩
  generalize decide (0 ≤ fewN n 300 20) = f1 at *
  have HX1 := Lib.hid (HX.out.below hb1 HX.out.lt)
  have HB1 := Lib.hid (HB.out.trans (hb1.mono HB.out.size))
  have HA1 := Lib.hid (NAt.up HA.out hb1)
  have hs1 := HB1.out.size
  clear hb1 HX HB HA HF x0 x1 x2 x3
  cases f1 with
  | false =>
    clear HK
    go_wp2_with fail
    refine (hL _ (hw.below HB1.out)).mono ?_
    rintro e w3 ⟨rfl, hb3⟩
    have HB3 := Lib.hid (HB1.out.trans (hb3.mono hs1))
    clear hb3
    go_wp2
    go_ret
    exact ⟨rfl, HB3.out⟩
  | true =>
    obtain ⟨hok, hsz, hvl⟩ := HK.out rfl
    obtain ⟨x0, x1, x2, x3⟩ := box_cells HX1.out
    have HV := Lib.hid (twalkall_any n A c w1 n.k n.t n.v n.kids.length ⟨rfl, rfl, rfl, rfl⟩ hok hvl HA1.out (hw.below HB1.out))
    have hfl := flat_len n
    clear HK hvl
    go_wp2_with fail
    refine HV.out.mono ?_
    rintro e w2 ⟨lv, rfl, hb2, h0, h1⟩
    have HX2 := Lib.hid (HX1.out.below hb2 HX1.out.lt)
    have HB2 := Lib.hid (HB1.out.trans (hb2.mono hs1))
    have HA2 := Lib.hid (NAt.up HA1.out hb2)
    have hs2 := HB2.out.size
    clear hb2 HX1 HB1 HA1 hs1 HV x0 x1 x2 x3
    by_cases hm : mayN n = 0
    case neg =>
      obtain rfl := h0 hm
      have z1 := ibeq hm
      have z2 := ibne hm
      generalize mayN n = E at *
      clear h0 h1 hm hfl
      go_wp2_with fail
      refine (hL _ (hw.below HB2.out)).mono ?_
      rintro e w3 ⟨rfl, hb3⟩
      have HB3 := Lib.hid (HB2.out.trans (hb3.mono hs2))
      clear hb3
      go_wp2
      go_ret
      exact ⟨rfl, HB3.out⟩
    case pos =>
      have hr := h1 hm
      have hsh := (may_shaped hm).1
      have hwe := may_wholeE hm
      rw [hm]
      clear h0 h1
      obtain ⟨A2, c2, rfl⟩ := ERow.shape hr
      have hrd := ERow.read hr
      have HM := Lib.hid (tmake_any w2 _ (flat n) hrd (flat_okE n hok) (hw.below HB2.out) (by omega))
      clear hr hrd hm
      obtain ⟨Ln, hLn⟩ : ∃ Ln, (flat n).length = Ln := ⟨_, rfl⟩
      rw [hLn] at HM ⊢
      clear hLn hfl
      go_wp2_with fail
      refine HM.out.mono ?_
      rintro e w3 ⟨hb3, hr3⟩
      rcases hr3 with ⟨hb, _⟩ | ⟨m, A3, c3, _, hs3, hf3, _, rfl, hN3⟩
      · exact absurd hwe hb
      obtain rfl : m = n := flat_same hs3 hsh hf3
      have HX3 := HX2.out.below hb3 HX2.out.lt
      have HB3 := Lib.hid (HB2.out.trans (hb3.mono hs2))
      have HA3 := Lib.hid (NAt.up HA2.out hb3)
      have hs3' := HB3.out.size
      have hY := new_node w3 #[.int .i64 m.k, .string m.t, .string m.v, .slice A3 m.kids.length c3]
      have alY := al_node w3 #[.int .i64 m.k, .string m.t, .string m.v, .slice A3 m.kids.length c3]
      have HX4 := HX3.alloc (.cells #[.int .i64 m.k, .string m.t, .string m.v, .slice A3 m.kids.length c3] 24)
      obtain ⟨x0, x1, x2, x3⟩ := box_cells HX4
      obtain ⟨y0, y1, y2, y3⟩ := box_cells hY
      have HS := Lib.hid (rsame_any m m _ _ A A3 c c3 _ (NAt.up HA3.out alY) (NAt.below hN3 alY))
      rw [sameN_refl] at HS
      have HB4 := Lib.hid (HB3.out.trans (alY.mono hs3'))
      have hs4 := HB4.out.size
      obtain ⟨g3, hg3⟩ : ∃ g3, w3.heap.size = g3 := ⟨_, rfl⟩
      rw [hg3] at y0 y1 y2 y3
      clear hb3 HX2 HB2 HA2 HM hs3 hf3 hwe hsh hN3 HX3 hY alY HX4 HA3
      go_wp2_with fail
      refine HS.out.mono ?_
      rintro e w5 ⟨rfl, hb5⟩
      have HB5 := Lib.hid (HB4.out.trans (hb5.mono hs4))
      have hs5 := HB5.out.size
      clear hb5 HS x0 x1 x2 x3 y0 y1 y2 y3
      go_wp2_with fail
      refine (hL _ (hw.below HB5.out)).mono ?_
      rintro e w6 ⟨rfl, hb6⟩
      have HB6 := Lib.hid (HB5.out.trans (hb6.mono hs5))
      clear hb6
      go_wp2
      go_ret
      exact ⟨rfl, HB6.out⟩

set_option maxHeartbeats 8000000 in
theorem walk_TreeWalks (n : Nd) (A : Option Addr) (c : Nat) (ho : okW 1048576 n) (w : World) (hw : Nm.StdW w) (hA : NAt (fun b _ => b < w.heap.size) w n A c) :
    Calls Tryz.prog 3 #[.agg #[.int .i64 n.k, .string n.t, .string n.v, .slice A n.kids.length c]] w fun e w' => e = .returned (.bool true) ∧ Below w.heap.size w w' := by
  have bX := new_node w #[.int .i64 n.k, .string n.t, .string n.v, .slice A n.kids.length c]
  have al1 := al_node w #[.int .i64 n.k, .string n.t, .string n.v, .slice A n.kids.length c]
  have hL := fun w' h => tlives_any w' h
  obtain ⟨W0, hW0⟩ : ∃ W0, w.alloc (.cells #[.int .i64 n.k, .string n.t, .string n.v, .slice A n.kids.length c] 24) = W0 := ⟨_, rfl⟩
  rw [hW0] at bX al1
  have HX := Lib.hid bX
  have HB := Lib.hid al1
  have HA := Lib.hid (NAt.up hA al1)
  obtain ⟨x0, x1, x2, x3⟩ := box_cells bX
  have HF := Lib.hid (few_any n _ A c W0 HA.out)
  have HK := Lib.hid (few_ok ho (by omega))
  clear bX al1 hA
  go_enter Tryz.func3, Tryz.ntmps3
  go_wp2_with fail
  clear hW0
  refine HF.out.mono ?_
  rintro e w1 ⟨rfl, hb1⟩
  generalize decide (0 ≤ fewN n 300 20) = f1 at *
  have HX1 := Lib.hid (HX.out.below hb1 HX.out.lt)
  have HB1 := Lib.hid (HB.out.trans (hb1.mono HB.out.size))
  have HA1 := Lib.hid (NAt.up HA.out hb1)
  have hs1 := HB1.out.size
  clear hb1 HX HB HA HF x0 x1 x2 x3
  cases f1 with
  | false =>
    clear HK
    go_wp2_with fail
    refine (hL _ (hw.below HB1.out)).mono ?_
    rintro e w3 ⟨rfl, hb3⟩
    have HB3 := Lib.hid (HB1.out.trans (hb3.mono hs1))
    clear hb3
    go_wp2
    go_ret
    exact ⟨rfl, HB3.out⟩
  | true =>
    obtain ⟨hok, hsz, hvl⟩ := HK.out rfl
    obtain ⟨x0, x1, x2, x3⟩ := box_cells HX1.out
    have HV := Lib.hid (twalkall_any n A c w1 n.k n.t n.v n.kids.length ⟨rfl, rfl, rfl, rfl⟩ hok hvl HA1.out (hw.below HB1.out))
    have hfl := flat_len n
    clear HK hvl
    have hsm := small_of n ho
    go_wp2_with fail
    refine HV.out.mono ?_
    rintro e w2 ⟨lv, rfl, hb2, h0, h1⟩
    have HX2 := Lib.hid (HX1.out.below hb2 HX1.out.lt)
    have HB2 := Lib.hid (HB1.out.trans (hb2.mono hs1))
    have HA2 := Lib.hid (NAt.up HA1.out hb2)
    have hs2 := HB2.out.size
    clear hb2 HX1 HB1 HA1 hs1 HV x0 x1 x2 x3
    obtain ⟨x0, x1, x2, x3⟩ := box_cells HX2.out
    have HR := Lib.hid (rwalk_any n A c w2 hsm (by omega) HA2.out)
    have hE : ∃ xs, ERead w2 lv xs ∧ ∀ w' lv', (mayN n ≠ 0 → lv' = .slice none 0 0) ∧ (mayN n = 0 → ERow w' w2.heap.size lv' (flat n)) → ERead w' lv' xs := by
      by_cases hm : mayN n = 0
      · exact ⟨flat n, (h1 hm).read, fun w' lv' h => (h.2 hm).read⟩
      · refine ⟨[], ?_, fun w' lv' h => ?_⟩
        · rw [h0 hm]; exact (ERow.nil w2 0).read
        · rw [h.1 hm]; exact (ERow.nil w' 0).read
    obtain ⟨xs, hx1, hx2⟩ := hE
    have HE1 := Lib.hid hx1
    have HE2 := Lib.hid hx2
    have HM := fun w' (h : Below w2.heap.size w2 w') => tmay_any n A c w' n.k n.t n.v n.kids.length ⟨rfl, rfl, rfl, rfl⟩ hok (NAt.up HA2.out h) (hw.below (HB2.out.trans (h.mono hs2)))
    generalize mayN n = E at *
    have HM := Lib.hid HM
    clear h0 h1 hfl hx1 hx2 hsm hok
    go_wp2_with fail
    refine HR.out.mono ?_
    rintro e w3 ⟨lv3, rfl, hb3, h0, h1⟩
    have HE3 := Lib.hid (HE2.out w3 lv3 ⟨h0, h1⟩)
    have HE1' := Lib.hid (HE1.out.below hb3)
    have HX3 := Lib.hid (HX2.out.below hb3 HX2.out.lt)
    have HD3 := Lib.hid hb3
    have hs3 := hb3.size
    have HS := Lib.hid (esame_any w3 lv lv3 xs xs HE1'.out HE3.out)
    rw [decide_eq_true rfl] at HS
    clear h0 h1 hb3 HE1 HE2 HR HX2 x0 x1 x2 x3 HE3 HE1'
    go_wp2_with fail
    refine HS.out.mono ?_
    rintro e w4 ⟨rfl, hb4⟩
    have HX4 := Lib.hid (HX3.out.below hb4 HX3.out.lt)
    have HD4 := Lib.hid (HD3.out.trans (hb4.mono hs3))
    have hs4 := HD4.out.size
    obtain ⟨x0, x1, x2, x3⟩ := box_cells HX4.out
    clear hb4 HX3 HD3 HS hs3
    go_wp2_with fail
    refine (HM.out w4 HD4.out).mono ?_
    rintro e w5 ⟨rfl, hb5⟩
    have HB5 := Lib.hid (HB2.out.trans ((HD4.out.trans (hb5.mono hs4)).mono hs2))
    have hs5 := HB5.out.size
    clear hb5 HX4 HD4 HM hs4 x0 x1 x2 x3 HB2 hs2 HA2
    go_wp2_with fail
    refine (hL _ (hw.below HB5.out)).mono ?_
    rintro e w6 ⟨rfl, hb6⟩
    have HB6 := Lib.hid (HB5.out.trans (hb6.mono hs5))
    clear hb6
    go_wp2
    go_ret
    exact ⟨rfl, HB6.out⟩

set_option maxHeartbeats 8000000 in
theorem walk_TreeRound (v : Value) (xs : List Ev) (hx : ∀ x ∈ xs, okE x) (hn : xs.length ≤ 4611686018427387904) (w : World) (hw : Nm.StdW w) (hv : ERead w v xs) :
    Calls Tryz.prog 5 #[v] w fun e w' => e = .returned (.bool true) ∧ Below w.heap.size w w' := by
  obtain ⟨A, c, rfl, hlc, hcm, _⟩ := id hv
  have hL := fun w' h => tlives_any w' h
  have hcm2 : c ≤ 9223372036854775807 := by simpa [maxLen] using hcm
  by_cases h200 : 200 < xs.length
  case pos =>
    have hz : (xs.take 200).length = 200 := by rw [List.length_take]; omega
    have hv2 : ERead w (.slice A 200 c) (xs.take 200) := hv.take (by omega)
    have HX := Lib.hid (show ∀ x ∈ xs.take 200, okE x from fun x h => hx x (List.mem_of_mem_take h))
    have HM := Lib.hid (tmake_any w _ (xs.take 200) hv2 HX.out hw (by omega))
    have HV := Lib.hid hv2
    have h200i : (200 : Int) < xs.length := by omega
    have hc200 : 200 ≤ c := by omega
    have hzl : (xs.take 200).length ≤ 200 := by omega
    clear hlc h200 hcm hv hv2 hx hz
    go_enter Tryz.func5, Tryz.ntmps5
    go_wp2_with fail
    refine HM.out.mono ?_
    rintro e w1 ⟨hb1, hr1⟩
    have HB1 := Lib.hid hb1
    have hs1 := hb1.size
    have HV1 := Lib.hid (HV.out.below hb1)
    clear hb1 HM HV
    rcases hr1 with ⟨hE, rfl⟩ | ⟨n, A1, c1, _, hsh, hf, hm, rfl, hN⟩
    case inl =>
      have z1 := ibeq hE
      have z2 := ibne hE
      have hm0 : wholeE (xs.take 200) ≠ 0 := hE
      generalize wholeE (xs.take 200) = E at *
      have alY := al_node w1 #[.int .i64 0, .string ⟨#[]⟩, .string ⟨#[]⟩, .slice none 0 0]
      have HB2 := Lib.hid (HB1.out.trans (alY.mono hs1))
      have hs2 := HB2.out.size
      clear hE hm0 alY HV1
      go_wp2_with fail
      refine (hL _ (hw.below HB2.out)).mono ?_
      rintro e w3 ⟨rfl, hb3⟩
      have HB3 := Lib.hid (HB2.out.trans (hb3.mono hs2))
      clear hb3
      go_wp2
      go_ret
      exact ⟨rfl, HB3.out⟩
    case inr =>
      have hY := new_node w1 #[.int .i64 n.k, .string n.t, .string n.v, .slice A1 n.kids.length c1]
      have alY := al_node w1 #[.int .i64 n.k, .string n.t, .string n.v, .slice A1 n.kids.length c1]
      have HB2 := Lib.hid (HB1.out.trans (alY.mono hs1))
      have HV2 := Lib.hid (HV1.out.below alY)
      have hs2 := HB2.out.size
      obtain ⟨y0, y1, y2, y3⟩ := box_cells hY
      have hfz : (visN n).length ≤ 1000000000000 := by rw [vis_flat n hsh, hf]; omega
      have hnx : okT n := okT_flat n (by rw [hf]; exact HX.out) (by rw [hf]; omega)
      have HW := Lib.hid (twalkall_any n A1 c1 _ n.k n.t n.v n.kids.length ⟨rfl, rfl, rfl, rfl⟩ hnx hfz (NAt.lt (NAt.below hN alY) |>.weaken (fun _ _ h => h.2)) (hw.below HB2.out))
      have HF := Lib.hid hf
      have HMM := Lib.hid hm
      obtain ⟨g1, hg1⟩ : ∃ g1, w1.heap.size = g1 := ⟨_, rfl⟩
      rw [hg1] at y0 y1 y2 y3
      clear alY hY hN hf hm hfz hnx hsh HV1
      go_wp2_with fail
      refine HW.out.mono ?_
      rintro e w3 ⟨lv, rfl, hb3, _, h1⟩
      have hr := h1 HMM.out
      rw [HF.out] at hr
      rw [HMM.out]
      have HS := Lib.hid (esame_any w3 lv _ _ _ (ERow.read hr) (HV2.out.below hb3))
      rw [decide_eq_true rfl] at HS
      have HB3 := Lib.hid (HB2.out.trans (hb3.mono hs2))
      have hs3 := HB3.out.size
      clear h1 hr hb3 HV2 HF HMM HW y0 y1 y2 y3
      go_wp2_with fail
      refine HS.out.mono ?_
      rintro e w4 ⟨rfl, hb4⟩
      have HB4 := Lib.hid (HB3.out.trans (hb4.mono hs3))
      have hs4 := HB4.out.size
      clear hb4 HS
      go_wp2_with fail
      refine (hL _ (hw.below HB4.out)).mono ?_
      rintro e w5 ⟨rfl, hb5⟩
      have HB5 := Lib.hid (HB4.out.trans (hb5.mono hs4))
      clear hb5
      go_wp2
      go_ret
      exact ⟨rfl, HB5.out⟩
  case neg =>
    have HX := Lib.hid hx
    have HM := Lib.hid (tmake_any w _ xs hv hx hw (by omega))
    have HV := Lib.hid hv
    have h200i : ¬ (200 : Int) < xs.length := by omega
    have hzl : xs.length ≤ 200 := by omega
    clear hlc h200 hcm hv hx
    go_enter Tryz.func5, Tryz.ntmps5
    go_wp2_with fail
    refine HM.out.mono ?_
    rintro e w1 ⟨hb1, hr1⟩
    have HB1 := Lib.hid hb1
    have hs1 := hb1.size
    have HV1 := Lib.hid (HV.out.below hb1)
    clear hb1 HM HV
    rcases hr1 with ⟨hE, rfl⟩ | ⟨n, A1, c1, _, hsh, hf, hm, rfl, hN⟩
    case inl =>
      have z1 := ibeq hE
      have z2 := ibne hE
      have hm0 : wholeE (xs) ≠ 0 := hE
      generalize wholeE (xs) = E at *
      have alY := al_node w1 #[.int .i64 0, .string ⟨#[]⟩, .string ⟨#[]⟩, .slice none 0 0]
      have HB2 := Lib.hid (HB1.out.trans (alY.mono hs1))
      have hs2 := HB2.out.size
      clear hE hm0 alY HV1
      go_wp2_with fail
      refine (hL _ (hw.below HB2.out)).mono ?_
      rintro e w3 ⟨rfl, hb3⟩
      have HB3 := Lib.hid (HB2.out.trans (hb3.mono hs2))
      clear hb3
      go_wp2
      go_ret
      exact ⟨rfl, HB3.out⟩
    case inr =>
      have hY := new_node w1 #[.int .i64 n.k, .string n.t, .string n.v, .slice A1 n.kids.length c1]
      have alY := al_node w1 #[.int .i64 n.k, .string n.t, .string n.v, .slice A1 n.kids.length c1]
      have HB2 := Lib.hid (HB1.out.trans (alY.mono hs1))
      have HV2 := Lib.hid (HV1.out.below alY)
      have hs2 := HB2.out.size
      obtain ⟨y0, y1, y2, y3⟩ := box_cells hY
      have hfz : (visN n).length ≤ 1000000000000 := by rw [vis_flat n hsh, hf]; omega
      have hnx : okT n := okT_flat n (by rw [hf]; exact HX.out) (by rw [hf]; omega)
      have HW := Lib.hid (twalkall_any n A1 c1 _ n.k n.t n.v n.kids.length ⟨rfl, rfl, rfl, rfl⟩ hnx hfz (NAt.lt (NAt.below hN alY) |>.weaken (fun _ _ h => h.2)) (hw.below HB2.out))
      have HF := Lib.hid hf
      have HMM := Lib.hid hm
      obtain ⟨g1, hg1⟩ : ∃ g1, w1.heap.size = g1 := ⟨_, rfl⟩
      rw [hg1] at y0 y1 y2 y3
      clear alY hY hN hf hm hfz hnx hsh HV1
      go_wp2_with fail
      refine HW.out.mono ?_
      rintro e w3 ⟨lv, rfl, hb3, _, h1⟩
      have hr := h1 HMM.out
      rw [HF.out] at hr
      rw [HMM.out]
      have HS := Lib.hid (esame_any w3 lv _ _ _ (ERow.read hr) (HV2.out.below hb3))
      rw [decide_eq_true rfl] at HS
      have HB3 := Lib.hid (HB2.out.trans (hb3.mono hs2))
      have hs3 := HB3.out.size
      clear h1 hr hb3 HV2 HF HMM HW y0 y1 y2 y3
      go_wp2_with fail
      refine HS.out.mono ?_
      rintro e w4 ⟨rfl, hb4⟩
      have HB4 := Lib.hid (HB3.out.trans (hb4.mono hs3))
      have hs4 := HB4.out.size
      clear hb4 HS
      go_wp2_with fail
      refine (hL _ (hw.below HB4.out)).mono ?_
      rintro e w5 ⟨rfl, hb5⟩
      have HB5 := Lib.hid (HB4.out.trans (hb5.mono hs4))
      clear hb5
      go_wp2
      go_ret
      exact ⟨rfl, HB5.out⟩

theorem apart_eq (n m : Nd) (hn : shaped n = true) (hm : shaped m = true) : decide (flat n = flat m) = sameN n m := by
  rw [Bool.eq_iff_iff, decide_eq_true_iff, sameN_iff]
  exact ⟨flat_same hn hm, fun h => by rw [h]⟩
set_option maxHeartbeats 8000000 in
theorem walk_TreeApart (n : Nd) (A : Option Addr) (c : Nat) (ho : okW 140737488355328 n) (m : Nd) (A' : Option Addr) (c' : Nat) (ho' : okW 140737488355328 m) (w : World) (hw : Nm.StdW w) (hA : NAt (fun b _ => b < w.heap.size) w n A c) (hA' : NAt (fun b _ => b < w.heap.size) w m A' c') :
    Calls Tryz.prog 10 #[.agg #[.int .i64 n.k, .string n.t, .string n.v, .slice A n.kids.length c], .agg #[.int .i64 m.k, .string m.t, .string m.v, .slice A' m.kids.length c']] w fun e w' => e = .returned (.bool true) ∧ Below w.heap.size w w' := by
  have bX := new_node w #[.int .i64 n.k, .string n.t, .string n.v, .slice A n.kids.length c]
  have al1 := al_node w #[.int .i64 n.k, .string n.t, .string n.v, .slice A n.kids.length c]
  have bX1 := bX.alloc (.cells #[.int .i64 m.k, .string m.t, .string m.v, .slice A' m.kids.length c'] 24)
  have bY1 := new_node (w.alloc (.cells #[.int .i64 n.k, .string n.t, .string n.v, .slice A n.kids.length c] 24)) #[.int .i64 m.k, .string m.t, .string m.v, .slice A' m.kids.length c']
  have al2 := al1.alloc (by simp) (.cells #[.int .i64 m.k, .string m.t, .string m.v, .slice A' m.kids.length c'] 24)
  have hL := fun w' h => tlives_any w' h
  rw [World.size_alloc] at bY1
  obtain ⟨W0, hW0⟩ : ∃ W0, (w.alloc (.cells #[.int .i64 n.k, .string n.t, .string n.v, .slice A n.kids.length c] 24)).alloc (.cells #[.int .i64 m.k, .string m.t, .string m.v, .slice A' m.kids.length c'] 24) = W0 := ⟨_, rfl⟩
  rw [hW0] at bX1 bY1 al2
  have HX := Lib.hid bX1
  have HY := Lib.hid bY1
  have HB := Lib.hid al2
  have HA := Lib.hid (NAt.up hA al2)
  have HA' := Lib.hid (NAt.up hA' al2)
  have hs0 := al2.size
  obtain ⟨x0, x1, x2, x3⟩ := box_cells bX1
  have HF := Lib.hid (few_any n _ A c W0 HA.out)
  have HK := Lib.hid (few_ok ho (by omega))
  have HK' := Lib.hid (few_ok ho' (by omega))
  clear bX al1 bX1 bY1 al2 hA hA'
  go_enter Tryz.func10, Tryz.ntmps10
  go_wp2_with fail
  clear hW0
  refine HF.out.mono ?_
  rintro e w1 ⟨rfl, hb1⟩
  generalize decide (0 ≤ fewN n 300 20) = f1 at *
  have HY1 := Lib.hid (HY.out.below hb1 HY.out.lt)
  obtain ⟨y0, y1, y2, y3⟩ := box_cells HY1.out
  have HX1 := Lib.hid (HX.out.below hb1 HX.out.lt)
  have HB1 := Lib.hid (HB.out.trans (hb1.mono hs0))
  have HA1 := Lib.hid (NAt.up HA.out hb1)
  have HA1' := Lib.hid (NAt.up HA'.out hb1)
  have HF1 := Lib.hid (few_any m _ A' c' w1 HA1'.out)
  clear hb1 HX HY HB HA HA' HF x0 x1 x2 x3 hs0
  go_wp2_with fail
  refine HF1.out.mono ?_
  rintro e w2 ⟨rfl, hb2⟩
  generalize decide (0 ≤ fewN m 300 20) = f2 at *
  have HX2 := Lib.hid (HX1.out.below hb2 HX1.out.lt)
  have HY2 := Lib.hid (HY1.out.below hb2 HY1.out.lt)
  have hs1 := HB1.out.size
  have HB2 := Lib.hid (HB1.out.trans (hb2.mono hs1))
  have HA2 := Lib.hid (NAt.up HA1.out hb2)
  have HA2' := Lib.hid (NAt.up HA1'.out hb2)
  have hs2 := HB2.out.size
  clear hb2 HX1 HY1 HB1 HA1 HA1' HF1 hs1 y0 y1 y2 y3
  by_cases hf : f1 = true ∧ f2 = true
  case neg =>
    have hff : (f1 && f2) = false := by cases f1 <;> cases f2 <;> simp_all
    clear HK HK'
    cases f1 <;> cases f2
    all_goals first | (exact absurd ⟨rfl, rfl⟩ hf) | skip
    all_goals
      clear hff hf
      go_wp2_with fail
      refine (hL _ (hw.below HB2.out)).mono ?_
      rintro e w3 ⟨rfl, hb3⟩
      have HB3 := Lib.hid (HB2.out.trans (hb3.mono hs2))
      clear hb3
      go_wp2
      go_ret
      exact ⟨rfl, HB3.out⟩
  case pos =>
    obtain ⟨rfl, rfl⟩ := hf
    obtain ⟨hok, hsz, hvl⟩ := HK.out rfl
    obtain ⟨hok', hsz', hvl'⟩ := HK'.out rfl
    obtain ⟨x0, x1, x2, x3⟩ := box_cells HX2.out
    have HV := Lib.hid (twalkall_any n A c w2 n.k n.t n.v n.kids.length ⟨rfl, rfl, rfl, rfl⟩ hok hvl HA2.out (hw.below HB2.out))
    clear HK HK' hvl
    go_wp2_with fail
    refine HV.out.mono ?_
    rintro e w3 ⟨lv, rfl, hb3, h0, h1⟩
    have HX3 := Lib.hid (HX2.out.below hb3 HX2.out.lt)
    have HY3 := Lib.hid (HY2.out.below hb3 HY2.out.lt)
    have HB3 := Lib.hid (HB2.out.trans (hb3.mono hs2))
    have HA3 := Lib.hid (NAt.up HA2.out hb3)
    have HA3' := Lib.hid (NAt.up HA2'.out hb3)
    have hs3 := HB3.out.size
    have HV' := Lib.hid (twalkall_any m A' c' w3 m.k m.t m.v m.kids.length ⟨rfl, rfl, rfl, rfl⟩ hok' hvl' HA3'.out (hw.below HB3.out))
    have H1 := Lib.hid h1
    clear HV hb3 h0 h1 HX2 HY2 HB2 HA2 HA2' hs2 x0 x1 x2 x3 hvl'
    obtain ⟨y0, y1, y2, y3⟩ := box_cells HY3.out
    go_wp2_with fail
    refine HV'.out.mono ?_
    rintro e w4 ⟨lv', rfl, hb4, h0, h1⟩
    have H2 := Lib.hid h1
    have HX4 := Lib.hid (HX3.out.below hb4 HX3.out.lt)
    have HY4 := Lib.hid (HY3.out.below hb4 HY3.out.lt)
    have HB4 := Lib.hid (HB3.out.trans (hb4.mono hs3))
    have HA4 := Lib.hid (NAt.up HA3.out hb4)
    have HA4' := Lib.hid (NAt.up HA3'.out hb4)
    have hs4 := HB4.out.size
    have HB34 := Lib.hid hb4
    clear HV' hb4 h0 h1 HX3 HY3 HB3 HA3 HA3' hs3 y0 y1 y2 y3
    by_cases hm : mayN n = 0 ∧ mayN m = 0
    case neg =>
      clear H1 H2 HB34
      have hmm : mayN n ≠ 0 ∨ mayN m ≠ 0 := by
        by_cases h : mayN n = 0
        · exact Or.inr fun h' => hm ⟨h, h'⟩
        · exact Or.inl h
      clear hm
      generalize mayN n = E at *
      generalize mayN m = E' at *
      by_cases hE : E = 0
      case pos =>
        subst hE
        have hE' : E' ≠ 0 := by rcases hmm with h | h; exact absurd rfl h; exact h
        have z1 := ibeq hE'
        have z2 := ibne hE'
        clear hmm hE'
        go_wp2_with fail
        refine (hL _ (hw.below HB4.out)).mono ?_
        rintro e w5 ⟨rfl, hb5⟩
        have HB5 := Lib.hid (HB4.out.trans (hb5.mono hs4))
        clear hb5
        go_wp2
        go_ret
        exact ⟨rfl, HB5.out⟩
      case neg =>
        have z1 := ibeq hE
        have z2 := ibne hE
        clear hmm hE
        go_wp2_with fail
        refine (hL _ (hw.below HB4.out)).mono ?_
        rintro e w5 ⟨rfl, hb5⟩
        have HB5 := Lib.hid (HB4.out.trans (hb5.mono hs4))
        clear hb5
        go_wp2
        go_ret
        exact ⟨rfl, HB5.out⟩
    case pos =>
      obtain ⟨hm1, hm2⟩ := hm
      have HE := Lib.hid (apart_eq n m (may_shaped hm1).1 (may_shaped hm2).1)
      have HR1 := Lib.hid (ERow.read ((H1.out hm1).below HB34.out))
      have HR2 := Lib.hid (ERow.read (H2.out hm2))
      rw [hm1, hm2]
      clear hm1 hm2 H1 H2 HB34 hok hok' hsz hsz'
      have HS := Lib.hid (esame_any w4 lv lv' _ _ HR1.out HR2.out)
      rw [HE.out] at HS
      clear HE HR1 HR2
      go_wp2_with fail
      refine HS.out.mono ?_
      rintro e w5 ⟨rfl, hb5⟩
      have HX5 := Lib.hid (HX4.out.below hb5 HX4.out.lt)
      have HY5 := Lib.hid (HY4.out.below hb5 HY4.out.lt)
      have HB5 := Lib.hid (HB4.out.trans (hb5.mono hs4))
      have hs5 := HB5.out.size
      have HT := Lib.hid (rsame_any n m _ _ A A' c c' w5 (NAt.up HA4.out hb5) (NAt.up HA4'.out hb5))
      generalize sameN n m = sv at *
      obtain ⟨x0, x1, x2, x3⟩ := box_cells HX5.out
      obtain ⟨y0, y1, y2, y3⟩ := box_cells HY5.out
      clear HS hb5 HX4 HY4 HB4 HA4 HA4' hs4
      go_wp2_with fail
      refine HT.out.mono ?_
      rintro e w6 ⟨rfl, hb6⟩
      have HB6 := Lib.hid (HB5.out.trans (hb6.mono hs5))
      have hs6 := HB6.out.size
      have z3 : (sv == sv) = true := by cases sv <;> rfl
      clear HT hb6 x0 x1 x2 x3 y0 y1 y2 y3 HX5 HY5
      go_wp2_with fail
      refine (hL _ (hw.below HB6.out)).mono ?_
      rintro e w7 ⟨rfl, hb7⟩
      have HB7 := Lib.hid (HB6.out.trans (hb7.mono hs6))
      clear hb7
      go_wp2
      go_ret
      exact ⟨rfl, HB7.out⟩

end Go.Proofs.YtfilonbhcalkoaaGreatDoor

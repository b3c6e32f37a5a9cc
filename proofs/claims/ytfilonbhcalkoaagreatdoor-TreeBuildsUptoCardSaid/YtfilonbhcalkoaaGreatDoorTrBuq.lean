/-
  The reference's Build; the walk of TreeBuilds.
-/
import Derived.Test.YtfilonbhcalkoaaGreatDoorTrOnq
import Derived.Test.YtfilonbhcalkoaaGreatDoorTrM39
namespace Go.Proofs.YtfilonbhcalkoaaGreatDoor
open Go.RowKit Go.Maps
set_option maxRecDepth 100000
set_option linter.unusedSimpArgs false

set_option maxHeartbeats 8000000 in
theorem rmake_any (w : World) (v : Value) (l : List Ev) (hv : ERead w v l) (hx : ∀ x ∈ l, x.t.size ≤ 1099511627776 ∧ x.v.size ≤ 1099511627776) (hn : l.length ≤ 90000) :
    Calls Tryz.prog 18 #[v] w (MPost l w) := by
  have hal : Below w.heap.size w (w.alloc (.cells #[.int .i64 0, .string ⟨#[]⟩, .string ⟨#[]⟩, .slice none 0 0] 24)) := (Below.refl _ _).alloc (Nat.le_refl _) _
  have hres := Blk.new w 24 #[.int .i64 0, .string ⟨#[]⟩, .string ⟨#[]⟩, .slice none 0 0]
  obtain ⟨W1, hW1⟩ : ∃ W1, w.alloc (.cells #[.int .i64 0, .string ⟨#[]⟩, .string ⟨#[]⟩, .slice none 0 0] 24) = W1 := ⟨_, rfl⟩
  have hs1 : W1.heap.size = w.heap.size + 1 := by rw [← hW1]; simp
  rw [hW1] at hal hres
  have hwh := rwhole_any W1 v l (hv.below hal) hx (by omega)
  have hE : (wholeGo 0 [topP] l).2 = wholeE l := rfl
  unfold WEnd at hwh
  rw [hE] at hwh
  generalize (wholeGo 0 [topP] l).1 = N at hwh
  clear hE
  have hlow := hv
  obtain ⟨A, c, rfl, _, _, _⟩ := id hv
  have HLOW := Lib.hid hlow
  have HMP : MPost l = MPost l := rfl
  have HD := Lib.hid (fun h => doc_tree (l := l) h)
  generalize hEE : wholeE l = E at *
  have HE := Lib.hid hEE
  clear hlow hEE hv
  have HX := Lib.hid hx
  clear hx HMP
  go_enter Tryz.func18, Tryz.ntmps18
  go_wp2_with fail
  clear hW1
  refine hwh.mono ?_
  rintro e w2 ⟨rfl, hb2⟩
  have hz := hres.below hb2 hres.lt
  have HW2 := Lib.hid (hal.trans (hb2.mono (by omega)))
  have hs2 := hb2.size
  have z0 : w2.frozen? ⟨w.heap.size, 0, none⟩ = false := hz.frozen 0
  have z1 : w2.frozen? ⟨w.heap.size, 1, none⟩ = false := hz.frozen 1
  have z2 : w2.frozen? ⟨w.heap.size, 2, none⟩ = false := hz.frozen 2
  have z3 : w2.frozen? ⟨w.heap.size, 3, none⟩ = false := hz.frozen 3
  have y0 : w2.cell? ⟨w.heap.size, 0, none⟩ = some (.int .i64 0) := hz.cell 0
  have y1 : w2.cell? ⟨w.heap.size, 1, none⟩ = some (.string ⟨#[]⟩) := hz.cell 1
  have y2 : w2.cell? ⟨w.heap.size, 2, none⟩ = some (.string ⟨#[]⟩) := hz.cell 2
  have y3 : w2.cell? ⟨w.heap.size, 3, none⟩ = some (.slice none 0 0) := hz.cell 3
  have zl := hz.lt
  by_cases h0 : E = 0
  case neg =>
    have b1 : (E == 0) = false := ibeq h0
    have b2 : (E != 0) = true := by simp [h0]
    have HZ := Lib.hid hz
    clear hz hres hwh hb2 hal
    go_wp2
    have hz2 := (((HZ.out.set_ 0 (.int .i64 0)).set_ 1 (.string ⟨#[]⟩)).set_ 2 (.string ⟨#[]⟩)).set_ 3 (.slice none 0 0)
    have hh : ∀ i, i ≠ w.heap.size → (((((w2.setCell ⟨w.heap.size, 0, none⟩ (.int .i64 0)).setCell ⟨w.heap.size, 1, none⟩ (.string ⟨#[]⟩)).setCell ⟨w.heap.size, 2, none⟩ (.string ⟨#[]⟩)).setCell ⟨w.heap.size, 3, none⟩ (.slice none 0 0))).heap[i]? = w2.heap[i]? := fun i hi =>
      (Below.heap_setCell _ ⟨w.heap.size, 3, none⟩ _ i hi).trans ((Below.heap_setCell _ ⟨w.heap.size, 2, none⟩ _ i hi).trans ((Below.heap_setCell _ ⟨w.heap.size, 1, none⟩ _ i hi).trans (Below.heap_setCell _ ⟨w.heap.size, 0, none⟩ _ i hi)))
    have hbb : Below w.heap.size w (((((w2.setCell ⟨w.heap.size, 0, none⟩ (.int .i64 0)).setCell ⟨w.heap.size, 1, none⟩ (.string ⟨#[]⟩)).setCell ⟨w.heap.size, 2, none⟩ (.string ⟨#[]⟩)).setCell ⟨w.heap.size, 3, none⟩ (.slice none 0 0))) := ((((HW2.out.setCell (p := ⟨w.heap.size, 0, none⟩) (Nat.le_refl _) _).setCell (p := ⟨w.heap.size, 1, none⟩) (Nat.le_refl _) _).setCell (p := ⟨w.heap.size, 2, none⟩) (Nat.le_refl _) _).setCell (p := ⟨w.heap.size, 3, none⟩) (Nat.le_refl _) _)
    have PO : MPost l w (.returned (.tuple #[.agg #[.int .i64 0, .string ⟨#[]⟩, .string ⟨#[]⟩, .slice none 0 0], .int .i64 E])) (((((w2.setCell ⟨w.heap.size, 0, none⟩ (.int .i64 0)).setCell ⟨w.heap.size, 1, none⟩ (.string ⟨#[]⟩)).setCell ⟨w.heap.size, 2, none⟩ (.string ⟨#[]⟩)).setCell ⟨w.heap.size, 3, none⟩ (.slice none 0 0))) := ⟨hbb, .inl ⟨by rw [HE.out]; exact h0, by rw [HE.out]⟩⟩
    generalize (((((w2.setCell ⟨w.heap.size, 0, none⟩ (.int .i64 0)).setCell ⟨w.heap.size, 1, none⟩ (.string ⟨#[]⟩)).setCell ⟨w.heap.size, 2, none⟩ (.string ⟨#[]⟩)).setCell ⟨w.heap.size, 3, none⟩ (.slice none 0 0))) = WE at *
    have g0 : WE.cell? ⟨w.heap.size, 0, none⟩ = some (.int .i64 0) := hz2.cell 0
    have g1 : WE.cell? ⟨w.heap.size, 1, none⟩ = some (.string ⟨#[]⟩) := hz2.cell 1
    have g2 : WE.cell? ⟨w.heap.size, 2, none⟩ = some (.string ⟨#[]⟩) := hz2.cell 2
    have g3 : WE.cell? ⟨w.heap.size, 3, none⟩ = some (.slice none 0 0) := hz2.cell 3
    refine bodyPost_ret (v := .tuple #[.agg #[.int .i64 0, .string ⟨#[]⟩, .string ⟨#[]⟩, .slice none 0 0], .int .i64 E]) ?_ rfl PO
    simp [results, Tryz.f18, go_sem, g0, g1, g2, g3]
  case pos =>
    subst h0
    obtain ⟨n, hsh, hfl, hmn⟩ := HD.out rfl
    have HLO := HLOW.out.below HW2.out
    have HBU := Lib.hid (rone_any n hsh [] _ w2 (by rw [List.append_nil, hfl]; omega) (by rw [hfl, List.append_nil]; exact HLO))
    obtain ⟨LL, hLL⟩ : ∃ LL, (flat n).length = LL := ⟨_, rfl⟩
    have HZ := Lib.hid hz
    clear HLO hz hres hwh hb2 hal z0 z1 z2 z3 y0 y1 y2 y3
    go_wp2_with fail
    refine HBU.out.mono ?_
    unfold OnePost
    rintro e w3 ⟨A3, c3, rfl, HN, hb3⟩
    rw [hLL]
    clear hLL
    have hz := HZ.out.below hb3 HZ.out.lt
    have zl := hz.lt
    have HN3 := Lib.hid HN
    have hs3 := hb3.size
    have HB3 := Lib.hid hb3
    have z0 : w3.frozen? ⟨w.heap.size, 0, none⟩ = false := hz.frozen 0
    have z1 : w3.frozen? ⟨w.heap.size, 1, none⟩ = false := hz.frozen 1
    have z2 : w3.frozen? ⟨w.heap.size, 2, none⟩ = false := hz.frozen 2
    have z3 : w3.frozen? ⟨w.heap.size, 3, none⟩ = false := hz.frozen 3
    have y0 : w3.cell? ⟨w.heap.size, 0, none⟩ = some (.int .i64 0) := hz.cell 0
    have y1 : w3.cell? ⟨w.heap.size, 1, none⟩ = some (.string ⟨#[]⟩) := hz.cell 1
    have y2 : w3.cell? ⟨w.heap.size, 2, none⟩ = some (.string ⟨#[]⟩) := hz.cell 2
    have y3 : w3.cell? ⟨w.heap.size, 3, none⟩ = some (.slice none 0 0) := hz.cell 3
    have HZ3 := Lib.hid hz
    clear HN hb3 HBU HZ hz
    go_wp2
    have hz2 := (((HZ3.out.set_ 0 (.int .i64 n.k)).set_ 1 (.string n.t)).set_ 2 (.string n.v)).set_ 3 (.slice A3 n.kids.length c3)
    have hh : ∀ i, i ≠ w.heap.size → (((((w3.setCell ⟨w.heap.size, 0, none⟩ (.int .i64 n.k)).setCell ⟨w.heap.size, 1, none⟩ (.string n.t)).setCell ⟨w.heap.size, 2, none⟩ (.string n.v)).setCell ⟨w.heap.size, 3, none⟩ (.slice A3 n.kids.length c3))).heap[i]? = w3.heap[i]? := fun i hi =>
      (Below.heap_setCell _ ⟨w.heap.size, 3, none⟩ _ i hi).trans ((Below.heap_setCell _ ⟨w.heap.size, 2, none⟩ _ i hi).trans ((Below.heap_setCell _ ⟨w.heap.size, 1, none⟩ _ i hi).trans (Below.heap_setCell _ ⟨w.heap.size, 0, none⟩ _ i hi)))
    have hbb : Below w.heap.size w (((((w3.setCell ⟨w.heap.size, 0, none⟩ (.int .i64 n.k)).setCell ⟨w.heap.size, 1, none⟩ (.string n.t)).setCell ⟨w.heap.size, 2, none⟩ (.string n.v)).setCell ⟨w.heap.size, 3, none⟩ (.slice A3 n.kids.length c3))) := (((((HW2.out.trans (HB3.out.mono HW2.out.size)).setCell (p := ⟨w.heap.size, 0, none⟩) (Nat.le_refl _) _).setCell (p := ⟨w.heap.size, 1, none⟩) (Nat.le_refl _) _).setCell (p := ⟨w.heap.size, 2, none⟩) (Nat.le_refl _) _).setCell (p := ⟨w.heap.size, 3, none⟩) (Nat.le_refl _) _)
    have hN4 : NAt (Fresh w.heap.size (((((w3.setCell ⟨w.heap.size, 0, none⟩ (.int .i64 n.k)).setCell ⟨w.heap.size, 1, none⟩ (.string n.t)).setCell ⟨w.heap.size, 2, none⟩ (.string n.v)).setCell ⟨w.heap.size, 3, none⟩ (.slice A3 n.kids.length c3)))) (((((w3.setCell ⟨w.heap.size, 0, none⟩ (.int .i64 n.k)).setCell ⟨w.heap.size, 1, none⟩ (.string n.t)).setCell ⟨w.heap.size, 2, none⟩ (.string n.v)).setCell ⟨w.heap.size, 3, none⟩ (.slice A3 n.kids.length c3))) n A3 c3 := (Fresh.hold HN3.out fun i h1 _ => hh i (by omega)).weaken fun b o hs => ⟨by have := hs.1; omega, hs.2⟩
    have hal3 := hz2.alloc (.cells #[.int .i64 n.k, .string n.t, .string n.v, .slice A3 n.kids.length c3] 24)
    have hN5 := Fresh.below hN4 ((Below.refl _ _).alloc (Nat.le_refl _) (.cells #[.int .i64 n.k, .string n.t, .string n.v, .slice A3 n.kids.length c3] 24))
    have hbb5 := hbb.alloc hbb.size (.cells #[.int .i64 n.k, .string n.t, .string n.v, .slice A3 n.kids.length c3] 24)
    have PO : MPost l w (.returned (.tuple #[.agg #[.int .i64 n.k, .string n.t, .string n.v, .slice A3 n.kids.length c3], .int .i64 0])) ((((((w3.setCell ⟨w.heap.size, 0, none⟩ (.int .i64 n.k)).setCell ⟨w.heap.size, 1, none⟩ (.string n.t)).setCell ⟨w.heap.size, 2, none⟩ (.string n.v)).setCell ⟨w.heap.size, 3, none⟩ (.slice A3 n.kids.length c3))).alloc (.cells #[.int .i64 n.k, .string n.t, .string n.v, .slice A3 n.kids.length c3] 24)) :=
      ⟨hbb5, .inr ⟨n, A3, c3, HE.out, hsh, hfl, hmn, rfl, hN5⟩⟩
    clear hN4 hN5 hbb hbb5 hh hz2
    generalize ((((((w3.setCell ⟨w.heap.size, 0, none⟩ (.int .i64 n.k)).setCell ⟨w.heap.size, 1, none⟩ (.string n.t)).setCell ⟨w.heap.size, 2, none⟩ (.string n.v)).setCell ⟨w.heap.size, 3, none⟩ (.slice A3 n.kids.length c3))).alloc (.cells #[.int .i64 n.k, .string n.t, .string n.v, .slice A3 n.kids.length c3] 24)) = WE at *
    have g0 : WE.cell? ⟨w.heap.size, 0, none⟩ = some (.int .i64 n.k) := hal3.cell 0
    have g1 : WE.cell? ⟨w.heap.size, 1, none⟩ = some (.string n.t) := hal3.cell 1
    have g2 : WE.cell? ⟨w.heap.size, 2, none⟩ = some (.string n.v) := hal3.cell 2
    have g3 : WE.cell? ⟨w.heap.size, 3, none⟩ = some (.slice A3 n.kids.length c3) := hal3.cell 3
    refine bodyPost_ret (v := .tuple #[.agg #[.int .i64 n.k, .string n.t, .string n.v, .slice A3 n.kids.length c3], .int .i64 0]) ?_ rfl PO
    simp [results, Tryz.f18, go_sem, g0, g1, g2, g3]
set_option maxHeartbeats 8000000 in
theorem walk_TreeBuilds (v : Value) (xs : List Ev) (hx : ∀ x ∈ xs, okE x) (hn : xs.length ≤ 4611686018427387904) (hm : ∀ x ∈ xs, x.t.size ≤ 1048576 ∧ x.v.size ≤ 1048576) (w : World) (hw : Nm.StdW w) (hv : ERead w v xs) :
    Calls Tryz.prog 4 #[v] w fun e w' => e = .returned (.bool true) ∧ Below w.heap.size w w' := by
  obtain ⟨A, c, rfl, hlc, hcm, _⟩ := id hv
  have hL := fun w' h => tlives_any w' h
  have hcm2 : c ≤ 9223372036854775807 := by simpa [maxLen] using hcm
  by_cases h200 : 200 < xs.length
  case pos =>
    have hz : (xs.take 200).length = 200 := by rw [List.length_take]; omega
    have hv2 : ERead w (.slice A 200 c) (xs.take 200) := hv.take (by omega)
    have HM := Lib.hid (tmake_any w _ (xs.take 200) hv2 (fun x h => hx x (List.mem_of_mem_take h)) hw (by omega))
    have HR := Lib.hid (fun w' (h : Below w.heap.size w w') => rmake_any w' _ (xs.take 200) (hv2.below h) (fun x h => by have := hm x (List.mem_of_mem_take h); omega) (by omega))
    have h200i : (200 : Int) < xs.length := by omega
    have hc200 : 200 ≤ c := by omega
    generalize xs.take 200 = zs at *
    clear hlc h200 hcm hv hv2 hx hz hm
    go_enter Tryz.func4, Tryz.ntmps4
    go_wp2_with fail
    refine HM.out.mono ?_
    rintro e w1 ⟨hb1, hr1⟩
    have HB1 := Lib.hid hb1
    have hs1 := hb1.size
    clear hb1 HM
    rcases hr1 with ⟨hE, rfl⟩ | ⟨n, A1, c1, hE, hsh, hf, hm1, rfl, hN⟩
    case inl =>
      have hY := new_node w1 #[.int .i64 0, .string ⟨#[]⟩, .string ⟨#[]⟩, .slice none 0 0]
      have alY := al_node w1 #[.int .i64 0, .string ⟨#[]⟩, .string ⟨#[]⟩, .slice none 0 0]
      have HB2 := Lib.hid (HB1.out.trans (alY.mono hs1))
      have hs2 := HB2.out.size
      have HR2 := Lib.hid (HR.out _ HB2.out)
      have HY := Lib.hid hY
      have HE := Lib.hid hE
      clear alY HR hY hE
      go_wp2_with fail
      refine HR2.out.mono ?_
      rintro e w3 ⟨hb3, hr3⟩
      rcases hr3 with ⟨_, rfl⟩ | ⟨_, _, _, h0, _⟩
      case inr => exact absurd h0 HE.out
      have hY3 := HY.out.below hb3 HY.out.lt
      have HB3 := Lib.hid (HB2.out.trans (hb3.mono hs2))
      have hs3 := HB3.out.size
      have hZ := new_node w3 #[.int .i64 0, .string ⟨#[]⟩, .string ⟨#[]⟩, .slice none 0 0]
      have alZ := al_node w3 #[.int .i64 0, .string ⟨#[]⟩, .string ⟨#[]⟩, .slice none 0 0]
      have hY4 := hY3.alloc (.cells #[.int .i64 0, .string ⟨#[]⟩, .string ⟨#[]⟩, .slice none 0 0] 24)
      have y0 := hY4.cell 0
      have y1 := hY4.cell 1
      have y2 := hY4.cell 2
      have y3 := hY4.cell 3
      have z0 := hZ.cell 0
      have z1 := hZ.cell 1
      have z2 := hZ.cell 2
      have z3 := hZ.cell 3
      have HB4 := Lib.hid (HB3.out.trans (alZ.mono hs3))
      have hs4 := HB4.out.size
      have hS := rsame_any dN dN (fun _ _ => True) (fun _ _ => True) none none 0 0 (w3.alloc (.cells #[.int .i64 0, .string ⟨#[]⟩, .string ⟨#[]⟩, .slice none 0 0] 24)) (NAt.leaf _ _ _ _ _ _) (NAt.leaf _ _ _ _ _ _)
      rw [sameN_refl] at hS
      have HS : Hid (Calls Tryz.prog 19 #[.agg #[.int .i64 0, .string ⟨#[]⟩, .string ⟨#[]⟩, .slice none 0 0], .agg #[.int .i64 0, .string ⟨#[]⟩, .string ⟨#[]⟩, .slice none 0 0]] (w3.alloc (.cells #[.int .i64 0, .string ⟨#[]⟩, .string ⟨#[]⟩, .slice none 0 0] 24)) fun e w' => e = .returned (.bool true) ∧ Below (w3.alloc (.cells #[.int .i64 0, .string ⟨#[]⟩, .string ⟨#[]⟩, .slice none 0 0] 24)).heap.size (w3.alloc (.cells #[.int .i64 0, .string ⟨#[]⟩, .string ⟨#[]⟩, .slice none 0 0] 24)) w') := Lib.hid hS
      generalize wholeE zs = E at *
      have zz : (E == E) = true := by simp
      obtain ⟨g1, hg1⟩ : ∃ g1, w1.heap.size = g1 := ⟨_, rfl⟩
      obtain ⟨g3, hg3⟩ : ∃ g3, w3.heap.size = g3 := ⟨_, rfl⟩
      rw [hg1] at y0 y1 y2 y3
      rw [hg3] at z0 z1 z2 z3
      clear hb3 hY3 hZ alZ hY4 hS HR2 HB2 hs2 HY HE HB1 hs1
      go_wp2_with fail
      refine HS.out.mono ?_
      rintro e w5 ⟨rfl, hb5⟩
      have HB5 := Lib.hid (HB4.out.trans (hb5.mono hs4))
      have hs5 := HB5.out.size
      clear hb5 HS y0 y1 y2 y3 z0 z1 z2 z3
      go_wp2_with fail
      refine (hL _ (hw.below HB5.out)).mono ?_
      rintro e w6 ⟨rfl, hb6⟩
      have HB6 := Lib.hid (HB5.out.trans (hb6.mono hs5))
      clear hb6
      go_wp2
      go_ret
      exact ⟨rfl, HB6.out⟩
    case inr =>
      have hY := new_node w1 #[.int .i64 n.k, .string n.t, .string n.v, .slice A1 n.kids.length c1]
      have alY := al_node w1 #[.int .i64 n.k, .string n.t, .string n.v, .slice A1 n.kids.length c1]
      have HB2 := Lib.hid (HB1.out.trans (alY.mono hs1))
      have hs2 := HB2.out.size
      have HR2 := Lib.hid (HR.out _ HB2.out)
      have HY := Lib.hid hY
      have HF := Lib.hid hf
      have HSH := Lib.hid hsh
      have HE := Lib.hid hE
      have HN := Lib.hid ((NAt.below hN alY).lt.weaken (S' := fun b _ => b < (w1.alloc (.cells #[.int .i64 n.k, .string n.t, .string n.v, .slice A1 n.kids.length c1] 24)).heap.size) (fun _ _ h => h.2))
      clear alY HR hY hE hf hsh hm1 hN
      go_wp2_with fail
      refine HR2.out.mono ?_
      rintro e w3 ⟨hb3, hr3⟩
      rcases hr3 with ⟨h0, _⟩ | ⟨m, A3, c3, _, hsh3, hf3, _, rfl, hN3⟩
      case inl => exact absurd HE.out h0
      obtain rfl : m = n := flat_same hsh3 HSH.out (hf3.trans HF.out.symm)
      have hY3 := HY.out.below hb3 HY.out.lt
      have HB3 := Lib.hid (HB2.out.trans (hb3.mono hs2))
      have hs3 := HB3.out.size
      have hZ := new_node w3 #[.int .i64 m.k, .string m.t, .string m.v, .slice A3 m.kids.length c3]
      have alZ := al_node w3 #[.int .i64 m.k, .string m.t, .string m.v, .slice A3 m.kids.length c3]
      have hY4 := hY3.alloc (.cells #[.int .i64 m.k, .string m.t, .string m.v, .slice A3 m.kids.length c3] 24)
      obtain ⟨y0, y1, y2, y3⟩ := box_cells hY4
      obtain ⟨z0, z1, z2, z3⟩ := box_cells hZ
      have HB4 := Lib.hid (HB3.out.trans (alZ.mono hs3))
      have hs4 := HB4.out.size
      have HS := Lib.hid (rsame_any m m _ _ A1 A3 c1 c3 _ (NAt.below (NAt.up HN.out hb3) alZ) (NAt.below hN3 alZ))
      rw [sameN_refl] at HS
      obtain ⟨g1, hg1⟩ : ∃ g1, w1.heap.size = g1 := ⟨_, rfl⟩
      obtain ⟨g3, hg3⟩ : ∃ g3, w3.heap.size = g3 := ⟨_, rfl⟩
      rw [hg1] at y0 y1 y2 y3
      rw [hg3] at z0 z1 z2 z3
      clear hb3 hY3 hZ alZ hY4 HR2 HB2 hs2 HY HE HB1 hs1 hsh3 hf3 HF HSH hN3 HN
      go_wp2_with fail
      refine HS.out.mono ?_
      rintro e w5 ⟨rfl, hb5⟩
      have HB5 := Lib.hid (HB4.out.trans (hb5.mono hs4))
      have hs5 := HB5.out.size
      clear hb5 HS y0 y1 y2 y3 z0 z1 z2 z3
      go_wp2_with fail
      refine (hL _ (hw.below HB5.out)).mono ?_
      rintro e w6 ⟨rfl, hb6⟩
      have HB6 := Lib.hid (HB5.out.trans (hb6.mono hs5))
      clear hb6
      go_wp2
      go_ret
      exact ⟨rfl, HB6.out⟩
  case neg =>
    have HM := Lib.hid (tmake_any w _ xs hv hx hw (by omega))
    have HR := Lib.hid (fun w' (h : Below w.heap.size w w') => rmake_any w' _ xs (hv.below h) (fun x h => by have := hm x h; omega) (by omega))
    have h200i : ¬ (200 : Int) < xs.length := by omega
    clear hlc h200 hcm hv hx hm
    go_enter Tryz.func4, Tryz.ntmps4
    go_wp2_with fail
    refine HM.out.mono ?_
    rintro e w1 ⟨hb1, hr1⟩
    have HB1 := Lib.hid hb1
    have hs1 := hb1.size
    clear hb1 HM
    rcases hr1 with ⟨hE, rfl⟩ | ⟨n, A1, c1, hE, hsh, hf, hm1, rfl, hN⟩
    case inl =>
      have hY := new_node w1 #[.int .i64 0, .string ⟨#[]⟩, .string ⟨#[]⟩, .slice none 0 0]
      have alY := al_node w1 #[.int .i64 0, .string ⟨#[]⟩, .string ⟨#[]⟩, .slice none 0 0]
      have HB2 := Lib.hid (HB1.out.trans (alY.mono hs1))
      have hs2 := HB2.out.size
      have HR2 := Lib.hid (HR.out _ HB2.out)
      have HY := Lib.hid hY
      have HE := Lib.hid hE
      clear alY HR hY hE
      go_wp2_with fail
      refine HR2.out.mono ?_
      rintro e w3 ⟨hb3, hr3⟩
      rcases hr3 with ⟨_, rfl⟩ | ⟨_, _, _, h0, _⟩
      case inr => exact absurd h0 HE.out
      have hY3 := HY.out.below hb3 HY.out.lt
      have HB3 := Lib.hid (HB2.out.trans (hb3.mono hs2))
      have hs3 := HB3.out.size
      have hZ := new_node w3 #[.int .i64 0, .string ⟨#[]⟩, .string ⟨#[]⟩, .slice none 0 0]
      have alZ := al_node w3 #[.int .i64 0, .string ⟨#[]⟩, .string ⟨#[]⟩, .slice none 0 0]
      have hY4 := hY3.alloc (.cells #[.int .i64 0, .string ⟨#[]⟩, .string ⟨#[]⟩, .slice none 0 0] 24)
      have y0 := hY4.cell 0
      have y1 := hY4.cell 1
      have y2 := hY4.cell 2
      have y3 := hY4.cell 3
      have z0 := hZ.cell 0
      have z1 := hZ.cell 1
      have z2 := hZ.cell 2
      have z3 := hZ.cell 3
      have HB4 := Lib.hid (HB3.out.trans (alZ.mono hs3))
      have hs4 := HB4.out.size
      have hS := rsame_any dN dN (fun _ _ => True) (fun _ _ => True) none none 0 0 (w3.alloc (.cells #[.int .i64 0, .string ⟨#[]⟩, .string ⟨#[]⟩, .slice none 0 0] 24)) (NAt.leaf _ _ _ _ _ _) (NAt.leaf _ _ _ _ _ _)
      rw [sameN_refl] at hS
      have HS : Hid (Calls Tryz.prog 19 #[.agg #[.int .i64 0, .string ⟨#[]⟩, .string ⟨#[]⟩, .slice none 0 0], .agg #[.int .i64 0, .string ⟨#[]⟩, .string ⟨#[]⟩, .slice none 0 0]] (w3.alloc (.cells #[.int .i64 0, .string ⟨#[]⟩, .string ⟨#[]⟩, .slice none 0 0] 24)) fun e w' => e = .returned (.bool true) ∧ Below (w3.alloc (.cells #[.int .i64 0, .string ⟨#[]⟩, .string ⟨#[]⟩, .slice none 0 0] 24)).heap.size (w3.alloc (.cells #[.int .i64 0, .string ⟨#[]⟩, .string ⟨#[]⟩, .slice none 0 0] 24)) w') := Lib.hid hS
      generalize wholeE xs = E at *
      have zz : (E == E) = true := by simp
      obtain ⟨g1, hg1⟩ : ∃ g1, w1.heap.size = g1 := ⟨_, rfl⟩
      obtain ⟨g3, hg3⟩ : ∃ g3, w3.heap.size = g3 := ⟨_, rfl⟩
      rw [hg1] at y0 y1 y2 y3
      rw [hg3] at z0 z1 z2 z3
      clear hb3 hY3 hZ alZ hY4 hS HR2 HB2 hs2 HY HE HB1 hs1
      go_wp2_with fail
      refine HS.out.mono ?_
      rintro e w5 ⟨rfl, hb5⟩
      have HB5 := Lib.hid (HB4.out.trans (hb5.mono hs4))
      have hs5 := HB5.out.size
      clear hb5 HS y0 y1 y2 y3 z0 z1 z2 z3
      go_wp2_with fail
      refine (hL _ (hw.below HB5.out)).mono ?_
      rintro e w6 ⟨rfl, hb6⟩
      have HB6 := Lib.hid (HB5.out.trans (hb6.mono hs5))
      clear hb6
      go_wp2
      go_ret
      exact ⟨rfl, HB6.out⟩
    case inr =>
      have hY := new_node w1 #[.int .i64 n.k, .string n.t, .string n.v, .slice A1 n.kids.length c1]
      have alY := al_node w1 #[.int .i64 n.k, .string n.t, .string n.v, .slice A1 n.kids.length c1]
      have HB2 := Lib.hid (HB1.out.trans (alY.mono hs1))
      have hs2 := HB2.out.size
      have HR2 := Lib.hid (HR.out _ HB2.out)
      have HY := Lib.hid hY
      have HF := Lib.hid hf
      have HSH := Lib.hid hsh
      have HE := Lib.hid hE
      have HN := Lib.hid ((NAt.below hN alY).lt.weaken (S' := fun b _ => b < (w1.alloc (.cells #[.int .i64 n.k, .string n.t, .string n.v, .slice A1 n.kids.length c1] 24)).heap.size) (fun _ _ h => h.2))
      clear alY HR hY hE hf hsh hm1 hN
      go_wp2_with fail
      refine HR2.out.mono ?_
      rintro e w3 ⟨hb3, hr3⟩
      rcases hr3 with ⟨h0, _⟩ | ⟨m, A3, c3, _, hsh3, hf3, _, rfl, hN3⟩
      case inl => exact absurd HE.out h0
      obtain rfl : m = n := flat_same hsh3 HSH.out (hf3.trans HF.out.symm)
      have hY3 := HY.out.below hb3 HY.out.lt
      have HB3 := Lib.hid (HB2.out.trans (hb3.mono hs2))
      have hs3 := HB3.out.size
      have hZ := new_node w3 #[.int .i64 m.k, .string m.t, .string m.v, .slice A3 m.kids.length c3]
      have alZ := al_node w3 #[.int .i64 m.k, .string m.t, .string m.v, .slice A3 m.kids.length c3]
      have hY4 := hY3.alloc (.cells #[.int .i64 m.k, .string m.t, .string m.v, .slice A3 m.kids.length c3] 24)
      obtain ⟨y0, y1, y2, y3⟩ := box_cells hY4
      obtain ⟨z0, z1, z2, z3⟩ := box_cells hZ
      have HB4 := Lib.hid (HB3.out.trans (alZ.mono hs3))
      have hs4 := HB4.out.size
      have HS := Lib.hid (rsame_any m m _ _ A1 A3 c1 c3 _ (NAt.below (NAt.up HN.out hb3) alZ) (NAt.below hN3 alZ))
      rw [sameN_refl] at HS
      obtain ⟨g1, hg1⟩ : ∃ g1, w1.heap.size = g1 := ⟨_, rfl⟩
      obtain ⟨g3, hg3⟩ : ∃ g3, w3.heap.size = g3 := ⟨_, rfl⟩
      rw [hg1] at y0 y1 y2 y3
      rw [hg3] at z0 z1 z2 z3
      clear hb3 hY3 hZ alZ hY4 HR2 HB2 hs2 HY HE HB1 hs1 hsh3 hf3 HF HSH hN3 HN
      go_wp2_with fail
      refine HS.out.mono ?_
      rintro e w5 ⟨rfl, hb5⟩
      have HB5 := Lib.hid (HB4.out.trans (hb5.mono hs4))
      have hs5 := HB5.out.size
      clear hb5 HS y0 y1 y2 y3 z0 z1 z2 z3
      go_wp2_with fail
      refine (hL _ (hw.below HB5.out)).mono ?_
      rintro e w6 ⟨rfl, hb6⟩
      have HB6 := Lib.hid (HB5.out.trans (hb6.mono hs5))
      clear hb6
      go_wp2
      go_ret
      exact ⟨rfl, HB6.out⟩
end Go.Proofs.YtfilonbhcalkoaaGreatDoor

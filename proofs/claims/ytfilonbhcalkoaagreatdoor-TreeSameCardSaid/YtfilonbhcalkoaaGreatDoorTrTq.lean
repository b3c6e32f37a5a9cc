/-
  The walk of TreeSame.
-/
import Derived.Test.YtfilonbhcalkoaaGreatDoorTrM26
import Derived.Test.YtfilonbhcalkoaaGreatDoorTrM41
import Derived.Test.YtfilonbhcalkoaaGreatDoorTrM25
namespace Go.Proofs.YtfilonbhcalkoaaGreatDoor
open Go.RowKit Go.Maps
set_option maxRecDepth 100000
set_option linter.unusedSimpArgs false

set_option maxHeartbeats 16000000 in
theorem walk_TreeSame (n : Nd) (A : Option Addr) (c : Nat) (_ : okW 140737488355328 n) (m : Nd) (A' : Option Addr) (c' : Nat) (_ : okW 140737488355328 m) (w : World) (hw : Nm.StdW w) (hA : NAt (fun b _ => b < w.heap.size) w n A c) (hA' : NAt (fun b _ => b < w.heap.size) w m A' c') :
    Calls Tryz.prog 7 #[.agg #[.int .i64 n.k, .string n.t, .string n.v, .slice A n.kids.length c], .agg #[.int .i64 m.k, .string m.t, .string m.v, .slice A' m.kids.length c']] w fun e w' => e = .returned (.bool true) ∧ Below w.heap.size w w' := by
  have bX := Blk.new w 24 #[.int .i64 n.k, .string n.t, .string n.v, .slice A n.kids.length c]
  have al1 := (Below.refl w.heap.size w).alloc (Nat.le_refl _) (.cells #[.int .i64 n.k, .string n.t, .string n.v, .slice A n.kids.length c] 24)
  have bX1 := bX.alloc (.cells #[.int .i64 m.k, .string m.t, .string m.v, .slice A' m.kids.length c'] 24)
  have bY1 := Blk.new (w.alloc (.cells #[.int .i64 n.k, .string n.t, .string n.v, .slice A n.kids.length c] 24)) 24 #[.int .i64 m.k, .string m.t, .string m.v, .slice A' m.kids.length c']
  have al2 := al1.alloc (by simp) (.cells #[.int .i64 m.k, .string m.t, .string m.v, .slice A' m.kids.length c'] 24)
  rw [World.size_alloc] at bY1
  obtain ⟨W0, hW0⟩ : ∃ W0, (w.alloc (.cells #[.int .i64 n.k, .string n.t, .string n.v, .slice A n.kids.length c] 24)).alloc (.cells #[.int .i64 m.k, .string m.t, .string m.v, .slice A' m.kids.length c'] 24) = W0 := ⟨_, rfl⟩
  rw [hW0] at bX1 bY1 al2
  have HX := Lib.hid bX1
  have HY := Lib.hid bY1
  have HB := Lib.hid al2
  have HA := Lib.hid (NAt.up hA al2)
  have HA' := Lib.hid (NAt.up hA' al2)
  have hs0 := al2.size
  have x0 : W0.cell? ⟨w.heap.size, 0, none⟩ = some (.int .i64 n.k) := bX1.cell 0
  have x1 : W0.cell? ⟨w.heap.size, 1, none⟩ = some (.string n.t) := bX1.cell 1
  have x2 : W0.cell? ⟨w.heap.size, 2, none⟩ = some (.string n.v) := bX1.cell 2
  have x3 : W0.cell? ⟨w.heap.size, 3, none⟩ = some (.slice A n.kids.length c) := bX1.cell 3
  have HF := Lib.hid (few_any n _ A c W0 HA.out)
  clear bX al1 bX1 bY1 al2 hA hA'
  go_enter Tryz.func7, Tryz.ntmps7
  go_wp2_with fail
  clear hW0
  refine HF.out.mono ?_
  rintro e w1 ⟨rfl, hb1⟩
  generalize decide (0 ≤ fewN n 300 20) = f1
  have hY1 := HY.out.below hb1 HY.out.lt
  have y0 : w1.cell? ⟨w.heap.size + 1, 0, none⟩ = some (.int .i64 m.k) := hY1.cell 0
  have y1 : w1.cell? ⟨w.heap.size + 1, 1, none⟩ = some (.string m.t) := hY1.cell 1
  have y2 : w1.cell? ⟨w.heap.size + 1, 2, none⟩ = some (.string m.v) := hY1.cell 2
  have y3 : w1.cell? ⟨w.heap.size + 1, 3, none⟩ = some (.slice A' m.kids.length c') := hY1.cell 3
  have HY1 := Lib.hid hY1
  have HX1 := Lib.hid (HX.out.below hb1 HX.out.lt)
  have HB1 := Lib.hid (HB.out.trans (hb1.mono hs0))
  have HA1 := Lib.hid (NAt.up HA.out hb1)
  have HA1' := Lib.hid (NAt.up HA'.out hb1)
  have HF1 := Lib.hid (few_any m _ A' c' w1 HA1'.out)
  clear hY1 hb1 HX HY HB HA HA' HF x0 x1 x2 x3 hs0
  go_wp2_with fail
  refine HF1.out.mono ?_
  rintro e w2 ⟨rfl, hb2⟩
  generalize decide (0 ≤ fewN m 300 20) = f2
  have HX2 := Lib.hid (HX1.out.below hb2 HX1.out.lt)
  have HY2 := Lib.hid (HY1.out.below hb2 HY1.out.lt)
  have hs1 := HB1.out.size
  have HB2 := Lib.hid (HB1.out.trans (hb2.mono hs1))
  have HA2 := Lib.hid (NAt.up HA1.out hb2)
  have HA2' := Lib.hid (NAt.up HA1'.out hb2)
  have hs2 := HB2.out.size
  clear hb2 HX1 HY1 HB1 HA1 HA1' HF1 hs1 y0 y1 y2 y3
  have HL := Lib.hid (tlives_any w2 (hw.below HB2.out))
  by_cases hf : f1 = true ∧ f2 = true
  case neg =>
    have hff : (f1 && f2) = false := by cases f1 <;> cases f2 <;> simp_all
    cases f1 <;> cases f2
    all_goals first | (exact absurd ⟨rfl, rfl⟩ hf) | skip
    all_goals
      clear hff hf
      go_wp2_with fail
      refine HL.out.mono ?_
      rintro e w3 ⟨rfl, hb3⟩
      have HB3 := Lib.hid (HB2.out.trans (hb3.mono hs2))
      clear hb3
      go_wp2
      go_ret
      exact ⟨rfl, HB3.out⟩
  case pos =>
    obtain ⟨rfl, rfl⟩ := hf
    have hcells : ∀ W, Below w2.heap.size w2 W → W.cell? ⟨w.heap.size, 0, none⟩ = some (.int .i64 n.k) ∧ W.cell? ⟨w.heap.size, 1, none⟩ = some (.string n.t) ∧ W.cell? ⟨w.heap.size, 2, none⟩ = some (.string n.v) ∧ W.cell? ⟨w.heap.size, 3, none⟩ = some (.slice A n.kids.length c) ∧
        W.cell? ⟨w.heap.size + 1, 0, none⟩ = some (.int .i64 m.k) ∧ W.cell? ⟨w.heap.size + 1, 1, none⟩ = some (.string m.t) ∧ W.cell? ⟨w.heap.size + 1, 2, none⟩ = some (.string m.v) ∧ W.cell? ⟨w.heap.size + 1, 3, none⟩ = some (.slice A' m.kids.length c') := fun W h => by
      have a := HX2.out.below h HX2.out.lt
      have b := HY2.out.below h HY2.out.lt
      exact ⟨a.cell 0, a.cell 1, a.cell 2, a.cell 3, b.cell 0, b.cell 1, b.cell 2, b.cell 3⟩
    generalize hSS : sameN n m = sv at *
    have hSM : sameN m n = sv := by rw [sameN_comm]; exact hSS
    have cS := fun (W : World) (h : Below w2.heap.size w2 W) => (show Calls Tryz.prog 20 #[(.agg #[.int .i64 n.k, .string n.t, .string n.v, .slice A n.kids.length c]), (.agg #[.int .i64 m.k, .string m.t, .string m.v, .slice A' m.kids.length c'])] W (fun e w' => e = .returned (.bool sv) ∧ Below W.heap.size W w') from by have := tsame_any n m _ _ A A' c c' W (NAt.up HA2.out h) (NAt.up HA2'.out h); rw [hSS] at this; exact this)
    have cT := fun (W : World) (h : Below w2.heap.size w2 W) => (show Calls Tryz.prog 20 #[(.agg #[.int .i64 m.k, .string m.t, .string m.v, .slice A' m.kids.length c']), (.agg #[.int .i64 n.k, .string n.t, .string n.v, .slice A n.kids.length c])] W (fun e w' => e = .returned (.bool sv) ∧ Below W.heap.size W w') from by have := tsame_any m n _ _ A' A c' c W (NAt.up HA2'.out h) (NAt.up HA2.out h); rw [hSM] at this; exact this)
    have cR := fun (W : World) (h : Below w2.heap.size w2 W) => (show Calls Tryz.prog 19 #[(.agg #[.int .i64 n.k, .string n.t, .string n.v, .slice A n.kids.length c]), (.agg #[.int .i64 m.k, .string m.t, .string m.v, .slice A' m.kids.length c'])] W (fun e w' => e = .returned (.bool sv) ∧ Below W.heap.size W w') from by have := rsame_any n m _ _ A A' c c' W (NAt.up HA2.out h) (NAt.up HA2'.out h); rw [hSS] at this; exact this)
    have cI := fun (W : World) (h : Below w2.heap.size w2 W) => (show Calls Tryz.prog 20 #[(.agg #[.int .i64 n.k, .string n.t, .string n.v, .slice A n.kids.length c]), (.agg #[.int .i64 n.k, .string n.t, .string n.v, .slice A n.kids.length c])] W (fun e w' => e = .returned (.bool true) ∧ Below W.heap.size W w') from by have := tsame_any n n _ _ A A c c W (NAt.up HA2.out h) (NAt.up HA2.out h); rw [sameN_refl] at this; exact this)
    have cL := fun (W : World) (h : Below w2.heap.size w2 W) => tlives_any W (hw.below (HB2.out.trans (h.mono hs2)))
    clear hSS hSM HL
    go_wp2
    refine region_g [] (S := (fun W => W.cell? ⟨w.heap.size, 0, none⟩ = some (.int .i64 n.k) ∧ W.cell? ⟨w.heap.size, 1, none⟩ = some (.string n.t) ∧ W.cell? ⟨w.heap.size, 2, none⟩ = some (.string n.v) ∧ W.cell? ⟨w.heap.size, 3, none⟩ = some (.slice A n.kids.length c) ∧
        W.cell? ⟨w.heap.size + 1, 0, none⟩ = some (.int .i64 m.k) ∧ W.cell? ⟨w.heap.size + 1, 1, none⟩ = some (.string m.t) ∧ W.cell? ⟨w.heap.size + 1, 2, none⟩ = some (.string m.v) ∧ W.cell? ⟨w.heap.size + 1, 3, none⟩ = some (.slice A' m.kids.length c'))) (by kernel_rfl) (hcells _ (below_dr w2)) (fun hH => ?_)
    refine g_take (i := 0) (v := (.agg #[.int .i64 n.k, .string n.t, .string n.v, .slice A n.kids.length c])) (by rfl) (by kernel_rfl) (by kernel_rfl) (by kernel_rfl) (by kernel_rfl) (fun _ _ _ h => (by cases h.1)) (Or.inl ⟨by rfl, fun W hS => (by obtain ⟨s0, s1, s2, s3, s4, s5, s6, s7⟩ := hS; go_simp)⟩) hH ?_
    simp only [Act.put, List.setIfInBounds_toArray, List.set_cons_zero, List.set_cons_succ]
    refine g_take (i := 1) (v := (.agg #[.int .i64 m.k, .string m.t, .string m.v, .slice A' m.kids.length c'])) (by rfl) (by kernel_rfl) (by kernel_rfl) (by kernel_rfl) (by kernel_rfl) (fun _ _ _ h => (by cases h.1)) (Or.inl ⟨by rfl, fun W hS => (by obtain ⟨s0, s1, s2, s3, s4, s5, s6, s7⟩ := hS; go_simp)⟩) hH ?_
    simp only [Act.put, List.setIfInBounds_toArray, List.set_cons_zero, List.set_cons_succ]
    refine g_take (i := 3) (v := (.agg #[.int .i64 n.k, .string n.t, .string n.v, .slice A n.kids.length c])) (by rfl) (by kernel_rfl) (by kernel_rfl) (by kernel_rfl) (by kernel_rfl) (fun _ _ _ h => (by cases h.1)) (Or.inl ⟨by rfl, fun W hS => (by obtain ⟨s0, s1, s2, s3, s4, s5, s6, s7⟩ := hS; go_simp)⟩) hH ?_
    simp only [Act.put, List.setIfInBounds_toArray, List.set_cons_zero, List.set_cons_succ]
    refine g_take (i := 4) (v := (.agg #[.int .i64 m.k, .string m.t, .string m.v, .slice A' m.kids.length c'])) (by rfl) (by kernel_rfl) (by kernel_rfl) (by kernel_rfl) (by kernel_rfl) (fun _ _ _ h => (by cases h.1)) (Or.inl ⟨by rfl, fun W hS => (by obtain ⟨s0, s1, s2, s3, s4, s5, s6, s7⟩ := hS; go_simp)⟩) hH ?_
    simp only [Act.put, List.setIfInBounds_toArray, List.set_cons_zero, List.set_cons_succ]
    refine g_one (i := 2) (by kernel_rfl) (by rfl) (fun K hK => ?_)
    go_simp
    refine (cS w2.drew (below_dr w2)).mono ?_
    rintro e w3 ⟨rfl, hb3⟩
    have HB3 : Below w2.heap.size w2 w3 := (below_dr w2).trans (hb3.mono (below_dr w2).size)
    have hH := hcells w3 HB3
    refine hK.out _ _ (fun _ => hH) (fun _ => ?_)
    clear hK K hb3
    try simp only [Act.put, List.setIfInBounds_toArray, List.set_cons_zero, List.set_cons_succ]
    refine g_one (i := 5) (by kernel_rfl) (by rfl) (fun K hK => ?_)
    go_simp
    refine (cR w3 HB3).mono ?_
    rintro e w4 ⟨rfl, hb4⟩
    have HB4 : Below w2.heap.size w2 w4 := HB3.trans (hb4.mono HB3.size)
    have hH := hcells w4 HB4
    refine hK.out _ _ (fun _ => hH) (fun _ => ?_)
    clear hK K hb4
    try simp only [Act.put, List.setIfInBounds_toArray, List.set_cons_zero, List.set_cons_succ]
    refine g_take (i := 6) (v := (.bool true)) (by rfl) (by kernel_rfl) (by kernel_rfl) (by kernel_rfl) (by kernel_rfl) (fun _ _ _ h => (by cases h.1)) (Or.inl ⟨by rfl, fun W hS => (by obtain ⟨s0, s1, s2, s3, s4, s5, s6, s7⟩ := hS; go_simp)⟩) hH ?_
    simp only [Act.put, List.setIfInBounds_toArray, List.set_cons_zero, List.set_cons_succ]
    refine g_take (i := 7) (v := (.bool true)) (by rfl) (by kernel_rfl) (by kernel_rfl) (by kernel_rfl) (by kernel_rfl) (fun _ _ _ h => (by cases h.1)) (Or.inl ⟨by rfl, fun W hS => (by obtain ⟨s0, s1, s2, s3, s4, s5, s6, s7⟩ := hS; go_simp)⟩) hH ?_
    simp only [Act.put, List.setIfInBounds_toArray, List.set_cons_zero, List.set_cons_succ]
    refine g_take (i := 8) (v := (.agg #[.int .i64 m.k, .string m.t, .string m.v, .slice A' m.kids.length c'])) (by rfl) (by kernel_rfl) (by kernel_rfl) (by kernel_rfl) (by kernel_rfl) (fun _ _ _ h => (by cases h.1)) (Or.inl ⟨by rfl, fun W hS => (by obtain ⟨s0, s1, s2, s3, s4, s5, s6, s7⟩ := hS; go_simp)⟩) hH ?_
    simp only [Act.put, List.setIfInBounds_toArray, List.set_cons_zero, List.set_cons_succ]
    refine g_take (i := 9) (v := (.agg #[.int .i64 n.k, .string n.t, .string n.v, .slice A n.kids.length c])) (by rfl) (by kernel_rfl) (by kernel_rfl) (by kernel_rfl) (by kernel_rfl) (fun _ _ _ h => (by cases h.1)) (Or.inl ⟨by rfl, fun W hS => (by obtain ⟨s0, s1, s2, s3, s4, s5, s6, s7⟩ := hS; go_simp)⟩) hH ?_
    simp only [Act.put, List.setIfInBounds_toArray, List.set_cons_zero, List.set_cons_succ]
    refine g_take (i := 11) (v := (.agg #[.int .i64 n.k, .string n.t, .string n.v, .slice A n.kids.length c])) (by rfl) (by kernel_rfl) (by kernel_rfl) (by kernel_rfl) (by kernel_rfl) (fun _ _ _ h => (by cases h.1)) (Or.inl ⟨by rfl, fun W hS => (by obtain ⟨s0, s1, s2, s3, s4, s5, s6, s7⟩ := hS; go_simp)⟩) hH ?_
    simp only [Act.put, List.setIfInBounds_toArray, List.set_cons_zero, List.set_cons_succ]
    refine g_take (i := 12) (v := (.agg #[.int .i64 m.k, .string m.t, .string m.v, .slice A' m.kids.length c'])) (by rfl) (by kernel_rfl) (by kernel_rfl) (by kernel_rfl) (by kernel_rfl) (fun _ _ _ h => (by cases h.1)) (Or.inl ⟨by rfl, fun W hS => (by obtain ⟨s0, s1, s2, s3, s4, s5, s6, s7⟩ := hS; go_simp)⟩) hH ?_
    simp only [Act.put, List.setIfInBounds_toArray, List.set_cons_zero, List.set_cons_succ]
    refine g_one (i := 10) (by kernel_rfl) (by rfl) (fun K hK => ?_)
    go_simp
    refine (cT w4 HB4).mono ?_
    rintro e w5 ⟨rfl, hb5⟩
    have HB5 : Below w2.heap.size w2 w5 := HB4.trans (hb5.mono HB4.size)
    have hH := hcells w5 HB5
    refine hK.out _ _ (fun _ => hH) (fun _ => ?_)
    clear hK K hb5
    try simp only [Act.put, List.setIfInBounds_toArray, List.set_cons_zero, List.set_cons_succ]
    refine g_one (i := 13) (by kernel_rfl) (by rfl) (fun K hK => ?_)
    go_simp
    refine (cR w5 HB5).mono ?_
    rintro e w6 ⟨rfl, hb6⟩
    have HB6 : Below w2.heap.size w2 w6 := HB5.trans (hb6.mono HB5.size)
    have hH := hcells w6 HB6
    refine hK.out _ _ (fun _ => hH) (fun _ => ?_)
    clear hK K hb6
    try simp only [Act.put, List.setIfInBounds_toArray, List.set_cons_zero, List.set_cons_succ]
    refine g_take (i := 14) (v := (.bool true)) (by rfl) (by kernel_rfl) (by kernel_rfl) (by kernel_rfl) (by kernel_rfl) (fun _ _ _ h => (by cases h.1)) (Or.inl ⟨by rfl, fun W hS => (by obtain ⟨s0, s1, s2, s3, s4, s5, s6, s7⟩ := hS; go_simp)⟩) hH ?_
    simp only [Act.put, List.setIfInBounds_toArray, List.set_cons_zero, List.set_cons_succ]
    refine g_take (i := 15) (v := (.bool true)) (by rfl) (by kernel_rfl) (by kernel_rfl) (by kernel_rfl) (by kernel_rfl) (fun _ _ _ h => (by cases h.1)) (Or.inl ⟨by rfl, fun W hS => (by obtain ⟨s0, s1, s2, s3, s4, s5, s6, s7⟩ := hS; go_simp)⟩) hH ?_
    simp only [Act.put, List.setIfInBounds_toArray, List.set_cons_zero, List.set_cons_succ]
    refine g_take (i := 16) (v := (.bool true)) (by rfl) (by kernel_rfl) (by kernel_rfl) (by kernel_rfl) (by kernel_rfl) (fun _ _ _ h => (by cases h.1)) (Or.inl ⟨by rfl, fun W hS => (by obtain ⟨s0, s1, s2, s3, s4, s5, s6, s7⟩ := hS; go_simp)⟩) hH ?_
    simp only [Act.put, List.setIfInBounds_toArray, List.set_cons_zero, List.set_cons_succ]
    refine g_take (i := 17) (v := (.agg #[.int .i64 n.k, .string n.t, .string n.v, .slice A n.kids.length c])) (by rfl) (by kernel_rfl) (by kernel_rfl) (by kernel_rfl) (by kernel_rfl) (fun _ _ _ h => (by cases h.1)) (Or.inl ⟨by rfl, fun W hS => (by obtain ⟨s0, s1, s2, s3, s4, s5, s6, s7⟩ := hS; go_simp)⟩) hH ?_
    simp only [Act.put, List.setIfInBounds_toArray, List.set_cons_zero, List.set_cons_succ]
    refine g_take (i := 18) (v := (.agg #[.int .i64 n.k, .string n.t, .string n.v, .slice A n.kids.length c])) (by rfl) (by kernel_rfl) (by kernel_rfl) (by kernel_rfl) (by kernel_rfl) (fun _ _ _ h => (by cases h.1)) (Or.inl ⟨by rfl, fun W hS => (by obtain ⟨s0, s1, s2, s3, s4, s5, s6, s7⟩ := hS; go_simp)⟩) hH ?_
    simp only [Act.put, List.setIfInBounds_toArray, List.set_cons_zero, List.set_cons_succ]
    refine g_one (i := 19) (by kernel_rfl) (by rfl) (fun K hK => ?_)
    go_simp
    refine (cI w6 HB6).mono ?_
    rintro e w7 ⟨rfl, hb7⟩
    have HB7 : Below w2.heap.size w2 w7 := HB6.trans (hb7.mono HB6.size)
    have hH := hcells w7 HB7
    refine hK.out _ _ (fun _ => hH) (fun _ => ?_)
    clear hK K hb7
    try simp only [Act.put, List.setIfInBounds_toArray, List.set_cons_zero, List.set_cons_succ]
    refine g_take (i := 20) (v := (.bool true)) (by rfl) (by kernel_rfl) (by kernel_rfl) (by kernel_rfl) (by kernel_rfl) (fun _ _ _ h => (by cases h.1)) (Or.inl ⟨by rfl, fun W hS => (by obtain ⟨s0, s1, s2, s3, s4, s5, s6, s7⟩ := hS; go_simp)⟩) hH ?_
    simp only [Act.put, List.setIfInBounds_toArray, List.set_cons_zero, List.set_cons_succ]
    refine g_take (i := 21) (v := (.bool true)) (by rfl) (by kernel_rfl) (by kernel_rfl) (by kernel_rfl) (by kernel_rfl) (fun _ _ _ h => (by cases h.1)) (Or.inl ⟨by rfl, fun W hS => (by obtain ⟨s0, s1, s2, s3, s4, s5, s6, s7⟩ := hS; go_simp)⟩) hH ?_
    simp only [Act.put, List.setIfInBounds_toArray, List.set_cons_zero, List.set_cons_succ]
    refine g_one (i := 22) (by kernel_rfl) (by rfl) (fun K hK => ?_)
    go_simp
    refine (cL w7 HB7).mono ?_
    rintro e w8 ⟨rfl, hb8⟩
    have HB8 : Below w2.heap.size w2 w8 := HB7.trans (hb8.mono HB7.size)
    have hH := hcells w8 HB8
    refine hK.out _ _ (fun _ => hH) (fun _ => ?_)
    clear hK K hb8
    try simp only [Act.put, List.setIfInBounds_toArray, List.set_cons_zero, List.set_cons_succ]
    refine g_take (i := 23) (v := (.bool true)) (by rfl) (by kernel_rfl) (by kernel_rfl) (by kernel_rfl) (by kernel_rfl) (fun _ _ _ h => (by cases h.1)) (Or.inl ⟨by rfl, fun W hS => (by obtain ⟨s0, s1, s2, s3, s4, s5, s6, s7⟩ := hS; go_simp)⟩) hH ?_
    simp only [Act.put, List.setIfInBounds_toArray, List.set_cons_zero, List.set_cons_succ]
    refine g_take (i := 24) (v := (.bool true)) (by rfl) (by kernel_rfl) (by kernel_rfl) (by kernel_rfl) (by kernel_rfl) (fun _ _ _ h => (by cases h.1)) (Or.inl ⟨by rfl, fun W hS => (by obtain ⟨s0, s1, s2, s3, s4, s5, s6, s7⟩ := hS; go_simp)⟩) hH ?_
    simp only [Act.put, List.setIfInBounds_toArray, List.set_cons_zero, List.set_cons_succ]
    simp only [Act.put, List.getElem_toArray, List.getElem_cons_succ, List.getElem_cons_zero, List.setIfInBounds_toArray, List.set_cons_zero, List.set_cons_succ]
    refine g_done (by kernel_rfl) ⟨by first | rfl | trivial, ?_⟩ _
    have HB9 := Lib.hid (HB2.out.trans (HB8.mono hs2))
    clear HB8 HB7 HB6 HB5 HB4 HB3 hcells cS cT cR cI cL
    go_wp2
    go_ret
    exact ⟨rfl, HB9.out⟩
end Go.Proofs.YtfilonbhcalkoaaGreatDoor

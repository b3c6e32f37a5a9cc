/-
  sections: cutLast, is, leading.
  sections: cutLast, move, enter, nextRow.
  sections: inRow, move, enter.
-/
import Derived.Test.YtalkjgijmceifaaGreatDoorSwA30
namespace Go.Proofs.YtalkjgijmceifaaGreatDoor
open Go.RowKit Go.Maps
set_option maxRecDepth 100000
set_option linter.unusedSimpArgs false
set_option linter.unusedVariables false
set_option linter.unusedSectionVars false
variable [Tab] [Fo]

theorem stepis_any (w : World) (s t : ByteArray) (b : Bool) :
    Calls Tryz.prog 259 #[.agg #[.string s, .bool b], .string t] w fun e w' => e = .returned (.bool (decide (s = t))) ∧ Below w.heap.size w w' := by
  obtain ⟨g, W, hg, hW, hB, al, hlt⟩ := box_new w #[.string s, .bool b] 280
  have b0 : W.cell? ⟨g, 0, none⟩ = some (.string s) := hB.cell 0
  have AL := Lib.hid al
  clear hB al
  by_cases h : s = t
  · subst h
    rw [decide_eq_true rfl]
    go_enter Tryz.func259, Tryz.ntmps259
    go_wp2
    go_ret
    exact ⟨by first | rfl | simp, AL.out⟩
  · rw [decide_eq_false h]
    have hd := str_diff h
    have hd1 := hd.1
    have hd2 := hd.2
    clear hd h
    go_enter Tryz.func259, Tryz.ntmps259
    go_wp2
    go_ret
    exact ⟨by first | rfl | simp, AL.out⟩
theorem leadS_step {p : List (ByteArray × Bool)} {q : List ByteArray} {k : Nat} (h1 : k < p.length) (h2 : k < q.length) : leadS (p.drop k) (q.drop k) = if (p[k]'h1).1 = q[k]'h2 then leadS (p.drop (k + 1)) (q.drop (k + 1)) + 1 else 0 := by
  rw [List.drop_eq_getElem_cons h1, List.drop_eq_getElem_cons h2, leadS]
theorem leadS_nil {p : List (ByteArray × Bool)} {q : List ByteArray} (h : p = [] ∨ q = []) : leadS p q = 0 := by
  rcases h with rfl | rfl
  · exact Nat.le_zero.1 (leadS_le [] q).1
  · exact Nat.le_zero.1 (leadS_le p []).2
set_option maxHeartbeats 4000000 in
theorem leading_any (w : World) (base : Nat) (pv bv : Value) (ps : List (ByteArray × Bool)) (ks : List ByteArray) (hp : w.ownsRow base 280 2 pv ps.length (posC ps)) (hk : SRd w bv ks) (hps : ps.length ≤ 1000) (hks : ks.length ≤ 1000) :
    Calls Tryz.prog 258 #[pv, bv, .func (.func 259) #[] #[]] w fun e w' => e = .returned (.int .i64 (leadS ps ks : Int)) ∧ Below w.heap.size w w' := by
  obtain ⟨A, cap, rfl, hcap, hlook⟩ := row_look hp
  obtain ⟨A2, cap2, rfl, hcap2, hlook2⟩ := hk
  have hcell : Hid (∀ wr k (h1 : k < ps.length) (h2 : k < ks.length), Below w.heap.size w wr → ∃ g g2 off, A = some ⟨g, 0, none⟩ ∧ A2 = some ⟨g2, off, none⟩ ∧ wr.cell? ⟨g, k * 2, none⟩ = some (.string ps[k].1) ∧ wr.cell? ⟨g, k * 2 + 1, none⟩ = some (.bool ps[k].2) ∧ wr.cell? ⟨g2, off + k, none⟩ = some (.string ks[k])) := Lib.hid (fun wr k h1 h2 hb => by
    obtain ⟨g, e1, hc⟩ := hlook (by omega)
    obtain ⟨g2, off, cur, fr, e2, hh, hc2⟩ := hlook2 (by omega)
    have q1 := hc k h1
    refine ⟨g, g2, off, e1, e2, ?_, ?_, ?_⟩
    · exact (hb.cell (cell_lt q1.1)).trans q1.1
    · exact (hb.cell (cell_lt q1.2)).trans q1.2
    · have h3 := hc2 k h2
      have h4 : w.cell? ⟨g2, off + k, none⟩ = some (.string ks[k]) := by simp [World.cell?, hh, h3]
      exact (hb.cell (cell_lt h4)).trans h4)
  have HI0 : Hid (leadS ps ks = 0 + leadS (ps.drop 0) (ks.drop 0)) := Lib.hid (by simp)
  obtain ⟨R, hR⟩ : ∃ R, leadS ps ks = R := ⟨_, rfl⟩
  rw [hR] at HI0 ⊢
  have HB0 := Lib.hid (Below.refl w.heap.size w)
  have hif : ∀ wr x, (callFunc 259 x).run Tryz.prog wr = .ok (.enter 259 x) wr := fun wr x => enters_of Tryz.func259 (by kernel_rfl) rfl x wr
  clear hp hlook hlook2 hR
  go_enter Tryz.func258, Tryz.ntmps258
  go_wp2
  go_loopw [7] (fun i wr => ∃ k : Nat, k ≤ ps.length ∧ i = .int .i64 k ∧ Hid (Below w.heap.size w wr) ∧ Hid (R = k + leadS (ps.drop k) (ks.drop k))) (fun i _ => ps.length - (intOf i).toNat)
  case atStart => exact ⟨0, Nat.zero_le _, rfl, HB0, HI0⟩
  case round =>
    obtain ⟨k, hk1, rfl, HB, HR⟩ := hrel
    clear HI0 HB0
    by_cases h1 : k < ps.length
    · by_cases h2 : k < ks.length
      · obtain ⟨g, g2, off, rfl, rfl, c1, c2, c3⟩ := hcell.out wr.drew k h1 h2 (below_drew HB.out)
        have HR2 : Hid (R = k + if ps[k].1 = ks[k] then leadS (ps.drop (k + 1)) (ks.drop (k + 1)) + 1 else 0) := Lib.hid (by rw [HR.out, leadS_step h1 h2])
        have HS := Lib.hid (stepis_any wr.drew ps[k].1 ks[k] ps[k].2)
        have hkc : k < cap := by omega
        have hkc2 : k < cap2 := by omega
        obtain ⟨s1, hs1⟩ : ∃ s1, ps[k].1 = s1 := ⟨_, rfl⟩
        obtain ⟨s2, hs2⟩ : ∃ s2, ps[k].2 = s2 := ⟨_, rfl⟩
        obtain ⟨s3, hs3⟩ : ∃ s3, ks[k] = s3 := ⟨_, rfl⟩
        rw [hs1, hs3] at HR2
        rw [hs1, hs2, hs3] at HS
        rw [hs1] at c1
        rw [hs2] at c2
        rw [hs3] at c3
        clear HR hs1 hs2 hs3
        go_wp2
        refine region_g [] (S := (fun W => W.cell? ⟨g, k * 2, none⟩ = some (.string s1) ∧ W.cell? ⟨g, k * 2 + 1, none⟩ = some (.bool s2) ∧ W.cell? ⟨g2, off + k, none⟩ = some (.string s3))) (by kernel_rfl) ⟨c1, c2, c3⟩ (fun hH => ?_)
        refine g_take (i := 0) (v := .int .i64 (k : Int)) (by rfl) (by kernel_rfl) (by kernel_rfl) (by kernel_rfl) (by kernel_rfl) (fun _ _ _ h => (by cases h.1)) (Or.inl ⟨by kernel_rfl, fun W hS => (by obtain ⟨q1, q2, q3⟩ := hS; go_simp)⟩) hH ?_
        simp only [Act.put, List.setIfInBounds_toArray, List.set_cons_zero, List.set_cons_succ]
        refine g_take (i := 1) (v := .slice (some ⟨g, 0, none⟩) ps.length cap) (by rfl) (by kernel_rfl) (by kernel_rfl) (by kernel_rfl) (by kernel_rfl) (fun _ _ _ h => (by cases h.1)) (Or.inl ⟨by kernel_rfl, fun W hS => (by obtain ⟨q1, q2, q3⟩ := hS; go_simp)⟩) hH ?_
        simp only [Act.put, List.setIfInBounds_toArray, List.set_cons_zero, List.set_cons_succ]
        refine g_take (i := 2) (v := .int .i64 (ps.length : Int)) (by rfl) (by kernel_rfl) (by kernel_rfl) (by kernel_rfl) (by kernel_rfl) (fun _ _ _ h => (by cases h.1)) (Or.inl ⟨by kernel_rfl, fun W hS => (by obtain ⟨q1, q2, q3⟩ := hS; go_simp)⟩) hH ?_
        simp only [Act.put, List.setIfInBounds_toArray, List.set_cons_zero, List.set_cons_succ]
        refine g_take (i := 3) (v := .bool true) (by rfl) (by kernel_rfl) (by kernel_rfl) (by kernel_rfl) (by kernel_rfl) (fun _ _ _ h => (by cases h.1)) (Or.inl ⟨by kernel_rfl, fun W hS => (by obtain ⟨q1, q2, q3⟩ := hS; go_simp)⟩) hH ?_
        simp only [Act.put, List.setIfInBounds_toArray, List.set_cons_zero, List.set_cons_succ]
        refine g_take (i := 4) (v := .bool true) (by rfl) (by kernel_rfl) (by kernel_rfl) (by kernel_rfl) (by kernel_rfl) (fun _ _ _ h => (by cases h.1)) (Or.inl ⟨by kernel_rfl, fun W hS => (by obtain ⟨q1, q2, q3⟩ := hS; go_simp)⟩) hH ?_
        simp only [Act.put, List.setIfInBounds_toArray, List.set_cons_zero, List.set_cons_succ]
        refine g_take (i := 5) (v := .int .i64 (k : Int)) (by rfl) (by kernel_rfl) (by kernel_rfl) (by kernel_rfl) (by kernel_rfl) (fun _ _ _ h => (by cases h.1)) (Or.inl ⟨by kernel_rfl, fun W hS => (by obtain ⟨q1, q2, q3⟩ := hS; go_simp)⟩) hH ?_
        simp only [Act.put, List.setIfInBounds_toArray, List.set_cons_zero, List.set_cons_succ]
        refine g_take (i := 6) (v := .slice (some ⟨g2, off, none⟩) ks.length cap2) (by rfl) (by kernel_rfl) (by kernel_rfl) (by kernel_rfl) (by kernel_rfl) (fun _ _ _ h => (by cases h.1)) (Or.inl ⟨by kernel_rfl, fun W hS => (by obtain ⟨q1, q2, q3⟩ := hS; go_simp)⟩) hH ?_
        simp only [Act.put, List.setIfInBounds_toArray, List.set_cons_zero, List.set_cons_succ]
        refine g_take (i := 7) (v := .int .i64 (ks.length : Int)) (by rfl) (by kernel_rfl) (by kernel_rfl) (by kernel_rfl) (by kernel_rfl) (fun _ _ _ h => (by cases h.1)) (Or.inl ⟨by kernel_rfl, fun W hS => (by obtain ⟨q1, q2, q3⟩ := hS; go_simp)⟩) hH ?_
        simp only [Act.put, List.setIfInBounds_toArray, List.set_cons_zero, List.set_cons_succ]
        refine g_take (i := 8) (v := .bool true) (by rfl) (by kernel_rfl) (by kernel_rfl) (by kernel_rfl) (by kernel_rfl) (fun _ _ _ h => (by cases h.1)) (Or.inl ⟨by kernel_rfl, fun W hS => (by obtain ⟨q1, q2, q3⟩ := hS; go_simp)⟩) hH ?_
        simp only [Act.put, List.setIfInBounds_toArray, List.set_cons_zero, List.set_cons_succ]
        refine g_take (i := 9) (v := .bool true) (by rfl) (by kernel_rfl) (by kernel_rfl) (by kernel_rfl) (by kernel_rfl) (fun _ _ _ h => (by cases h.1)) (Or.inl ⟨by kernel_rfl, fun W hS => (by obtain ⟨q1, q2, q3⟩ := hS; go_simp)⟩) hH ?_
        simp only [Act.put, List.setIfInBounds_toArray, List.set_cons_zero, List.set_cons_succ]
        refine g_take (i := 10) (v := .bool true) (by rfl) (by kernel_rfl) (by kernel_rfl) (by kernel_rfl) (by kernel_rfl) (fun _ _ _ h => (by cases h.1)) (Or.inl ⟨by kernel_rfl, fun W hS => (by obtain ⟨q1, q2, q3⟩ := hS; go_simp)⟩) hH ?_
        simp only [Act.put, List.setIfInBounds_toArray, List.set_cons_zero, List.set_cons_succ]
        refine g_take (i := 11) (v := .func (.func 259) #[] #[]) (by rfl) (by kernel_rfl) (by kernel_rfl) (by kernel_rfl) (by kernel_rfl) (fun _ _ _ h => (by cases h.1)) (Or.inl ⟨by kernel_rfl, fun W hS => (by obtain ⟨q1, q2, q3⟩ := hS; go_simp)⟩) hH ?_
        simp only [Act.put, List.setIfInBounds_toArray, List.set_cons_zero, List.set_cons_succ]
        refine g_take (i := 12) (v := .slice (some ⟨g, 0, none⟩) ps.length cap) (by rfl) (by kernel_rfl) (by kernel_rfl) (by kernel_rfl) (by kernel_rfl) (fun _ _ _ h => (by cases h.1)) (Or.inl ⟨by kernel_rfl, fun W hS => (by obtain ⟨q1, q2, q3⟩ := hS; go_simp)⟩) hH ?_
        simp only [Act.put, List.setIfInBounds_toArray, List.set_cons_zero, List.set_cons_succ]
        refine g_take (i := 13) (v := .int .i64 (k : Int)) (by rfl) (by kernel_rfl) (by kernel_rfl) (by kernel_rfl) (by kernel_rfl) (fun _ _ _ h => (by cases h.1)) (Or.inl ⟨by kernel_rfl, fun W hS => (by obtain ⟨q1, q2, q3⟩ := hS; go_simp)⟩) hH ?_
        simp only [Act.put, List.setIfInBounds_toArray, List.set_cons_zero, List.set_cons_succ]
        refine g_take (i := 14) (v := .pointer (some ⟨g, k * 2, none⟩)) (by rfl) (by kernel_rfl) (by kernel_rfl) (by kernel_rfl) (by kernel_rfl) (fun _ _ _ h => (by cases h.1)) (Or.inl ⟨by kernel_rfl, fun W hS => (by obtain ⟨q1, q2, q3⟩ := hS; go_simp)⟩) hH ?_
        simp only [Act.put, List.setIfInBounds_toArray, List.set_cons_zero, List.set_cons_succ]
        refine g_take (i := 15) (v := .agg #[.string s1, .bool s2]) (by rfl) (by kernel_rfl) (by kernel_rfl) (by kernel_rfl) (by kernel_rfl) (fun _ _ _ h => (by cases h.1)) (Or.inl ⟨by kernel_rfl, fun W hS => (by obtain ⟨q1, q2, q3⟩ := hS; go_simp)⟩) hH ?_
        simp only [Act.put, List.setIfInBounds_toArray, List.set_cons_zero, List.set_cons_succ]
        refine g_take (i := 16) (v := .slice (some ⟨g2, off, none⟩) ks.length cap2) (by rfl) (by kernel_rfl) (by kernel_rfl) (by kernel_rfl) (by kernel_rfl) (fun _ _ _ h => (by cases h.1)) (Or.inl ⟨by kernel_rfl, fun W hS => (by obtain ⟨q1, q2, q3⟩ := hS; go_simp)⟩) hH ?_
        simp only [Act.put, List.setIfInBounds_toArray, List.set_cons_zero, List.set_cons_succ]
        refine g_take (i := 17) (v := .int .i64 (k : Int)) (by rfl) (by kernel_rfl) (by kernel_rfl) (by kernel_rfl) (by kernel_rfl) (fun _ _ _ h => (by cases h.1)) (Or.inl ⟨by kernel_rfl, fun W hS => (by obtain ⟨q1, q2, q3⟩ := hS; go_simp)⟩) hH ?_
        simp only [Act.put, List.setIfInBounds_toArray, List.set_cons_zero, List.set_cons_succ]
        refine g_take (i := 18) (v := .pointer (some ⟨g2, off + k, none⟩)) (by rfl) (by kernel_rfl) (by kernel_rfl) (by kernel_rfl) (by kernel_rfl) (fun _ _ _ h => (by cases h.1)) (Or.inl ⟨by kernel_rfl, fun W hS => (by obtain ⟨q1, q2, q3⟩ := hS; go_simp)⟩) hH ?_
        simp only [Act.put, List.setIfInBounds_toArray, List.set_cons_zero, List.set_cons_succ]
        refine g_take (i := 19) (v := .string s3) (by rfl) (by kernel_rfl) (by kernel_rfl) (by kernel_rfl) (by kernel_rfl) (fun _ _ _ h => (by cases h.1)) (Or.inl ⟨by kernel_rfl, fun W hS => (by obtain ⟨q1, q2, q3⟩ := hS; go_simp)⟩) hH ?_
        simp only [Act.put, List.setIfInBounds_toArray, List.set_cons_zero, List.set_cons_succ]
        refine g_one (i := 20) (by kernel_rfl) (by rfl) (fun K hK => ?_)
        go_simp
        refine HS.out.mono ?_
        rintro e w1 ⟨rfl, hb1⟩
        have HB1 := Lib.hid ((below_drew HB.out).trans (hb1.mono (below_drew HB.out).size))
        have d1 := (hb1.cell (cell_lt c1)).trans c1
        have d2 := (hb1.cell (cell_lt c2)).trans c2
        have d3 := (hb1.cell (cell_lt c3)).trans c3
        refine hK.out _ _ (fun _ => ⟨d1, d2, d3⟩) (fun _ => ?_)
        clear hK K hb1 hH HS c1 c2 c3
        by_cases he : s1 = s3
        · have hde : decide (s1 = s3) = true := decide_eq_true he
          rw [if_pos he] at HR2
          clear he
          refine g_one (i := 21) (by kernel_rfl) (by rfl) (fun K hK => ?_)
          go_simp
          refine hK.out _ _ (fun _ => ⟨d1, d2, d3⟩) (fun _ => ?_)
          clear hK K
          refine g_done (by kernel_rfl) ⟨by first | rfl | trivial, ?_⟩ _
          go_wp2
          go_roundw
          case rel => exact ⟨k + 1, h1, by go_num, HB1, Lib.hid (by rw [HR2.out]; omega)⟩
          case measure => first | (simp [intOf]; done) | (simp [intOf]; omega)
        · have hde : decide (s1 = s3) = false := decide_eq_false he
          rw [if_neg he] at HR2
          clear he
          refine g_one (i := 21) (by kernel_rfl) (by rfl) (fun K hK => ?_)
          go_simp
          refine hK.out _ _ (fun _ => ⟨d1, d2, d3⟩) (fun _ => ?_)
          clear hK K
          refine g_done (by kernel_rfl) ⟨by first | rfl | trivial, ?_⟩ _
          go_wp2
          go_ret
          exact ⟨by rw [HR2.out]; rfl, HB1.out⟩
      · have HR2 : Hid (R = k) := Lib.hid (by rw [HR.out, leadS_nil (.inr (List.drop_of_length_le (by omega)))]; rfl)
        have hd1 : decide ((k : Int) < (ps.length : Int)) = true := by simp; omega
        have hd2 : decide ((k : Int) < (ks.length : Int)) = false := by simp; omega
        clear HR hcell
        go_wp2
        go_region
        go_wp2
        go_ret
        exact ⟨by rw [HR2.out]; rfl, by first | exact HB.out | exact below_drew HB.out⟩
    · have HR2 : Hid (R = k) := Lib.hid (by rw [HR.out, leadS_nil (.inl (List.drop_of_length_le (by omega)))]; rfl)
      have hd1 : decide ((k : Int) < (ps.length : Int)) = false := by simp; omega
      clear HR hcell
      go_wp2
      go_region
      go_wp2
      go_ret
      exact ⟨by rw [HR2.out]; rfl, by first | exact HB.out | exact below_drew HB.out⟩
end Go.Proofs.YtalkjgijmceifaaGreatDoor
namespace Go.Proofs.YtalkjgijmceifaaGreatDoor
open Go.RowKit Go.Maps
set_option maxRecDepth 100000
set_option linter.unusedSimpArgs false
set_option linter.unusedVariables false
set_option linter.unusedSectionVars false
variable [Tab] [Fo]

section
variable {base L p o ck : Nat} {S : List UInt8} {x : Sx} {a : Nat} {w w' : World}
theorem SRd.len {v : Value} {ks : List ByteArray} (h : SRd w v ks) : ∃ A c, v = .slice A ks.length c ∧ ks.length ≤ c := by
  obtain ⟨A, c, h1, h2, _⟩ := h
  exact ⟨A, c, h1, h2⟩
theorem SRd.take {A : Option Addr} {n c m : Nat} {ks : List ByteArray} (h : SRd w (.slice A n c) ks) (hm : m ≤ n) : SRd w (.slice A m c) (ks.take m) := by
  obtain ⟨A', c', h1, h2, h3⟩ := h
  injection h1 with e1 e2 e3
  subst e1 e2 e3
  have hl : (ks.take m).length = m := by rw [List.length_take]; omega
  refine ⟨A, c, by rw [hl], by omega, fun h0 => ?_⟩
  obtain ⟨g, off, cur, fr, k1, k2, k3⟩ := h3 (by omega)
  refine ⟨g, off, cur, fr, k1, k2, fun j hj => ?_⟩
  rw [List.getElem_take]
  exact k3 j (by omega)
theorem SRd.drop {A : Option Addr} {n c m : Nat} {ks : List ByteArray} (h : SRd w (.slice A n c) ks) (hm : m < n) : ∃ g off cur fr, A = some ⟨g, off, none⟩ ∧ w.heap[g]? = some (.cells cur 9 fr) ∧ SRd w (.slice (some ⟨g, off + m, none⟩) (n - m) (c - m)) (ks.drop m) := by
  obtain ⟨A', c', h1, h2, h3⟩ := h
  injection h1 with e1 e2 e3
  subst e1 e2 e3
  obtain ⟨g, off, cur, fr, k1, k2, k3⟩ := h3 (by omega)
  have hl : (ks.drop m).length = ks.length - m := by rw [List.length_drop]
  refine ⟨g, off, cur, fr, k1, k2, _, _, by rw [hl], by rw [hl]; omega, fun h0 => ⟨g, off + m, cur, fr, rfl, k2, fun j hj => ?_⟩⟩
  rw [List.getElem_drop, Nat.add_assoc]
  exact k3 (m + j) (by rw [hl] at hj; omega)
theorem SRd.cell {A : Option Addr} {n c j : Nat} {ks : List ByteArray} (h : SRd w (.slice A n c) ks) (hj : j < ks.length) : ∃ g off, A = some ⟨g, off, none⟩ ∧ w.cell? ⟨g, off + j, none⟩ = some (.string ks[j]) := by
  obtain ⟨A', c', h1, h2, h3⟩ := h
  injection h1 with e1 e2 e3
  subst e1 e3
  obtain ⟨g, off, cur, fr, k1, k2, k3⟩ := h3 (by omega)
  refine ⟨g, off, k1, ?_⟩
  have := k3 j hj
  simp [World.cell?, k2, this]
theorem lastK_eq {ks : List ByteArray} {n : Nat} (h : ks.length = n + 1) : lastK ks = ks[n]'(by omega) := by
  unfold lastK
  have hne : ks ≠ [] := by intro e; rw [e] at h; cases h
  rw [List.getLast?_eq_some_getLast hne]
  simp only
  rw [List.getLast_eq_getElem hne]
  congr 1
  omega
set_option maxHeartbeats 2000000 in
theorem cutLast_any (v : Value) (ks : List ByteArray) (h : SRd w v ks) (h0 : 0 < ks.length) (h9 : ks.length ≤ 1000) :
    Calls Tryz.prog 254 #[v] w fun e w' => ∃ v1, e = .returned (.tuple #[v1, .string (lastK ks)]) ∧ SRd w' v1 ks.dropLast ∧ Below w.heap.size w w' := by
  obtain ⟨A, c, hv, hc⟩ := h.len
  subst hv
  obtain ⟨n, hn⟩ : ∃ n, ks.length = n + 1 := ⟨ks.length - 1, by omega⟩
  obtain ⟨g, off, rfl, hcell⟩ := SRd.cell (j := n) h (by omega)
  rw [lastK_eq hn]
  have HT : Hid (SRd w.drew (.slice (some ⟨g, off, none⟩) n c) ks.dropLast) := Lib.hid (by
    rw [List.dropLast_eq_take, hn]
    exact (SRd.take (m := n) h (by omega)).below (below_drew (Below.refl _ _)))
  obtain ⟨s, hs⟩ : ∃ s, ks[n]'(by omega) = s := ⟨_, rfl⟩
  rw [hs] at hcell ⊢
  rw [hn] at hc h9 ⊢
  have hcd : w.drew.cell? ⟨g, off + n, none⟩ = some (.string s) := hcell
  have hn1 : ((n + 1 : Nat) : Int) - 1 = n := by omega
  have hnc : n ≤ c := by omega
  clear h h0 hs hn
  go_enter Tryz.func254, Tryz.ntmps254
  go_wp2
  go_region
  go_wp2
  go_ret2
  exact ⟨_, rfl, HT.out, below_drew (Below.refl _ _)⟩
theorem openS_st {s : ByteArray × Bool} {x x' : Sx} (hs : s.1.size ≤ 1000) (h : openS s x = some x') : x.st.length + 1 ≤ x'.st.length ∧ x'.pos.length = x.pos.length + 1 := by
  obtain ⟨h1, h2, h3, h4, h5, _⟩ := openS_facts hs h
  refine ⟨?_, by rw [h2, List.length_append]; rfl⟩
  unfold depX at h5
  rw [h2, h4, wtP_snoc] at h5
  split at h5 <;> omega
theorem nextRow_S (keep : Nat) (h : SecI base L p o ck S x a w) (hl : x.l.length ≤ 700000) (hk9 : keep ≤ 1000000) :
    Calls Tryz.prog 251 #[rV L p, .int .i64 (keep : Int)] w (Po (SI base L p o ck S secObj w) (SF base L p o ck S secObj w) a (nextRowS keep x)) := by
  obtain ⟨g, W, hg, hW, hB, hlt, hi, hT⟩ := rbox (q := secObj) h
  have HU := Lib.hid hT
  have HB := Lib.hid hB
  obtain ⟨b0, b1, _⟩ := rb_cells hB
  obtain ⟨R, hR⟩ : ∃ R, nextRowS keep x = R := ⟨_, rfl⟩
  rw [hR]
  unfold nextRowS at hR
  have HR := Lib.hid hR
  have h7 := h.tk.st7
  have HF := Lib.hid (fun y (hy : shutK keep x = some y) => shutS_facts keep _ x y hy)
  have hC := shut_S keep hi (by omega) hk9
  unfold rV at hC
  have HC := Lib.hid hC
  unfold rV
  clear h hi hT hB hR hC
  go_enter Tryz.func251, Tryz.ntmps251
  go_wp2_with fail
  refine HC.out.mono ?_
  rintro e w1 (⟨y, hr, rfl, h1⟩ | ⟨hr, k, rfl, hF⟩)
  case inr => exact ⟨rfl, po_up HU.out (.inr ⟨by rw [← HR.out, hr]; rfl, k, rfl, hF⟩)⟩
  have hl1 : y.l.length ≤ 700014 := by have := (HF.out y hr).1; omega
  rw [hr] at HR
  have HR1 : Hid (((tellX y (evB 9)).bind fun x2 => tellX x2 (evB 7)) = R) := Lib.hid HR.out
  obtain ⟨b0, b1, hgl1⟩ := rb_cells (rb_tch HB.out h1.2)
  have HTl := Lib.hid (tell_S t_sec (evB 9) h1 (by omega) (Nat.zero_le _))
  clear h1 hr HR HC HF
  go_wp2_with fail
  refine HTl.out.mono ?_
  rintro e w2 (⟨y2, hr, rfl, h2⟩ | ⟨hr, k, rfl, hF⟩)
  case inr => exact ⟨rfl, po_up HU.out (.inr ⟨by rw [← HR1.out, hr]; rfl, k, rfl, hF⟩)⟩
  have hl2 : y2.l.length ≤ 700015 := by have := (tell_len hr).1; omega
  rw [hr] at HR1
  have hT2 := tell_S t_sec (evB 7) h2 (by omega) (Nat.zero_le _)
  rw [show tellX y2 (evB 7) = R from HR1.out] at hT2
  have HT2 := Lib.hid hT2
  obtain ⟨b0, b1, hgl2⟩ := rb_cells (rb_tch HB.out h2.2)
  clear h2 hr HR1 HTl hT2
  go_wp2_with fail
  refine HT2.out.mono ?_
  rintro e w3 (⟨y3, hr, rfl, h3⟩ | ⟨hr, k, rfl, hF⟩)
  case inr => exact ⟨rfl, po_up HU.out (.inr ⟨hr, k, rfl, hF⟩)⟩
  have H3 := Lib.hid (And.intro hr h3)
  clear h3 hr HT2
  go_wp2
  go_end0
  exact .inl ⟨y3, H3.out.1, rfl, si_up HU.out H3.out.2⟩
end
end Go.Proofs.YtalkjgijmceifaaGreatDoor
namespace Go.Proofs.YtalkjgijmceifaaGreatDoor
open Go.RowKit Go.Maps
set_option maxRecDepth 100000
set_option linter.unusedSimpArgs false
set_option linter.unusedVariables false
set_option linter.unusedSectionVars false
variable [Tab] [Fo]

section
variable {base L p o ck : Nat} {S : List UInt8} {x : Sx} {a : Nat} {w w' : World}
set_option maxHeartbeats 4000000 in
theorem inRow_S (v : Value) (ks : List ByteArray) (h : SecI base L p o ck S x a w) (hv : SRd w v ks) (h0 : 0 < ks.length) (h9 : ks.length ≤ 1000) :
    Calls Tryz.prog 250 #[rV L p, v] w fun e w' => e = .returned (.bool (inRowS x.pos ks)) ∧ Below w.heap.size w w' := by
  obtain ⟨g, W, hg, hW, hB, al, hlt⟩ := box_new w #[.pointer (some ⟨L, 0, none⟩), .pointer (some ⟨p, 0, none⟩)] 278
  have HU := Lib.hid al
  have hi := h.belowS al
  have hvW := hv.below al
  obtain ⟨A2, c2, hv2, hc2⟩ := hv.len
  subst hv2
  obtain ⟨pv, bv, hP, hR, _, _⟩ := hi.blk
  have hR' : W.ownsRow base 280 2 pv x.pos.length (posC x.pos) := hR
  obtain ⟨A, cap, hpv, hcap, hlook⟩ := row_look hR
  subst hpv
  obtain ⟨m, hm⟩ : ∃ m, ks.length = m + 1 := ⟨ks.length - 1, by omega⟩
  have HC := Lib.hid (leading_any W base (.slice A x.pos.length cap) (.slice A2 ks.length c2) x.pos ks hR' hvW hi.pn h9)
  have b1 : W.cell? ⟨g, 1, none⟩ = some (.pointer (some ⟨p, 0, none⟩)) := hB.cell 1
  have p1 : W.cell? ⟨p, 1, none⟩ = some (.slice A x.pos.length cap) := hP.cell 1
  have hm1 : ((ks.length : Int) - 1) = m := by omega
  have hle := leadS_le x.pos ks
  obtain ⟨R, hR0⟩ : ∃ R, inRowS x.pos ks = R := ⟨_, rfl⟩
  rw [hR0]
  unfold inRowS at hR0
  rw [hm, Nat.add_sub_cancel] at hR0
  have HR := Lib.hid hR0
  obtain ⟨ld, hld⟩ : ∃ ld, leadS x.pos ks = ld := ⟨_, rfl⟩
  rw [hld] at HC HR hle
  obtain ⟨n, hn⟩ : ∃ n, x.pos.length = n := ⟨_, rfl⟩
  obtain ⟨kl, hkl⟩ : ∃ kl, ks.length = kl := ⟨_, rfl⟩
  have HLk := Lib.hid hlook
  have hn9 : n ≤ 1000 := by rw [← hn]; exact hi.pn
  rw [hn] at HC p1 hcap hle
  rw [hkl] at HC hm1 hle h9 hc2 ⊢
  have HN := Lib.hid (And.intro hn hkl)
  have hld9 : ld ≤ 1000 := by omega
  unfold rV
  clear h hi hvW hv hP hR hR' hlook hR0 hld hB al
  go_enter Tryz.func250, Tryz.ntmps250
  go_wp2_with fail
  refine HC.out.mono ?_
  rintro e w1 ⟨rfl, hb1⟩
  have HB1 := Lib.hid (HU.out.trans (hb1.mono HU.out.size))
  have d1 := (hb1.cell (cell_lt b1)).trans b1
  have d2 := (hb1.cell (cell_lt p1)).trans p1
  by_cases hlt2 : m < ld
  · have hmn : m < n := by omega
    obtain ⟨g2, hA, hcells⟩ := HLk.out (by have := HN.out; omega)
    have hmp : m < x.pos.length := by have := HN.out; omega
    obtain ⟨_, hcm⟩ := hcells m hmp
    have d3 : w1.cell? ⟨g2, m * 2 + 1, none⟩ = some (.bool x.pos[m].2) := (hb1.cell (cell_lt hcm)).trans hcm
    have hRv : Hid (x.pos[m].2 = R) := Lib.hid (by rw [← HR.out, decide_eq_true hlt2, Bool.true_and, List.getElem?_eq_getElem hmp])
    subst hA
    have hdl : decide ((m : Int) < (ld : Int)) = true := by simp; exact hlt2
    have hmc : m < cap := by omega
    rw [hRv.out] at d3
    clear hb1 HC b1 p1 hcells hcm
    go_wp2
    go_ret
    exact ⟨rfl, HB1.out⟩
  · have hRv : Hid (false = R) := Lib.hid (by rw [← HR.out, decide_eq_false hlt2, Bool.false_and])
    have hdl : decide ((m : Int) < (ld : Int)) = false := by simp; omega
    clear hb1 HC b1 p1 HLk
    go_wp2
    go_ret
    exact ⟨by rw [← hRv.out]; rfl, HB1.out⟩
theorem shutK_lens (keep : Nat) {x y : Sx} (h : shutK keep x = some y) : y.l.length + 2 * y.st.length ≤ x.l.length + 2 * x.st.length ∧ y.bs = x.bs ∧ y.bg = x.bg ∧ depX y = depX x ∧ (TkS x → TkS y) := by
  obtain ⟨a1, a2, a3, a4, a5, a6, _⟩ := shutS_facts keep _ x y h
  exact ⟨a1, a2, a3, a4, a6⟩
theorem shutS_pos (keep : Nat) : ∀ (n : Nat) {x y : Sx}, shutS keep n x = some y → y.pos.length ≤ x.pos.length
  | 0, x, y, h => by rw [shutS] at h; cases h; exact Nat.le_refl _
  | n + 1, x, y, h => by
    rw [shutS] at h
    split at h
    · cases h1 : shut1 x with
      | none => rw [h1] at h; cases h
      | some z =>
        rw [h1] at h
        have h2 := shutS_pos keep n (show shutS keep n z = some y from h)
        obtain ⟨_, a2, _⟩ := shut1_facts h1
        rw [a2, List.length_dropLast] at h2
        omega
    · cases h; exact Nat.le_refl _
set_option maxHeartbeats 4000000 in
theorem move_S (v : Value) (ks : List ByteArray) (h : SecI base L p o ck S x a w) (hv : SRd w v ks) (hks : ∀ k ∈ ks, k.size ≤ 1000) (h9 : ks.length ≤ 1000) (hl : x.l.length ≤ 700000) (hpn : x.pos.length ≤ 800) :
    Calls Tryz.prog 255 #[rV L p, v] w (Po (SI base L p o ck S secObj w) (SF base L p o ck S secObj w) a (moveS ks x)) := by
  obtain ⟨g, W, hg, hW, hB, hlt, hi, hT⟩ := rbox (q := secObj) h
  have HU := Lib.hid hT
  have HB := Lib.hid hB
  have hvW : SRd W v ks := hv.tch hT (fun _ _ => sec_box _ _ _ (.inr rfl))
  have HV := Lib.hid hvW
  have HKS := Lib.hid hks
  obtain ⟨A, c, hv2, hc⟩ := hv.len
  subst hv2
  obtain ⟨pv, bv, hP, hR, _, _⟩ := hi.blk
  obtain ⟨A1, cap, hpv, hcap, _⟩ := row_look hR
  have HC := Lib.hid (leading_any W base pv (.slice A ks.length c) x.pos ks hR hvW hi.pn h9)
  subst hpv
  obtain ⟨b0, b1, _⟩ := rb_cells hB
  have p1 : W.cell? ⟨p, 1, none⟩ = some (.slice A1 x.pos.length cap) := hP.cell 1
  have hpl := hP.lt
  obtain ⟨R, hR0⟩ : ∃ R, moveS ks x = R := ⟨_, rfl⟩
  rw [hR0]
  unfold moveS at hR0
  have hle := leadS_le x.pos ks
  obtain ⟨ld, hld⟩ : ∃ ld, leadS x.pos ks = ld := ⟨_, rfl⟩
  rw [hld] at HC hle hR0
  have HR := Lib.hid hR0
  have h7 := h.tk.st7
  have HI := Lib.hid (And.intro hi (And.intro hl hpn))
  have HF := Lib.hid (fun y (hy : shutK ld x = some y) => And.intro (shutK_lens ld hy) (shutS_pos ld _ hy))
  obtain ⟨kl, hkn⟩ : ∃ kl, ks.length = kl := ⟨_, rfl⟩
  rw [hkn] at HC HV h9 hc hle ⊢
  have HKN := Lib.hid hkn
  have hld9 : ld ≤ 1000 := by omega
  unfold rV
  clear h hi hT hB hv hvW hks hP hR hR0 hld hl hkn
  go_enter Tryz.func255, Tryz.ntmps255
  go_wp2_with fail
  refine HC.out.mono ?_
  rintro e w1 ⟨rfl, hb1⟩
  have hB1 := HB.out.below hb1 HB.out.lt
  have hT1 : Tch base secObj W w1 := Tch.of_below hb1
  have hS1 := shut_S ld (HI.out.1.belowS hb1) (by have := HI.out.2.1; omega) (by omega)
  unfold rV at hS1
  have HS1 := Lib.hid hS1
  have HT1 := Lib.hid (HU.out.trans hT1)
  have HV1 := Lib.hid (HV.out.below hb1)
  obtain ⟨b0, b1, hgl1⟩ := rb_cells hB1
  have HB1 := Lib.hid hB1
  clear hB1 hT1 hS1 hb1 HC p1 hpl HV HU
  go_wp2_with fail
  refine HS1.out.mono ?_
  rintro e w2 (⟨y, hr, rfl, h2⟩ | ⟨hr, k, rfl, hF⟩)
  case inr => exact ⟨rfl, po_up HT1.out (.inr ⟨by rw [← HR.out, hr]; rfl, k, rfl, hF⟩)⟩
  rw [hr] at HR
  have HR2 : Hid (openAll (ks.drop ld) y = R) := Lib.hid HR.out
  have hf := HF.out y hr
  have hly : y.l.length ≤ 700014 := by have := hf.1.1; have := HI.out.2.1; omega
  have hpy : y.pos.length ≤ 800 := Nat.le_trans hf.2 HI.out.2.2
  have HY := Lib.hid (And.intro hly hpy)
  have HV2 := Lib.hid (HV1.out.tch h2.2 (fun _ _ => sec_box _ _ _ (.inr rfl)))
  have HT2 := Lib.hid (HT1.out.trans h2.2)
  have HB2 := Lib.hid (rb_tch HB1.out h2.2)
  have HI2 := Lib.hid h2.1
  clear hf hr HR h2 HF HV1 HT1 HB1 HS1 hly hpy HI b0 b1 hgl1
  have hkl : ld ≤ kl := hle.2
  by_cases hk2 : kl = ld
  · subst hk2
    by_cases hcl : c = kl
    · subst hcl
      go_wp2
      go_loopw [21] (fun i wr => i = .int .i64 0 ∧ w2 = wr) (fun _ _ => 0)
      case atStart => exact ⟨rfl, rfl⟩
      case round =>
        obtain ⟨rfl, rfl⟩ := hrel
        go_wp2
        go_end0
        exact .inl ⟨y, by rw [← HR2.out, List.drop_of_length_le (by have := HKN.out; omega)]; rfl, rfl, HI2.out, HT2.out⟩
    · go_wp2
      go_loopw [21] (fun i wr => i = .int .i64 0 ∧ w2 = wr) (fun _ _ => 0)
      case atStart => exact ⟨rfl, rfl⟩
      case round =>
        obtain ⟨rfl, rfl⟩ := hrel
        go_wp2
        go_end0
        exact .inl ⟨y, by rw [← HR2.out, List.drop_of_length_le (by have := HKN.out; omega)]; rfl, rfl, HI2.out, HT2.out⟩
  · have hcl : ¬ c = ld := by omega
    obtain ⟨g3, off, rfl, _⟩ := SRd.cell (j := ld) HV2.out (by have := HKN.out; omega)
    obtain ⟨m, hm⟩ : ∃ m, kl - ld = m := ⟨_, rfl⟩
    have hm2 : kl = ld + m := by omega
    subst hm2
    have HR3 : Hid (openAll ((ks.drop ld).drop 0) y = R) := Lib.hid HR2.out
    have hst := HI2.out.tk.st7
    clear HR2 hm
    go_wp2
    go_loopw [21] (fun i wr => ∃ (j : Nat) (z : Sx), j ≤ m ∧ i = .int .i64 j ∧ Hid (SI base L p o ck S secObj w2 z a wr) ∧ Hid (openAll ((ks.drop ld).drop j) z = R) ∧ Hid (z.l.length + 3 * y.st.length ≤ y.l.length + 3 * z.st.length ∧ z.pos.length + y.st.length ≤ y.pos.length + z.st.length)) (fun i _ => m - (intOf i).toNat)
    case atStart => exact ⟨0, y, Nat.zero_le _, rfl, Lib.hid (si_refl HI2.out), HR3, Lib.hid ⟨Nat.le_refl _, Nat.le_refl _⟩⟩
    case round =>
      obtain ⟨j, z, hj, rfl, HZ, HRz, HLz⟩ := hrel
      clear HR3
      by_cases hjm : j < m
      · have hjk : ld + j < ks.length := by have := HKN.out; omega
        obtain ⟨g4, off4, e4, hcell⟩ := SRd.cell (j := ld + j) (HV2.out.tch HZ.out.2 (fun _ _ => sec_box _ _ _ (.inr rfl))) hjk
        injection e4 with e4
        injection e4 with e5 e6
        subst e5 e6
        rw [← Nat.add_assoc] at hcell
        have hz7 := HZ.out.1.tk.st7
        have hjd : j < (ks.drop ld).length := by rw [List.length_drop]; omega
        have hkj : (ks.drop ld)[j]'hjd = ks[ld + j] := List.getElem_drop ..
        have hsz : (ks[ld + j]).size ≤ 1000 := HKS.out _ (List.getElem_mem hjk)
        obtain ⟨s, hs⟩ : ∃ s, ks[ld + j] = s := ⟨_, rfl⟩
        have HRs : Hid ((openS (s, false) z).bind (openAll ((ks.drop ld).drop (j + 1))) = R) := Lib.hid (by
          have h1 := HRz.out
          rw [List.drop_eq_getElem_cons hjd, hkj, hs, openAll] at h1
          exact h1)
        rw [hs] at hcell hsz
        obtain ⟨b0, b1, hglr⟩ := rb_cells (rb_tch HB2.out HZ.out.2)
        have hO := open_S (s, false) HZ.out.1 (by have := HLz.out.1; have := HY.out.1; omega) hsz (by have := HLz.out.2; have := HY.out.2; omega)
        unfold rV at hO
        have HO := Lib.hid hO
        have HFo := Lib.hid (fun z' (hz : openS (s, false) z = some z') => And.intro (openS_facts hsz hz) (openS_st hsz hz))
        clear hO hs hkj hsz hz7 HRz
        go_wp2_with fail
        refine HO.out.mono ?_
        rintro e w4 (⟨z2, hr, rfl, h4⟩ | ⟨hr, k, rfl, hF⟩)
        case inr => exact ⟨rfl, po_up HT2.out (po_up HZ.out.2 (.inr ⟨by rw [← HRs.out, hr]; rfl, k, rfl, hF⟩))⟩
        have hff := HFo.out z2 hr
        rw [hr] at HRs
        have HL4 : Hid (z2.l.length + 3 * y.st.length ≤ y.l.length + 3 * z2.st.length ∧ z2.pos.length + y.st.length ≤ y.pos.length + z2.st.length) := Lib.hid ⟨by have := hff.1.1; have := HLz.out.1; omega, by have := hff.2; have := HLz.out.2; omega⟩
        have HI4 := Lib.hid (si_up HZ.out.2 h4)
        clear hff hr h4 HFo HO
        go_wp2
        go_roundw
        case rel => exact ⟨j + 1, z2, hjm, by go_num, HI4, Lib.hid HRs.out, HL4⟩
        case measure => first | (simp [intOf]; done) | (simp [intOf]; omega)
      · have hje : j = m := by omega
        subst hje
        have HE : Hid (R = some z) := Lib.hid (by rw [← HRz.out, List.drop_of_length_le (by rw [List.length_drop]; have := HKN.out; omega)]; rfl)
        clear HRz
        go_wp2
        go_end0
        exact .inl ⟨z, HE.out, rfl, si_up HT2.out HZ.out⟩
end
end Go.Proofs.YtalkjgijmceifaaGreatDoor

/-
  Same: the reference's, the program's (by slices.EqualFunc), and the reference's of lists of events.
  The program's Same, by slices.EqualFunc.
-/
import Derived.Test.YtfilonbhcalkoaaGreatDoorTrM07
import Derived.Test.YtfilonbhcalkoaaGreatDoorTrM13
import Derived.Test.YtfilonbhcalkoaaGreatDoorTrM18
import Derived.Test.YtfilonbhcalkoaaGreatDoorTrM08
namespace Go.Proofs.YtfilonbhcalkoaaGreatDoor
open Go.RowKit Go.Maps
set_option maxRecDepth 100000
set_option linter.unusedSimpArgs false

/-- Two texts as the walk compares them. -/
def teq (x y : ByteArray) : Bool := decide (x = y)
theorem teq_spell (x y : ByteArray) : (x.toList == y.toList) = teq x y := by
  unfold teq
  by_cases h : x = y
  · subst h; simp
  · rw [(str_diff h).1, decide_eq_false h]
theorem sameN_unfold (k k' : Int) (t t' v v' : ByteArray) (l l' : List Nd) : sameN (.mk k t v l) (.mk k' t' v' l') = (decide (k = k') && (decide (t = t') && (decide (v = v') && sameL l l'))) := by simp only [sameN]
def dN : Nd := .mk 0 ⟨#[]⟩ ⟨#[]⟩ []
theorem getD_at {l : List Nd} {j : Nat} (h : j < l.length) : l.getD j dN = l[j] := by rw [List.getD_eq_getElem?_getD, List.getElem?_eq_getElem h]; rfl
theorem sameL_at {l m : List Nd} (h : l.length = m.length) {j : Nat} (hj : j < l.length) (hp : sameL (l.take j) (m.take j) = true) :
    sameL (l.take (j + 1)) (m.take (j + 1)) = sameN l[j] (m[j]'(by omega)) ∧ (sameN l[j] (m[j]'(by omega)) = false → sameL l m = false) := by
  have h1 : sameL (l.take (j + 1)) (m.take (j + 1)) = sameN l[j] (m[j]'(by omega)) := by
    rw [List.take_succ_eq_append_getElem hj, List.take_succ_eq_append_getElem (by omega : j < m.length), sameL_snoc _ _ _ _ (by simp; omega), hp, Bool.true_and]
  refine ⟨h1, fun hn => ?_⟩
  rw [Bool.eq_false_iff]
  intro hs
  have := (sameL_iff _ _).1 hs
  subst this
  rw [sameN_refl] at hn
  cases hn
theorem sameL_diff {l m : List Nd} (h : l.length ≠ m.length) : sameL l m = false := by
  rw [Bool.eq_false_iff]
  exact fun hs => h (sameL_len hs)
theorem sameL_atD {l m : List Nd} (h : l.length = m.length) {j : Nat} (hj : j < l.length) (hp : sameL (l.take j) (m.take j) = true) :
    sameL (l.take (j + 1)) (m.take (j + 1)) = sameN (l.getD j dN) (m.getD j dN) ∧ (sameN (l.getD j dN) (m.getD j dN) = false → sameL l m = false) := by
  rw [getD_at hj, getD_at (by omega : j < m.length)]
  exact sameL_at h hj hp
set_option maxHeartbeats 4000000 in
theorem rsame_any (n : Nd) : ∀ (m : Nd) (S S' : Nat → Nat → Prop) (A A' : Option Addr) (c c' : Nat) (w : World), NAt S w n A c → NAt S' w m A' c' →
    Calls Tryz.prog 19 #[.agg #[.int .i64 n.k, .string n.t, .string n.v, .slice A n.kids.length c], .agg #[.int .i64 m.k, .string m.t, .string m.v, .slice A' m.kids.length c']] w fun e w' => e = .returned (.bool (sameN n m)) ∧ Below w.heap.size w w' := by
  induction n using Nd.ind with
  | h k t v l ih =>
    intro m S S' A A' c c' w hA hA'
    obtain ⟨k', t', v', l'⟩ := m
    simp only [Nd.k, Nd.t, Nd.v, Nd.kids]
    obtain ⟨hlc, hcm, hkids⟩ := (NAt.def_ _ _ _).1 hA
    obtain ⟨hlc', hcm', hkids'⟩ := (NAt.def_ _ _ _).1 hA'
    simp only [Nd.kids] at hlc hkids hlc' hkids'
    have hcm2 : c ≤ 9223372036854775807 := by simpa [maxLen] using hcm
    have hcm2' : c' ≤ 9223372036854775807 := by simpa [maxLen] using hcm'
    have hbel : ∀ o1 o2, Below w.heap.size w ((w.alloc o1).alloc o2) := fun o1 o2 => ((Below.refl _ w).alloc (Nat.le_refl _) _).alloc (by simp) _
    rw [sameN_unfold]
    by_cases hk : k = k'
    case neg =>
      rw [decide_eq_false hk, Bool.false_and]
      have z1 := ibeq hk
      have z2 := ibne hk
      clear ih hkids hkids' hA hA' hk
      go_enter Tryz.func19, Tryz.ntmps19
      go_wp2
      go_ret
      exact ⟨rfl, hbel _ _⟩
    case pos =>
      subst hk
      rw [decide_eq_true rfl, Bool.true_and]
      by_cases ht : t = t'
      case neg =>
        rw [decide_eq_false ht, Bool.false_and]
        obtain ⟨z1, z2⟩ := str_diff ht
        clear ih hkids hkids' hA hA' ht
        go_enter Tryz.func19, Tryz.ntmps19
        go_wp2
        go_ret
        exact ⟨rfl, hbel _ _⟩
      case pos =>
        subst ht
        rw [decide_eq_true rfl, Bool.true_and]
        by_cases hv : v = v'
        case neg =>
          rw [decide_eq_false hv, Bool.false_and]
          obtain ⟨z1, z2⟩ := str_diff hv
          clear ih hkids hkids' hA hA' hv
          go_enter Tryz.func19, Tryz.ntmps19
          go_wp2
          go_ret
          exact ⟨rfl, hbel _ _⟩
        case pos =>
          subst hv
          rw [decide_eq_true rfl, Bool.true_and]
          by_cases hl : l.length = l'.length
          case neg =>
            rw [sameL_diff hl]
            have z1 := ibeq (a := (l.length : Int)) (b := l'.length) (by omega)
            have z2 := ibne (a := (l.length : Int)) (b := l'.length) (by omega)
            clear ih hkids hkids' hA hA' hl
            go_enter Tryz.func19, Tryz.ntmps19
            go_wp2
            go_ret
            exact ⟨rfl, hbel _ _⟩
          case pos =>
            have hla := fun (j : Nat) (hj : j < l.length) hp => sameL_atD hl hj hp
            have hkids2 : 0 < l.length → ∃ b o, A' = some ⟨b, o, none⟩ ∧ ∀ j, j < l.length → KidAt S' w b (o + j * 4) (l'.getD j dN) := fun hp => by
              obtain ⟨b, o, h1, _, h3⟩ := hkids' (by omega)
              exact ⟨b, o, h1, fun j hj => by rw [getD_at (by omega)]; exact h3 j (by omega)⟩
            have HL := Lib.hid hl
            rw [← hl] at hlc' ⊢
            clear hA hA' hkids' hl
            obtain ⟨W0, hW0⟩ : ∃ W0, (w.alloc (.cells #[.int .i64 k, .string t, .string v, .slice A l.length c] 24)).alloc (.cells #[.int .i64 k, .string t, .string v, .slice A' l.length c'] 24) = W0 := ⟨_, rfl⟩
            have HB := Lib.hid (show Below w.heap.size w W0 by rw [← hW0]; exact hbel _ _)
            have HX := Lib.hid (show Blk W0 w.heap.size 24 #[.int .i64 k, .string t, .string v, .slice A l.length c] by rw [← hW0]; exact (Blk.new w _ _).alloc _)
            have HY := Lib.hid (show Blk W0 (w.heap.size + 1) 24 #[.int .i64 k, .string t, .string v, .slice A' l.length c'] by
              rw [← hW0]
              have := Blk.new (w.alloc (.cells #[.int .i64 k, .string t, .string v, .slice A l.length c] 24)) 24 #[.int .i64 k, .string t, .string v, .slice A' l.length c']
              rw [World.size_alloc] at this
              exact this)
            have hs0 : W0.heap.size = w.heap.size + 2 := by rw [← hW0]; simp
            have c0 : W0.cell? ⟨w.heap.size, 0, none⟩ = some (.int .i64 k) := HX.out.cell 0
            have c1 : W0.cell? ⟨w.heap.size, 1, none⟩ = some (.string t) := HX.out.cell 1
            have c2 : W0.cell? ⟨w.heap.size, 2, none⟩ = some (.string v) := HX.out.cell 2
            have c3 : W0.cell? ⟨w.heap.size, 3, none⟩ = some (.slice A l.length c) := HX.out.cell 3
            have d0 : W0.cell? ⟨w.heap.size + 1, 0, none⟩ = some (.int .i64 k) := HY.out.cell 0
            have d1 : W0.cell? ⟨w.heap.size + 1, 1, none⟩ = some (.string t) := HY.out.cell 1
            have d2 : W0.cell? ⟨w.heap.size + 1, 2, none⟩ = some (.string v) := HY.out.cell 2
            have d3 : W0.cell? ⟨w.heap.size + 1, 3, none⟩ = some (.slice A' l.length c') := HY.out.cell 3
            go_enter Tryz.func19, Tryz.ntmps19
            go_wp2
            go_loopw [5] (fun i wr => ∃ j : Nat, j ≤ l.length ∧ i = .int .i64 (j : Int) ∧ Hid (sameL (l.take j) (l'.take j) = true) ∧ Hid (Below W0.heap.size W0 wr)) (fun i _ => l.length - (intOf i).toNat)
            case atStart => exact ⟨0, Nat.zero_le _, rfl, Lib.hid rfl, Lib.hid (Below.refl _ _)⟩
            case round =>
              obtain ⟨j, hj, rfl, HP, HW⟩ := hrel
              have hbw := HB.out.trans (HW.out.mono HB.out.size)
              have x3 : wr.cell? ⟨w.heap.size, 3, none⟩ = some (.slice A l.length c) := (HX.out.below HW.out HX.out.lt).cell 3
              have y3 : wr.cell? ⟨w.heap.size + 1, 3, none⟩ = some (.slice A' l.length c') := (HY.out.below HW.out HY.out.lt).cell 3
              by_cases hlt : j < l.length
              case pos =>
                obtain ⟨b, o, rfl, _, hkid⟩ := hkids (by omega)
                obtain ⟨b', o', rfl, hkid'⟩ := hkids2 (by omega)
                have hk1 := hkid j hlt
                have hih0 := ih _ (List.getElem_mem hlt)
                rw [← getD_at hlt] at hk1 hih0
                obtain ⟨B, cB, q0, q1, q2, q3, hn1⟩ := kid_cells hk1 hbw
                obtain ⟨B', cB', p0, p1, p2, p3, hn2⟩ := kid_cells (hkid' j hlt) hbw
                obtain ⟨ga1, ga2⟩ := hla j hlt HP.out
                have hih := fun (w' : World) (h : Below wr.heap.size wr w') => hih0 _ S S' B B' cB cB' w' (hn1.below h) (hn2.below h)
                have hjc : j < c := by omega
                have hjc' : j < c' := by omega
                clear hkid hkid' hkids hkids2 hn1 hn2 hla ih hih0 hk1
                generalize l.getD j dN = kd at *
                generalize l'.getD j dN = kd' at *
                go_wp2
                refine region_g [11] (S := (fun W => W.cell? ⟨w.heap.size, 3, none⟩ = some (.slice (some ⟨b, o, none⟩) l.length c) ∧ W.cell? ⟨w.heap.size + 1, 3, none⟩ = some (.slice (some ⟨b', o', none⟩) l.length c') ∧ W.cell? ⟨b, o + j * 4, none⟩ = some (.int .i64 kd.k) ∧ W.cell? ⟨b, o + j * 4 + 1, none⟩ = some (.string kd.t) ∧ W.cell? ⟨b, o + j * 4 + 2, none⟩ = some (.string kd.v) ∧ W.cell? ⟨b, o + j * 4 + 3, none⟩ = some (.slice B kd.kids.length cB) ∧ W.cell? ⟨b', o' + j * 4, none⟩ = some (.int .i64 kd'.k) ∧ W.cell? ⟨b', o' + j * 4 + 1, none⟩ = some (.string kd'.t) ∧ W.cell? ⟨b', o' + j * 4 + 2, none⟩ = some (.string kd'.v) ∧ W.cell? ⟨b', o' + j * 4 + 3, none⟩ = some (.slice B' kd'.kids.length cB'))) (by kernel_rfl) ⟨x3, y3, q0, q1, q2, q3, p0, p1, p2, p3⟩ (fun hH => ?_)
                refine g_take (i := 0) (v := .pointer (some ⟨w.heap.size, 3, none⟩)) (by rfl) (by kernel_rfl) (by kernel_rfl) (by kernel_rfl) (by kernel_rfl) (fun _ _ _ h => (by cases h.1)) (Or.inl ⟨by rfl, fun W hS => (by obtain ⟨s1, s2, s3, s4, s5, s6, s7, s8, s9, s10⟩ := hS; go_simp)⟩) hH ?_
                simp only [Act.put, List.setIfInBounds_toArray, List.set_cons_zero, List.set_cons_succ]
                refine g_take (i := 1) (v := .slice (some ⟨b, o, none⟩) l.length c) (by rfl) (by kernel_rfl) (by kernel_rfl) (by kernel_rfl) (by kernel_rfl) (fun _ _ _ h => (by cases h.1)) (Or.inl ⟨by rfl, fun W hS => (by obtain ⟨s1, s2, s3, s4, s5, s6, s7, s8, s9, s10⟩ := hS; go_simp)⟩) hH ?_
                simp only [Act.put, List.setIfInBounds_toArray, List.set_cons_zero, List.set_cons_succ]
                refine g_take (i := 2) (v := .int .i64 (j : Int)) (by rfl) (by kernel_rfl) (by kernel_rfl) (by kernel_rfl) (by kernel_rfl) (fun _ _ _ h => (by cases h.1)) (Or.inl ⟨by rfl, fun W hS => (by obtain ⟨s1, s2, s3, s4, s5, s6, s7, s8, s9, s10⟩ := hS; go_simp)⟩) hH ?_
                simp only [Act.put, List.setIfInBounds_toArray, List.set_cons_zero, List.set_cons_succ]
                refine g_take (i := 3) (v := .pointer (some ⟨b, o + j * 4, none⟩)) (by rfl) (by kernel_rfl) (by kernel_rfl) (by kernel_rfl) (by kernel_rfl) (fun _ _ _ h => (by cases h.1)) (Or.inl ⟨by rfl, fun W hS => (by obtain ⟨s1, s2, s3, s4, s5, s6, s7, s8, s9, s10⟩ := hS; go_simp)⟩) hH ?_
                simp only [Act.put, List.setIfInBounds_toArray, List.set_cons_zero, List.set_cons_succ]
                refine g_take (i := 4) (v := .agg #[.int .i64 kd.k, .string kd.t, .string kd.v, .slice B kd.kids.length cB]) (by rfl) (by kernel_rfl) (by kernel_rfl) (by kernel_rfl) (by kernel_rfl) (fun _ _ _ h => (by cases h.1)) (Or.inl ⟨by rfl, fun W hS => (by obtain ⟨s1, s2, s3, s4, s5, s6, s7, s8, s9, s10⟩ := hS; go_simp)⟩) hH ?_
                simp only [Act.put, List.setIfInBounds_toArray, List.set_cons_zero, List.set_cons_succ]
                refine g_take (i := 5) (v := .pointer (some ⟨w.heap.size + 1, 3, none⟩)) (by rfl) (by kernel_rfl) (by kernel_rfl) (by kernel_rfl) (by kernel_rfl) (fun _ _ _ h => (by cases h.1)) (Or.inl ⟨by rfl, fun W hS => (by obtain ⟨s1, s2, s3, s4, s5, s6, s7, s8, s9, s10⟩ := hS; go_simp)⟩) hH ?_
                simp only [Act.put, List.setIfInBounds_toArray, List.set_cons_zero, List.set_cons_succ]
                refine g_take (i := 6) (v := .slice (some ⟨b', o', none⟩) l.length c') (by rfl) (by kernel_rfl) (by kernel_rfl) (by kernel_rfl) (by kernel_rfl) (fun _ _ _ h => (by cases h.1)) (Or.inl ⟨by rfl, fun W hS => (by obtain ⟨s1, s2, s3, s4, s5, s6, s7, s8, s9, s10⟩ := hS; go_simp)⟩) hH ?_
                simp only [Act.put, List.setIfInBounds_toArray, List.set_cons_zero, List.set_cons_succ]
                refine g_take (i := 7) (v := .int .i64 (j : Int)) (by rfl) (by kernel_rfl) (by kernel_rfl) (by kernel_rfl) (by kernel_rfl) (fun _ _ _ h => (by cases h.1)) (Or.inl ⟨by rfl, fun W hS => (by obtain ⟨s1, s2, s3, s4, s5, s6, s7, s8, s9, s10⟩ := hS; go_simp)⟩) hH ?_
                simp only [Act.put, List.setIfInBounds_toArray, List.set_cons_zero, List.set_cons_succ]
                refine g_take (i := 8) (v := .pointer (some ⟨b', o' + j * 4, none⟩)) (by rfl) (by kernel_rfl) (by kernel_rfl) (by kernel_rfl) (by kernel_rfl) (fun _ _ _ h => (by cases h.1)) (Or.inl ⟨by rfl, fun W hS => (by obtain ⟨s1, s2, s3, s4, s5, s6, s7, s8, s9, s10⟩ := hS; go_simp)⟩) hH ?_
                simp only [Act.put, List.setIfInBounds_toArray, List.set_cons_zero, List.set_cons_succ]
                refine g_take (i := 9) (v := .agg #[.int .i64 kd'.k, .string kd'.t, .string kd'.v, .slice B' kd'.kids.length cB']) (by rfl) (by kernel_rfl) (by kernel_rfl) (by kernel_rfl) (by kernel_rfl) (fun _ _ _ h => (by cases h.1)) (Or.inl ⟨by rfl, fun W hS => (by obtain ⟨s1, s2, s3, s4, s5, s6, s7, s8, s9, s10⟩ := hS; go_simp)⟩) hH ?_
                simp only [Act.put, List.setIfInBounds_toArray, List.set_cons_zero, List.set_cons_succ]
                refine g_one (i := 10) (by kernel_rfl) (by rfl) (fun K hK => ?_)
                go_simp
                have hb1 : Below wr.heap.size wr wr.drew := below_drew (Below.refl _ _)
                refine (hih wr.drew hb1).mono ?_
                rintro e w5 ⟨rfl, hb5⟩
                have hb6 : Below wr.heap.size wr w5 := hb1.trans hb5
                refine hK.out _ _ (fun _ => ⟨(hb6.cell (cell_lt x3)).trans x3, (hb6.cell (cell_lt y3)).trans y3, (hb6.cell (cell_lt q0)).trans q0, (hb6.cell (cell_lt q1)).trans q1, (hb6.cell (cell_lt q2)).trans q2, (hb6.cell (cell_lt q3)).trans q3, (hb6.cell (cell_lt p0)).trans p0, (hb6.cell (cell_lt p1)).trans p1, (hb6.cell (cell_lt p2)).trans p2, (hb6.cell (cell_lt p3)).trans p3⟩) (fun _ => ?_)
                clear hK K hH hih x3 y3 q0 q1 q2 q3 p0 p1 p2 p3
                refine g_one (i := 11) (by kernel_rfl) (by rfl) (fun K hK => ?_)
                go_simp
                refine hK.out _ _ (fun h => absurd (by decide) h) (fun _ => ?_)
                clear hK K
                refine g_done (by kernel_rfl) ⟨rfl, ?_⟩ _
                have HG1 := Lib.hid ga1
                have hW5 := HW.out.trans (hb6.mono HW.out.size)
                cases hs : sameN kd kd' with
                | true =>
                  have HS := Lib.hid hs
                  clear hs ga1 ga2 hb6 hb1 hb5
                  go_wp2
                  go_roundw
                  case rel => exact ⟨j + 1, hlt, by go_num, Lib.hid (by rw [HG1.out, HS.out]), Lib.hid hW5⟩
                  case measure => first | (simp [intOf]; done) | (simp [intOf]; omega)
                | false =>
                  have HS := Lib.hid (ga2 hs)
                  clear hs ga1 ga2 hb6 hb1 hb5
                  go_wp2
                  go_ret
                  exact ⟨by rw [HS.out]; rfl, HB.out.trans (hW5.mono HB.out.size)⟩
              case neg =>
                have hje : j = l.length := by omega
                subst hje
                have hp := HP.out
                rw [List.take_length, HL.out, List.take_length] at hp
                have HPP := Lib.hid hp
                clear hp hla
                go_wp2
                go_ret
                exact ⟨by rw [HPP.out]; rfl, HB.out.trans (HW.out.mono HB.out.size)⟩
end Go.Proofs.YtfilonbhcalkoaaGreatDoor
namespace Go.Proofs.YtfilonbhcalkoaaGreatDoor
open Go.RowKit Go.Maps
set_option maxRecDepth 100000

/-- What holds of Same at a node. -/
def SameAt (n : Nd) : Prop := ∀ (m : Nd) (S S' : Nat → Nat → Prop) (A A' : Option Addr) (c c' : Nat) (w : World), NAt S w n A c → NAt S' w m A' c' →
    Calls Tryz.prog 20 #[.agg #[.int .i64 n.k, .string n.t, .string n.v, .slice A n.kids.length c], .agg #[.int .i64 m.k, .string m.t, .string m.v, .slice A' m.kids.length c']] w fun e w' => e = .returned (.bool (sameN n m)) ∧ Below w.heap.size w w'

set_option maxHeartbeats 4000000 in
theorem equalf_any (l l' : List Nd) (ih : ∀ n ∈ l, SameAt n) (S S' : Nat → Nat → Prop) (k k' : Int) (t t' v v' : ByteArray) (A A' : Option Addr) (c c' : Nat) (w : World) (hA : NAt S w (.mk k t v l) A c) (hA' : NAt S' w (.mk k' t' v' l') A' c') :
    Calls Tryz.prog 34 #[.slice A l.length c, .slice A' l'.length c', .func (.func 20) #[] #[]] w fun e w' => e = .returned (.bool (sameL l l')) ∧ Below w.heap.size w w' := by
  obtain ⟨hlc, hcm, hkids⟩ := (NAt.def_ _ _ _).1 hA
  obtain ⟨hlc', hcm', hkids'⟩ := (NAt.def_ _ _ _).1 hA'
  simp only [Nd.kids] at hlc hkids hlc' hkids'
  have hcm2 : c ≤ 9223372036854775807 := by simpa [maxLen] using hcm
  have hcm2' : c' ≤ 9223372036854775807 := by simpa [maxLen] using hcm'
  by_cases hl : l.length = l'.length
  case neg =>
    rw [sameL_diff hl]
    have z1 := ibeq (a := (l.length : Int)) (b := l'.length) (by omega)
    have z2 := ibne (a := (l.length : Int)) (b := l'.length) (by omega)
    clear ih hkids hkids' hA hA' hl
    go_enter Tryz.func34, Tryz.ntmps34
    go_wp2
    go_ret
    exact ⟨rfl, Below.refl _ _⟩
  case pos =>
    have hla := fun (j : Nat) (hj : j < l.length) hp => sameL_atD hl hj hp
    have hkids2 : 0 < l.length → ∃ b o, A' = some ⟨b, o, none⟩ ∧ ∀ j, j < l.length → KidAt S' w b (o + j * 4) (l'.getD j dN) := fun hp => by
      obtain ⟨b, o, h1, _, h3⟩ := hkids' (by omega)
      exact ⟨b, o, h1, fun j hj => by rw [getD_at (by omega)]; exact h3 j (by omega)⟩
    have HL := Lib.hid hl
    rw [← hl] at hlc' ⊢
    clear hA hA' hkids' hl
    go_enter Tryz.func34, Tryz.ntmps34
    go_wp2
    go_loopw [17] (fun i wr => ∃ j : Nat, j ≤ l.length ∧ i = .int .i64 (j : Int) ∧ Hid (sameL (l.take j) (l'.take j) = true) ∧ Hid (Below w.heap.size w wr)) (fun i _ => l.length - (intOf i).toNat)
    case atStart => exact ⟨0, Nat.zero_le _, rfl, Lib.hid rfl, Lib.hid (Below.refl _ _)⟩
    case round =>
      obtain ⟨j, hj, rfl, HP, HW⟩ := hrel
      by_cases hlt : j < l.length
      case pos =>
        obtain ⟨b, o, rfl, _, hkid⟩ := hkids (by omega)
        obtain ⟨b', o', rfl, hkid'⟩ := hkids2 (by omega)
        have hk1 := hkid j hlt
        have hih0 := ih _ (List.getElem_mem hlt)
        rw [← getD_at hlt] at hk1 hih0
        obtain ⟨B, cB, q0, q1, q2, q3, hn1⟩ := kid_cells hk1 HW.out
        obtain ⟨B', cB', p0, p1, p2, p3, hn2⟩ := kid_cells (hkid' j hlt) HW.out
        obtain ⟨ga1, ga2⟩ := hla j hlt HP.out
        have hjc : j < c := by omega
        have hjc' : j < c' := by omega
        unfold SameAt at hih0
        clear hkid hkid' hkids hkids2 hla ih hk1
        generalize l.getD j dN = kd at *
        generalize l'.getD j dN = kd' at *
        have hal := fun o1 o2 => (show Below wr.heap.size wr ((wr.alloc o1).alloc o2) from ((Below.refl _ wr).alloc (Nat.le_refl _) _).alloc (by simp) _)
        have hih := fun o1 o2 => hih0 kd' S S' B B' cB cB' ((wr.alloc o1).alloc o2) (hn1.below (hal o1 o2)) (hn2.below (hal o1 o2))
        have a0 := fun o1 => ((Below.refl wr.heap.size wr).alloc (Nat.le_refl _) o1).cell (cell_lt p0) |>.trans p0
        have a1 := fun o1 => ((Below.refl wr.heap.size wr).alloc (Nat.le_refl _) o1).cell (cell_lt p1) |>.trans p1
        have a2 := fun o1 => ((Below.refl wr.heap.size wr).alloc (Nat.le_refl _) o1).cell (cell_lt p2) |>.trans p2
        have a3 := fun o1 => ((Below.refl wr.heap.size wr).alloc (Nat.le_refl _) o1).cell (cell_lt p3) |>.trans p3
        have HG1 := Lib.hid ga1
        clear hn1 hn2 hih0
        cases hs : sameN kd kd' with
        | true =>
          rw [hs] at hih
          have HS := Lib.hid hs
          clear hs ga1 ga2
          go_wp2_with (first
            | (go_at_call 20; refine (hih _ _).mono ?_; clear hih; rintro e w5 ⟨rfl, hb5⟩))
          have hb6 := (hal _ _).trans (hb5.mono (hal _ _).size)
          go_roundw
          case rel => exact ⟨j + 1, hlt, by go_num, Lib.hid (by rw [HG1.out, HS.out]), Lib.hid (HW.out.trans (hb6.mono HW.out.size))⟩
          case measure => first | (simp [intOf]; done) | (simp [intOf]; omega)
        | false =>
          rw [hs] at hih
          have HS := Lib.hid (ga2 hs)
          clear hs ga1 ga2
          go_wp2_with (first
            | (go_at_call 20; refine (hih _ _).mono ?_; clear hih; rintro e w5 ⟨rfl, hb5⟩))
          have hb6 := (hal _ _).trans (hb5.mono (hal _ _).size)
          go_ret
          exact ⟨by rw [HS.out]; rfl, HW.out.trans (hb6.mono HW.out.size)⟩
      case neg =>
        have hje : j = l.length := by omega
        subst hje
        have hp := HP.out
        rw [List.take_length, HL.out, List.take_length] at hp
        have HPP := Lib.hid hp
        clear hp hla
        go_wp2
        go_ret
        exact ⟨by rw [HPP.out]; rfl, HW.out⟩

set_option maxHeartbeats 4000000 in
theorem tsame_any (n : Nd) : SameAt n := by
  induction n using Nd.ind with
  | h k t v l ih =>
    intro m S S' A A' c c' w hA hA'
    obtain ⟨k', t', v', l'⟩ := m
    simp only [Nd.k, Nd.t, Nd.v, Nd.kids]
    have hbel : ∀ o1 o2, Below w.heap.size w ((w.alloc o1).alloc o2) := fun o1 o2 => ((Below.refl _ w).alloc (Nat.le_refl _) _).alloc (by simp) _
    rw [sameN_unfold]
    by_cases hk : k = k'
    case neg =>
      rw [decide_eq_false hk, Bool.false_and]
      have z1 := ibeq hk
      have z2 := ibne hk
      clear ih hA hA' hk
      go_enter Tryz.func20, Tryz.ntmps20
      go_wp2
      go_ret
      exact ⟨rfl, hbel _ _⟩
    case pos =>
      subst hk
      rw [decide_eq_true rfl, Bool.true_and]
      by_cases ht : t = t'
      case neg =>
        rw [decide_eq_false ht, Bool.false_and]
        obtain ⟨z1, z2⟩ := str_diff ht
        clear ih hA hA' ht
        go_enter Tryz.func20, Tryz.ntmps20
        go_wp2
        go_ret
        exact ⟨rfl, hbel _ _⟩
      case pos =>
        subst ht
        rw [decide_eq_true rfl, Bool.true_and]
        by_cases hv : v = v'
        case neg =>
          rw [decide_eq_false hv, Bool.false_and]
          obtain ⟨z1, z2⟩ := str_diff hv
          clear ih hA hA' hv
          go_enter Tryz.func20, Tryz.ntmps20
          go_wp2
          go_ret
          exact ⟨rfl, hbel _ _⟩
        case pos =>
          subst hv
          rw [decide_eq_true rfl, Bool.true_and]
          have hE := fun w' (hb : Below w.heap.size w w') => equalf_any l l' ih S S' k k t t v v A A' c c' w' (hA.below hb) (hA'.below hb)
          have hE2 := fun o1 o2 => hE _ (hbel o1 o2)
          clear hE hA hA' ih
          generalize sameL l l' = r at *
          go_enter Tryz.func20, Tryz.ntmps20
          go_wp2_with (first
            | (go_at_call 34; refine (hE2 _ _).mono ?_; clear hE2; rintro e w5 ⟨rfl, hb5⟩))
          go_ret
          exact ⟨rfl, (hbel _ _).trans (hb5.mono (hbel _ _).size)⟩
end Go.Proofs.YtfilonbhcalkoaaGreatDoor

/-
  The reference's Step and Whole (hexaplaref05): the machine's answers.
  The walks of EventsWhole and EventsBegins.
-/
import Derived.Test.YtmnijjbhkbdojaaGreatDoorEvWaq
import Derived.Test.YtmnijjbhkbdojaaGreatDoorEvWbq
import Derived.Test.YtmnijjbhkbdojaaGreatDoorEvWcq
import Derived.Test.YtmnijjbhkbdojaaGreatDoorEvXY
import Derived.StillTailTactics
import Derived.Test.YtmnijjbhkbdojaaGreatDoorEvGM
import Derived.IntWalk
namespace Go.Proofs.YtmnijjbhkbdojaaGreatDoor
open Go.RowKit
set_option maxRecDepth 100000

theorem rstep_any (w : World) (v : Value) (had : List Ev) (st : List Pt) (x : Ev) (hv : ERead w v had) (hn : had.length ≤ 100000) (hs : x.t.size ≤ 1099511627776) (hs2 : x.v.size ≤ 1099511627776) (hR : Rel had st) (hG : Good st) :
    Calls Tryz.prog 9 #[v, evV x] w (RSPost w st x) := by
  cases hf : formedB x with
  | false => exact rstep_bad w v st x hs hs2 (by obtain ⟨p, r, rfl⟩ := hG.ne; simp) hf
  | true =>
    cases ha : atL had with
    | nil => exact rstep_top w v had st x hv hn hs hs2 hf hR ha
    | cons pl ps =>
      obtain ⟨p, r, rfl, hI, hl⟩ := rel_inner hR ha
      have hG6 : r.length ≤ 6 := by have := hG.2; simpa using this
      have hop := hI.2.2.1
      by_cases hk : x.k = 8 ∨ x.k = 11
      · cases hcb : contB p.kind p.last x.k (emptyT x.t) with
        | false => exact rstep_keybad w v had p r x pl ps hv hn hs hs2 hf ha hI hk hcb
        | true =>
          have hkk := keyK_is hop hcb hk
          unfold keyK at hkk
          by_cases h7 : p.kind = 7
          · rw [if_pos h7] at hkk
            refine rstep_key7 w v had p r x pl ps hv hn hs hs2 hf ha hI hkk h7 ?_
            intro h8
            unfold contB at hcb
            rw [h7, if_neg (by decide), if_pos rfl, if_pos h8, hkk] at hcb
            exact absurd hcb (by decide)
          · rw [if_neg h7] at hkk
            by_cases h10 : p.kind = 10
            · rw [if_pos h10] at hkk
              refine rstep_key10 w v had p r x pl ps hv hn hs hs2 hf ha hI hkk h10 ?_
              unfold contB at hcb
              rw [h10, if_neg (by decide), if_neg (by decide), if_pos rfl] at hcb
              unfold contElem at hcb
              rw [if_pos hkk, decide_eq_true_iff] at hcb
              exact hcb
            · rw [if_neg h10] at hkk
              omega
      · rw [not_or] at hk
        unfold opensK at hop
        rw [decide_eq_true_iff] at hop
        rcases hop with h | h | h
        · exact rstep_5 w v had p r x pl ps hv hn hs hs2 hf ha hI hl hG6 h hk
        · exact rstep_7 w v had p r x pl ps hv hn hs hs2 hf ha hI hl hG6 h hk
        · exact rstep_10 w v had p r x pl ps hv hn hs hs2 hf ha hI hl hG6 h hk
theorem rstepV (w : World) (v : Value) (had : List Ev) (st : List Pt) (E : Int) (x : Ev) (hE : stepE st x = E) (hv : ERead w v had) (hn : had.length ≤ 100000) (hs : x.t.size ≤ 1099511627776) (hs2 : x.v.size ≤ 1099511627776) (hR : Rel had st) (hG : Good st) :
    Calls Tryz.prog 9 #[v, .agg #[.int .i64 x.k, .string x.t, .string x.v]] w fun e w' => e = .returned (.int .i64 E) ∧ Below w.heap.size w w' := by
  have := rstep_any w v had st x hv hn hs hs2 hR hG
  unfold RSPost at this
  rw [hE] at this
  exact this

set_option maxHeartbeats 4000000 in
theorem rwhole_any (w : World) (v : Value) (xs : List Ev) (hv : ERead w v xs) (hx : ∀ x ∈ xs, x.t.size ≤ 1099511627776 ∧ x.v.size ≤ 1099511627776) (hn : xs.length ≤ 100000) :
    Calls Tryz.prog 16 #[v] w fun e w' => e = WEnd (wholeGo 0 [topP] xs) ∧ Below w.heap.size w w' := by
  have hv' := hv
  obtain ⟨A, c, rfl, hlc, hcm, hr⟩ := hv'
  go_enter Tryz.func16, Tryz.ntmps16
  go_wp2_with fail
  go_loopw [4] (fun i wr => ∃ (k : Nat) (st : List Pt), k ≤ xs.length ∧ i = .int .i64 k ∧ Hid (Rel (xs.take k) st) ∧ Hid (Good st) ∧ Hid (Below w.heap.size w wr) ∧ Hid (wholeGo 0 [topP] xs = wholeGo k st (xs.drop k))) (fun i _ => xs.length - (intOf i).toNat)
  case atStart => exact ⟨0, [topP], Nat.zero_le _, rfl, Lib.hid rel_start, Lib.hid good_start, Lib.hid (Below.refl _ _), Lib.hid rfl⟩
  case round =>
    obtain ⟨k, st, hk, rfl, HR, HG, HB, HW⟩ := hrel
    have hvr := hv.below HB.out
    by_cases hlt : k < xs.length
    · obtain ⟨bb, oo, rfl, hc⟩ := hr (by omega)
      obtain ⟨h1, h2, h3⟩ := hc k hlt
      obtain ⟨hs, hs2⟩ := hx _ (List.getElem_mem hlt)
      have g1 := (HB.out.cell (cell_lt h1)).trans h1
      have g2 := (HB.out.cell (cell_lt h2)).trans h2
      have g3 := (HB.out.cell (cell_lt h3)).trans h3
      have hd := HW.out
      rw [List.drop_eq_getElem_cons hlt] at hd
      simp only [wholeGo] at hd
      have HT : Hid (xs.take (k + 1) = xs.take k ++ [xs[k]]) := Lib.hid (List.take_succ_eq_append_getElem hlt)
      have htl : (xs.take k).length ≤ 100000 := by rw [List.length_take]; omega
      clear hc hr h1 h2 h3
      generalize xs[k] = x at *
      have hvk := (hvr.take (k := k) (by omega)).below (below_drew (Below.refl _ _))
      have hS := rstepV wr.drew _ _ st _ x rfl hvk htl hs hs2 HR.out HG.out
      have HG2 := Lib.hid (good_step HG.out x)
      have hBd := below_drew HB.out
      have hlti : (k : Int) < xs.length := by omega
      have hkc : k ≤ c := by omega
      have hcm2 : c ≤ 9223372036854775807 := by simpa [maxLen] using hcm
      by_cases hz : stepE st x = 0
      · rw [if_pos hz] at hd
        have HD := Lib.hid hd
        have HR2 : Hid (Rel (xs.take (k + 1)) (stepS st x)) := Lib.hid (by rw [HT.out]; exact rel_step HR.out x hz)
        rw [hz] at hS
        clear hd hz hvk hvr
        go_wp2_with fail
        go_still_tail 7, (by kernel_rfl)
        change wpList _ _ _ _ _ wr.drew
        generalize wr.drew = wd at *
        go_wp2_with (first
          | (go_at_call 9; refine hS.mono ?_; rintro e w3 ⟨rfl, hb3⟩))
        go_roundw
        case rel => exact ⟨k + 1, _, hlt, by go_num, HR2, HG2, Lib.hid (hBd.trans (hb3.mono hBd.size)), HD⟩
        case measure => first | (simp [intOf]; done) | (simp [intOf]; omega)
      · rw [if_neg hz] at hd
        have HD := Lib.hid hd
        have e0 := ne_beq hz
        have b0 := ne_bne hz
        generalize stepE st x = E at *
        clear hd hz hvk hvr
        go_wp2_with fail
        go_still_tail 7, (by kernel_rfl)
        change wpList _ _ _ _ _ wr.drew
        generalize wr.drew = wd at *
        go_wp2_with (first
          | (go_at_call 9; refine hS.mono ?_; rintro e w3 ⟨rfl, hb3⟩))
        go_ret2
        exact ⟨by rw [HD.out]; rfl, hBd.trans (hb3.mono hBd.size)⟩
    · have hke : k = xs.length := by omega
      subst hke
      have hd := HW.out
      rw [List.drop_of_length_le (Nat.le_refl _)] at hd
      simp only [wholeGo] at hd
      have hR := HR.out
      rw [List.take_of_length_le (Nat.le_refl _)] at hR
      rw [(rel_done hR).1] at hd
      have hA := at_any wr _ xs hvr hn
      have hlti : ¬ ((xs.length : Nat) : Int) < xs.length := by omega
      cases ha : atL xs with
      | nil =>
        rw [ha] at hd
        rw [atEnd_nil ha] at hA
        go_wp2_with fail
        refine hA.mono ?_
        rintro e w3 ⟨rfl, hb3⟩
        by_cases h0 : xs.length = 0
        · rw [decide_eq_false (by omega : ¬ 0 < xs.length)] at hd
          have HD := Lib.hid hd
          clear hd ha hR
          go_wp2_with fail
          go_ret2
          exact ⟨by rw [HD.out, h0]; rfl, HB.out.trans (hb3.mono HB.out.size)⟩
        · rw [decide_eq_true (by omega : 0 < xs.length)] at hd
          have HD := Lib.hid hd
          have e0 : (((xs.length : Nat) : Int) == 0) = false := ne_beq (by omega)
          clear hd ha hR h0
          go_wp2_with fail
          go_ret2
          exact ⟨by rw [HD.out]; rfl, HB.out.trans (hb3.mono HB.out.size)⟩
      | cons p ps =>
        rw [ha] at hd
        rw [atEnd_cons ha] at hA
        have HD := Lib.hid hd
        have hpi : (0 : Int) ≤ p := by omega
        clear hd ha hR
        go_wp2_with (first
          | (go_at_call 11; refine hA.mono ?_; rintro e w3 ⟨rfl, hb3⟩))
        go_ret2
        exact ⟨by rw [HD.out]; rfl, HB.out.trans (hb3.mono HB.out.size)⟩
end Go.Proofs.YtmnijjbhkbdojaaGreatDoor
namespace Go.Proofs.YtmnijjbhkbdojaaGreatDoor
open Go.RowKit Go.Maps
set_option maxRecDepth 100000

/-- The first 120 of what came in. -/
theorem ERead.first {w : World} {A : Option Addr} {c : Nat} {xs : List Ev} (h : ERead w (.slice A xs.length c) xs) (n : Nat) (hn : n < xs.length) : ERead w (.slice A n c) (xs.take n) := h.take (by omega)

theorem wE_eq (p : Nat × Int) : WEnd p = .returned (.tuple #[.int .i64 p.1, .int .i64 p.2]) := rfl

set_option maxHeartbeats 4000000 in
theorem whole_small (w : World) (v : Value) (xs : List Ev) (hv : ERead w v xs) (hx : ∀ x ∈ xs, okE x) (hm : ∀ x ∈ xs, x.t.size ≤ 1048576 ∧ x.v.size ≤ 1048576) (hw : Nm.StdW w) (hn : xs.length ≤ 120) :
    (∀ w', Below w.heap.size w w' → Calls Tryz.prog 15 #[v] w' fun e w'' => e = WEnd (wholeGo 0 [topP] xs) ∧ Below w'.heap.size w' w'') ∧
    (∀ w', Below w.heap.size w w' → Calls Tryz.prog 16 #[v] w' fun e w'' => e = WEnd (wholeGo 0 [topP] xs) ∧ Below w'.heap.size w' w'') :=
  ⟨fun w' hb => ewhole_any w' v xs (hv.below hb) hx (hw.below hb) (by omega), fun w' hb => rwhole_any w' v xs (hv.below hb) (fun x h => by have := hm x h; omega) (by omega)⟩

set_option maxHeartbeats 4000000 in
theorem walk_EventsWhole (v : Value) (xs : List Ev) (hx : ∀ x ∈ xs, okE x) (hn : xs.length ≤ 4611686018427387904) (hm : ∀ x ∈ xs, x.t.size ≤ 1048576 ∧ x.v.size ≤ 1048576) (w : World) (hw : Nm.StdW w) (hv : ERead w v xs) :
    Calls Tryz.prog 4 #[v] w fun e w' => e = .returned (.bool true) ∧ Below w.heap.size w w' := by
  obtain ⟨A, c, rfl, hlc, hcm, _⟩ := id hv
  have hL := fun w' h => elives_any w' h
  have hcm2 : c ≤ 9223372036854775807 := by simpa [maxLen] using hcm
  by_cases h120 : 120 < xs.length
  · obtain ⟨h1, h2⟩ := whole_small w _ (xs.take 120) (hv.first 120 h120) (fun x h => hx x (List.mem_of_mem_take h)) (fun x h => hm x (List.mem_of_mem_take h)) hw (by rw [List.length_take]; omega)
    generalize wholeGo 0 [topP] (xs.take 120) = r at *
    obtain ⟨n, E⟩ := r
    unfold WEnd at h1 h2
    simp only at h1 h2
    have h120i : (120 : Int) < xs.length := by omega
    have hc120 : 120 ≤ c := by omega
    clear hlc h120 hcm
    go_enter Tryz.func4, Tryz.ntmps4
    go_wp2_with fail
    refine (h1 _ (Below.refl _ _)).mono ?_
    rintro e w1 ⟨rfl, hb1⟩
    go_wp2_with fail
    refine (h2 _ hb1).mono ?_
    rintro e w2 ⟨rfl, hb2⟩
    have hb3 := hb1.trans (hb2.mono hb1.size)
    have hw3 := hw.below hb3
    go_wp2_with (first
      | (go_at_call 14; refine (hL _ hw3).mono ?_; rintro e w4 ⟨rfl, hb4⟩))
    go_ret
    exact ⟨rfl, hb3.trans (hb4.mono hb3.size)⟩
  · obtain ⟨h1, h2⟩ := whole_small w _ xs hv hx hm hw (by omega)
    generalize wholeGo 0 [topP] xs = r at *
    obtain ⟨n, E⟩ := r
    unfold WEnd at h1 h2
    simp only at h1 h2
    have h120i : ¬ (120 : Int) < xs.length := by omega
    clear hlc h120 hcm
    go_enter Tryz.func4, Tryz.ntmps4
    go_wp2_with fail
    refine (h1 _ (Below.refl _ _)).mono ?_
    rintro e w1 ⟨rfl, hb1⟩
    go_wp2_with fail
    refine (h2 _ hb1).mono ?_
    rintro e w2 ⟨rfl, hb2⟩
    have hb3 := hb1.trans (hb2.mono hb1.size)
    have hw3 := hw.below hb3
    go_wp2_with (first
      | (go_at_call 14; refine (hL _ hw3).mono ?_; rintro e w4 ⟨rfl, hb4⟩))
    go_ret
    exact ⟨rfl, hb3.trans (hb4.mono hb3.size)⟩
end Go.Proofs.YtmnijjbhkbdojaaGreatDoor

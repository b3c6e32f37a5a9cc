/-
  events: slices of events that can be read; Whole.
-/
import Derived.Test.YtmnijjbhkbdojaaGreatDoorEvJ
namespace Go.Proofs.YtmnijjbhkbdojaaGreatDoor
open Go.RowKit Go.Maps
set_option maxRecDepth 100000

def okE (x : Ev) : Prop := -9223372036854775808 ≤ x.k ∧ x.k ≤ 9223372036854775807 ∧ x.t.size ≤ 140737488355328 ∧ x.v.size ≤ 140737488355328
/-- A slice of events that can be read. -/
def ERead (w : World) (v : Value) (xs : List Ev) : Prop :=
  ∃ A c, v = .slice A xs.length c ∧ xs.length ≤ c ∧ c ≤ maxLen ∧ (0 < xs.length → ∃ b o : Nat, A = some ⟨b, o, none⟩ ∧ ∀ j (h : j < xs.length),
    w.cell? ⟨b, o + j * 3, none⟩ = some (.int .i64 (xs[j]).k) ∧ w.cell? ⟨b, o + j * 3 + 1, none⟩ = some (.string (xs[j]).t) ∧ w.cell? ⟨b, o + j * 3 + 2, none⟩ = some (.string (xs[j]).v))
theorem ERead.below {w w' : World} {v : Value} {xs : List Ev} (h : ERead w v xs) (hb : Below w.heap.size w w') : ERead w' v xs := by
  obtain ⟨A, c, rfl, h1, h2, h3⟩ := h
  refine ⟨A, c, rfl, h1, h2, fun hp => ?_⟩
  obtain ⟨b, o, rfl, hc⟩ := h3 hp
  refine ⟨b, o, rfl, fun j hj => ?_⟩
  obtain ⟨c0, c1, c2⟩ := hc j hj
  exact ⟨(hb.cell (cell_lt c0)).trans c0, (hb.cell (cell_lt c1)).trans c1, (hb.cell (cell_lt c2)).trans c2⟩
theorem ERead.take {w : World} {A : Option Addr} {n c : Nat} {xs : List Ev} (h : ERead w (.slice A n c) xs) {k : Nat} (hk : k ≤ xs.length) : ERead w (.slice A k c) (xs.take k) := by
  obtain ⟨A', c', hv, h1, h2, h3⟩ := h
  injection hv with e1 e2 e3
  subst e1 e2 e3
  have hl : (xs.take k).length = k := by rw [List.length_take, Nat.min_eq_left hk]
  refine ⟨A, c, by rw [hl], by omega, h2, fun hp => ?_⟩
  obtain ⟨b, o, rfl, hc⟩ := h3 (by omega)
  refine ⟨b, o, rfl, fun j hj => ?_⟩
  rw [List.getElem_take]
  exact hc j (by omega)

/-- What Whole tells. -/
def WEnd (p : Nat × Int) : Ending := .returned (.tuple #[.int .i64 p.1, .int .i64 p.2])

set_option maxHeartbeats 4000000 in
theorem ewhole_any (w : World) (v : Value) (xs : List Ev) (hv : ERead w v xs) (hx : ∀ x ∈ xs, okE x) (hw : Nm.StdW w) (hn : xs.length ≤ 4611686018427387904) :
    Calls Tryz.prog 15 #[v] w fun e w' => e = WEnd (wholeGo 0 [topP] xs) ∧ Below w.heap.size w w' := by
  obtain ⟨A, c, rfl, _, _, hr⟩ := hv
  go_enter Tryz.func15, Tryz.ntmps15
  go_wp2_with (first
    | (go_at_call 8; refine (cnew_any _ w.heap.size (Nat.le_refl _)).mono ?_; rintro e w1 ⟨g, rfl, hg, hC1, hb1⟩))
  go_loopw [11] (fun i wr => ∃ (k : Nat) (st : List Pt), k ≤ xs.length ∧ i = .int .i64 k ∧ CAt wr w.heap.size g st ∧ Hid (Good st) ∧ Hid (Below w.heap.size w wr) ∧ Hid (wholeGo 0 [topP] xs = wholeGo k st (xs.drop k))) (fun i _ => xs.length - (intOf i).toNat)
  case atStart => exact ⟨0, [topP], Nat.zero_le _, rfl, hC1, Lib.hid good_start, Lib.hid hb1, Lib.hid rfl⟩
  case round =>
    obtain ⟨k, st, hk, rfl, hC, HG, HB, HW⟩ := hrel
    have hwr := hw.below HB.out
    by_cases hlt : k < xs.length
    · obtain ⟨bb, oo, rfl, hc⟩ := hr (by omega)
      obtain ⟨h1, h2, h3⟩ := hc k hlt
      have hok := hx _ (List.getElem_mem hlt)
      have g1 := (HB.out.cell (cell_lt h1)).trans h1
      have g2 := (HB.out.cell (cell_lt h2)).trans h2
      have g3 := (HB.out.cell (cell_lt h3)).trans h3
      have hd := HW.out
      rw [List.drop_eq_getElem_cons hlt] at hd
      simp only [wholeGo] at hd
      clear hc hr h1 h2 h3
      generalize xs[k] = x at *
      obtain ⟨_, _, hs, _⟩ := hok
      have hbA : Below wr.heap.size wr (wr.alloc (.cells #[.int .i64 x.k, .string x.t, .string x.v] 28)) := (Below.refl _ _).alloc (Nat.le_refl _) _
      have hCA := hC.below hbA
      have hwA := hwr.below hbA
      have HB2 := Lib.hid (HB.out.trans (hbA.mono HB.out.size))
      have hCs : ∀ w', CAt w' w.heap.size g st → Nm.StdW w' → Calls Tryz.prog 10 #[.pointer (some ⟨g, 0, none⟩), .agg #[.int .i64 x.k, .string x.t, .string x.v]] w' (SPost w' w.heap.size g st x) := fun w' h1 h2 => estep_any w' w.heap.size g st x h1 HG.out h2 hs
      unfold SPost at hCs
      have HG2 := Lib.hid (good_step HG.out x)
      by_cases hz : stepE st x = 0
      · rw [if_pos hz] at hd
        have HD := Lib.hid hd
        rw [hz] at hCs
        clear hd hz
        go_wp2_with (first
          | (go_at_call 10; refine (hCs _ hCA hwA).mono ?_; rintro e w3 ⟨rfl, hC3, hT3⟩))
        go_roundw
        case rel => exact ⟨k + 1, _, hlt, by go_num, hC3, HG2, Lib.hid (HB2.out.trans (hT3.below HB2.out.size)), HD⟩
        case measure => first | (simp [intOf]; done) | (simp [intOf]; omega)
      · rw [if_neg hz] at hd
        have HD := Lib.hid hd
        have e0 := ne_beq hz
        have b0 := ne_bne hz
        generalize stepE st x = E at *
        clear hd hz
        go_wp2_with (first
          | (go_at_call 10; refine (hCs _ hCA hwA).mono ?_; rintro e w3 ⟨rfl, hC3, hT3⟩))
        go_ret2
        exact ⟨by rw [HD.out]; rfl, HB2.out.trans (hT3.below HB2.out.size)⟩
    · have hke : k = xs.length := by omega
      have hd := HW.out
      rw [List.drop_of_length_le (by omega)] at hd
      simp only [wholeGo] at hd
      have HD := Lib.hid hd
      have hne : st ≠ [] := by obtain ⟨p, r, rfl⟩ := HG.out.ne; simp
      have hD := done_any wr w.heap.size g st hC HG.out.2 hne
      subst hke
      cases hdb : doneB st with
      | true =>
        rw [hdb] at hD
        have HE := Lib.hid hdb
        clear hd hdb
        go_wp2_with (first
          | (go_at_call 13; refine hD.mono ?_; rintro e w3 ⟨rfl, rfl⟩))
        go_ret2
        exact ⟨by rw [HD.out, HE.out]; rfl, HB.out⟩
      | false =>
        rw [hdb] at hD
        have HE := Lib.hid hdb
        clear hd hdb
        go_wp2_with (first
          | (go_at_call 13; refine hD.mono ?_; rintro e w3 ⟨rfl, rfl⟩))
        go_ret2
        exact ⟨by rw [HD.out, HE.out]; rfl, HB.out⟩
end Go.Proofs.YtmnijjbhkbdojaaGreatDoor

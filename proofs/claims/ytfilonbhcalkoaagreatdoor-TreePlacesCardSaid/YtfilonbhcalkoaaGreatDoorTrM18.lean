/-
  events: slices of events that can be read; Whole.
  The reference's At (hexaplaref05): where one stands behind some events.
  A list of events that a call has made: appended to, read; it and a Check keep clear of each other.
-/
import Derived.Test.YtfilonbhcalkoaaGreatDoorTrM16
import Derived.Test.YtfilonbhcalkoaaGreatDoorTrM04
import Derived.Test.YtfilonbhcalkoaaGreatDoorTrM17
namespace Go.Proofs.YtfilonbhcalkoaaGreatDoor
open Go.RowKit Go.Maps
set_option maxRecDepth 100000

def okE (x : Ev) : Prop := -9223372036854775808 ≤ x.k ∧ x.k ≤ 9223372036854775807 ∧ x.t.size ≤ 140737488355328 ∧ x.v.size ≤ 140737488355328
/-- A slice of events that can be read. -/
def ERead (w : World) (v : Value) (xs : List Ev) : Prop :=
  ∃ A c, v = .slice A xs.length c ∧ xs.length ≤ c ∧ c ≤ maxLen ∧ (0 < xs.length → ∃ b o : Nat, A = some ⟨b, o, none⟩ ∧ ∀ j (h : j < xs.length),
    w.cell? ⟨b, o + j * 3, none⟩ = some (.int .i64 (xs[j]).k) ∧ w.cell? ⟨b, o + j * 3 + 1, none⟩ = some (.string (xs[j]).t) ∧ w.cell? ⟨b, o + j * 3 + 2, none⟩ = some (.string (xs[j]).v))
theorem ERead.below {w w' : World} {v : Value} {xs : List Ev} (h : ERead w v xs) (hb : Below w.heap.size w w') : ERead w' v xs := by
  obtain ⟨A, c, rfl, h1, h2, h3⟩ := h
  refine ⟨A, c, rfl, h1, h2, fun hp => ?_⟩
  obtain ⟨b, o, rfl, hc⟩ := h3 hp
  refine ⟨b, o, rfl, fun j hj => ?_⟩
  obtain ⟨c0, c1, c2⟩ := hc j hj
  exact ⟨(hb.cell (cell_lt c0)).trans c0, (hb.cell (cell_lt c1)).trans c1, (hb.cell (cell_lt c2)).trans c2⟩
theorem ERead.take {w : World} {A : Option Addr} {n c : Nat} {xs : List Ev} (h : ERead w (.slice A n c) xs) {k : Nat} (hk : k ≤ xs.length) : ERead w (.slice A k c) (xs.take k) := by
  obtain ⟨A', c', hv, h1, h2, h3⟩ := h
  injection hv with e1 e2 e3
  subst e1 e2 e3
  have hl : (xs.take k).length = k := by rw [List.length_take, Nat.min_eq_left hk]
  refine ⟨A, c, by rw [hl], by omega, h2, fun hp => ?_⟩
  obtain ⟨b, o, rfl, hc⟩ := h3 (by omega)
  refine ⟨b, o, rfl, fun j hj => ?_⟩
  rw [List.getElem_take]
  exact hc j (by omega)

/-- What Whole tells. -/
def WEnd (p : Nat × Int) : Ending := .returned (.tuple #[.int .i64 p.1, .int .i64 p.2])

set_option maxHeartbeats 4000000 in
theorem ewhole_any (w : World) (v : Value) (xs : List Ev) (hv : ERead w v xs) (hx : ∀ x ∈ xs, okE x) (hw : Nm.StdW w) (hn : xs.length ≤ 4611686018427387904) :
    Calls Tryz.prog 31 #[v] w fun e w' => e = WEnd (wholeGo 0 [topP] xs) ∧ Below w.heap.size w w' := by
  obtain ⟨A, c, rfl, _, _, hr⟩ := hv
  go_enter Tryz.func31, Tryz.ntmps31
  go_wp2_with (first
    | (go_at_call 29; refine (cnew_any _ w.heap.size (Nat.le_refl _)).mono ?_; rintro e w1 ⟨g, rfl, hg, hC1, hb1⟩))
  go_loopw [11] (fun i wr => ∃ (k : Nat) (st : List Pt), k ≤ xs.length ∧ i = .int .i64 k ∧ CAt wr w.heap.size g st ∧ Hid (Good st) ∧ Hid (Below w.heap.size w wr) ∧ Hid (wholeGo 0 [topP] xs = wholeGo k st (xs.drop k))) (fun i _ => xs.length - (intOf i).toNat)
  case atStart => exact ⟨0, [topP], Nat.zero_le _, rfl, hC1, Lib.hid good_start, Lib.hid hb1, Lib.hid rfl⟩
  case round =>
    obtain ⟨k, st, hk, rfl, hC, HG, HB, HW⟩ := hrel
    have hwr := hw.below HB.out
    by_cases hlt : k < xs.length
    · obtain ⟨bb, oo, rfl, hc⟩ := hr (by omega)
      obtain ⟨h1, h2, h3⟩ := hc k hlt
      have hok := hx _ (List.getElem_mem hlt)
      have g1 := (HB.out.cell (cell_lt h1)).trans h1
      have g2 := (HB.out.cell (cell_lt h2)).trans h2
      have g3 := (HB.out.cell (cell_lt h3)).trans h3
      have hd := HW.out
      rw [List.drop_eq_getElem_cons hlt] at hd
      simp only [wholeGo] at hd
      clear hc hr h1 h2 h3
      generalize xs[k] = x at *
      obtain ⟨_, _, hs, _⟩ := hok
      have hbA : Below wr.heap.size wr (wr.alloc (.cells #[.int .i64 x.k, .string x.t, .string x.v] 44)) := (Below.refl _ _).alloc (Nat.le_refl _) _
      have hCA := hC.below hbA
      have hwA := hwr.below hbA
      have HB2 := Lib.hid (HB.out.trans (hbA.mono HB.out.size))
      have hCs : ∀ w', CAt w' w.heap.size g st → Nm.StdW w' → Calls Tryz.prog 30 #[.pointer (some ⟨g, 0, none⟩), .agg #[.int .i64 x.k, .string x.t, .string x.v]] w' (SPost w' w.heap.size g st x) := fun w' h1 h2 => estep_any w' w.heap.size g st x h1 HG.out h2 hs
      unfold SPost at hCs
      have HG2 := Lib.hid (good_step HG.out x)
      by_cases hz : stepE st x = 0
      · rw [if_pos hz] at hd
        have HD := Lib.hid hd
        rw [hz] at hCs
        clear hd hz
        go_wp2_with (first
          | (go_at_call 30; refine (hCs _ hCA hwA).mono ?_; rintro e w3 ⟨rfl, hC3, hT3⟩))
        go_roundw
        case rel => exact ⟨k + 1, _, hlt, by go_num, hC3, HG2, Lib.hid (HB2.out.trans (hT3.below HB2.out.size)), HD⟩
        case measure => first | (simp [intOf]; done) | (simp [intOf]; omega)
      · rw [if_neg hz] at hd
        have HD := Lib.hid hd
        have e0 := ne_beq hz
        have b0 := ne_bne hz
        generalize stepE st x = E at *
        clear hd hz
        go_wp2_with (first
          | (go_at_call 30; refine (hCs _ hCA hwA).mono ?_; rintro e w3 ⟨rfl, hC3, hT3⟩))
        go_ret2
        exact ⟨by rw [HD.out]; rfl, HB2.out.trans (hT3.below HB2.out.size)⟩
    · have hke : k = xs.length := by omega
      have hd := HW.out
      rw [List.drop_of_length_le (by omega)] at hd
      simp only [wholeGo] at hd
      have HD := Lib.hid hd
      have hne : st ≠ [] := by obtain ⟨p, r, rfl⟩ := HG.out.ne; simp
      have hD := done_any wr w.heap.size g st hC HG.out.2 hne
      subst hke
      cases hdb : doneB st with
      | true =>
        rw [hdb] at hD
        have HE := Lib.hid hdb
        clear hd hdb
        go_wp2_with (first
          | (go_at_call 49; refine hD.mono ?_; rintro e w3 ⟨rfl, rfl⟩))
        go_ret2
        exact ⟨by rw [HD.out, HE.out]; rfl, HB.out⟩
      | false =>
        rw [hdb] at hD
        have HE := Lib.hid hdb
        clear hd hdb
        go_wp2_with (first
          | (go_at_call 49; refine hD.mono ?_; rintro e w3 ⟨rfl, rfl⟩))
        go_ret2
        exact ⟨by rw [HD.out, HE.out]; rfl, HB.out⟩
end Go.Proofs.YtfilonbhcalkoaaGreatDoor
namespace Go.Proofs.YtfilonbhcalkoaaGreatDoor
open Go.RowKit
set_option maxRecDepth 100000

def nV (n : Nat) : Value := .int .i64 (n : Int)
theorem row_shapeL {w : World} {base : Nat} {e : TypeId} {v : Value} {xs : List Value} {n : Nat} (h : ORow w base e v xs) (hn : xs.length = n) : ∃ A cap, v = .slice A n cap := by subst hn; exact h.shape
theorem row_blockL {w : World} {base : Nat} {e : TypeId} {A : Option Addr} {n cap : Nat} {xs : List Value} (h : ORow w base e (.slice A n cap) xs) (hn : 0 < xs.length) : ∃ r, A = some ⟨r, 0, none⟩ := by
  rcases h.2 with ⟨_, h0⟩ | ⟨g, c, cur, hv, _⟩
  · omega
  · injection hv with h1 _ _
    exact ⟨g, h1⟩
theorem rowL_of {w : World} {base : Nat} {e : TypeId} {v : Value} {xs : List Value} {n : Nat} (h : ORow w base e v xs) (hn : xs.length = n) : w.ownsRow base e 1 v n xs := by
  have := h
  unfold ORow at this
  rw [hn] at this
  exact this
theorem rowL_to {w : World} {base : Nat} {e : TypeId} {v : Value} {xs : List Value} {n : Nat} (h : w.ownsRow base e 1 v n xs) (hn : xs.length = n) : ORow w base e v xs := by
  unfold ORow
  rw [hn]
  exact h
theorem nrev_len (S : List Nat) : (S.reverse.map nV).length = S.length := by simp
theorem nrev_cons (p : Nat) (S : List Nat) : (p :: S).reverse.map nV = S.reverse.map nV ++ [nV p] := by simp
/-- The innermost place let go. -/
theorem nrow_pop {w : World} {base r n cap p : Nat} {S : List Nat} (h : ORow w base 3 (.slice (some ⟨r, 0, none⟩) n cap) ((p :: S).reverse.map nV)) (hn : n = S.length + 1) : ORow w base 3 (.slice (some ⟨r, 0, none⟩) S.length cap) (S.reverse.map nV) := by
  subst hn
  have h1 := rowN_cut (rowL_of h (by simp)) (m := S.length) (by omega)
  rw [nrev_cons, Nat.mul_one, List.take_append_of_le_length (by simp), List.take_of_length_le (by simp)] at h1
  exact rowL_to h1 (by simp)

/-- What At tells. -/
def AtEnd (l : List Ev) : Ending := match atL l with
  | [] => .returned (.tuple #[.int .i64 (-1), .int .i64 0])
  | p :: ps => .returned (.tuple #[.int .i64 p, .int .i64 ((ps.length : Int) + 1)])
theorem atEnd_nil {l : List Ev} (h : atL l = []) : AtEnd l = .returned (.tuple #[.int .i64 (-1), .int .i64 0]) := by unfold AtEnd; rw [h]
theorem atEnd_cons {l : List Ev} {p : Nat} {ps : List Nat} (h : atL l = p :: ps) : AtEnd l = .returned (.tuple #[.int .i64 p, .int .i64 ((ps.length : Int) + 1)]) := by unfold AtEnd; rw [h]

set_option maxHeartbeats 8000000 in
theorem at_any (w : World) (v : Value) (xs : List Ev) (hv : ERead w v xs) (hn : xs.length ≤ 100000) :
    Calls Tryz.prog 43 #[v] w fun e w' => e = AtEnd xs ∧ Below w.heap.size w w' := by
  obtain ⟨A, c, rfl, _, _, hr⟩ := hv
  go_enter Tryz.func43, Tryz.ntmps43
  go_wp2_with fail
  go_loopw [4, 5] (fun op i wr => ∃ k : Nat, k ≤ xs.length ∧ i = .int .i64 k ∧ ORow wr w.heap.size 3 op ((atL (xs.take k)).reverse.map nV) ∧ Hid (Below w.heap.size w wr)) (fun _ i _ => xs.length - (intOf i).toNat)
  case atStart => exact ⟨0, Nat.zero_le _, rfl, ORow.nil _ _ _, Lib.hid (Below.refl _ _)⟩
  case round =>
    obtain ⟨k, hk, rfl, hown, HB⟩ := hrel
    have hbs := HB.out.size
    by_cases hlt : k < xs.length
    · obtain ⟨bb, oo, rfl, hc⟩ := hr (by omega)
      obtain ⟨h1, _, _⟩ := hc k hlt
      have g1 := (HB.out.cell (cell_lt h1)).trans h1
      have ht := atL_take xs k hlt
      have hSl : (atL (xs.take k)).length ≤ k := by have := atL_len (xs.take k); rw [List.length_take] at this; omega
      clear hc hr h1
      generalize (xs[k]).k = xk at *
      obtain ⟨S, hS⟩ : ∃ S, atL (xs.take k) = S := ⟨_, rfl⟩
      rw [hS] at hown ht hSl
      have hlti : (k : Int) < xs.length := by omega
      cases ho : opensK xk with
      | true =>
        have hst : atL (xs.take (k + 1)) = k :: S := by rw [ht]; unfold atStep; rw [if_pos ho]
        have HS := Lib.hid hst
        unfold opensK at ho
        rw [decide_eq_true_iff] at ho
        have h63 : (S.reverse.map nV).length + 1 ≤ maxLen := by rw [nrev_len]; simp only [maxLen]; omega
        have h8 : ((S.reverse.map nV).length + 1) * 8 ≤ 140737488355328 := by rw [nrev_len]; omega
        clear hS ht hst
        rcases ho with rfl | rfl | rfl
        all_goals
          go_wp2_with (first
            | (at_builtin; refine wp_app1b rfl _ _ 37 rfl w.heap.size 3 (.int .i64 0) 8 Tryz.underlying37 Tryz.info3 rfl _ _ _ rfl (by exact hown) rfl _ rfl h63 h8 hbs ?_; intro v1 w1 hown1 hb1))
          go_roundw
          case rel => exact ⟨k + 1, hlt, by go_num, by rw [HS.out, nrev_cons]; exact hown1, Lib.hid (HB.out.trans hb1)⟩
          case measure => first | (simp [intOf]; done) | (simp [intOf]; omega)
      | false =>
        cases he : endsK xk with
        | true =>
          have hst : atL (xs.take (k + 1)) = S.tail := by rw [ht]; unfold atStep; rw [if_neg (by rw [ho]; decide), if_pos he]
          have HS := Lib.hid hst
          unfold endsK at he
          rw [decide_eq_true_iff] at he
          clear hS ht hst ho
          match S with
          | [] =>
            obtain ⟨A1, c1, rfl⟩ := row_shapeL hown (n := 0) rfl
            rcases he with rfl | rfl | rfl
            all_goals
              go_wp2_with fail
              go_roundw
              case rel => exact ⟨k + 1, hlt, by go_num, by rw [HS.out]; exact hown, HB⟩
              case measure => first | (simp [intOf]; done) | (simp [intOf]; omega)
          | p :: S =>
            obtain ⟨A1, c1, rfl⟩ := row_shapeL hown (n := S.length + 1) (by simp)
            obtain ⟨r1, rfl⟩ := row_blockL hown (by simp)
            obtain ⟨_, _, hcap, hcm, _, _, _⟩ := rowN_block (rowL_of hown (n := S.length + 1) (by simp))
            have hcm2 : c1 ≤ 9223372036854775807 := by simpa [maxLen] using hcm
            have hpop := nrow_pop hown rfl
            clear hcm
            rcases he with rfl | rfl | rfl
            all_goals
              go_wp2_with fail
              go_roundw
              case rel => exact ⟨k + 1, hlt, by go_num, by rw [HS.out]; exact hpop, HB⟩
              case measure => first | (simp [intOf]; done) | (simp [intOf]; omega)
        | false =>
          have hst : atL (xs.take (k + 1)) = S := by rw [ht]; unfold atStep; rw [if_neg (by rw [ho]; decide), if_neg (by rw [he]; decide)]
          have HS := Lib.hid hst
          unfold endsK at he
          unfold opensK at ho
          rw [decide_eq_false_iff_not] at he ho
          have d5 : (xk == 5) = false := ne_beq (by omega)
          have d6 : (xk == 6) = false := ne_beq (by omega)
          have d7 : (xk == 7) = false := ne_beq (by omega)
          have d9 : (xk == 9) = false := ne_beq (by omega)
          have d10 : (xk == 10) = false := ne_beq (by omega)
          have d12 : (xk == 12) = false := ne_beq (by omega)
          clear hS ht hst ho he
          go_wp2_with fail
          go_roundw
          case rel => exact ⟨k + 1, hlt, by go_num, by rw [HS.out]; exact hown, HB⟩
          case measure => first | (simp [intOf]; done) | (simp [intOf]; omega)
    · have hke : k = xs.length := by omega
      rw [hke, List.take_of_length_le (Nat.le_refl _)] at hown
      obtain ⟨S, hS⟩ : ∃ S, atL xs = S := ⟨_, rfl⟩
      rw [hS] at hown
      have HS := Lib.hid hS
      have hSl := atL_len xs
      rw [hS] at hSl
      clear hS
      have hlti : ¬ (k : Int) < xs.length := by omega
      match S with
      | [] =>
        obtain ⟨A1, c1, rfl⟩ := row_shapeL hown (n := 0) rfl
        go_wp2_with fail
        go_ret2
        exact ⟨by rw [atEnd_nil HS.out]; rfl, HB.out⟩
      | p :: S =>
        obtain ⟨A1, c1, rfl⟩ := row_shapeL hown (n := S.length + 1) (by simp)
        obtain ⟨r1, rfl⟩ := row_blockL hown (by simp)
        have hcl : wr.cell? ⟨r1, S.length, none⟩ = some (.int .i64 p) := by
          rw [rowN_cell (rowL_of hown (n := S.length + 1) (by simp)) (by omega), nrev_cons, List.getElem?_append_right (by simp)]
          simp [nV]
        have hsl : S.length + 1 ≤ 100000 := by simp at hSl; omega
        go_wp2_with fail
        go_ret2
        exact ⟨by rw [atEnd_cons HS.out]; rfl, HB.out⟩
end Go.Proofs.YtfilonbhcalkoaaGreatDoor
namespace Go.Proofs.YtfilonbhcalkoaaGreatDoor
open Go.RowKit Go.Maps
set_option maxRecDepth 100000

def evc (x : Ev) : List Value := [.int .i64 x.k, .string x.t, .string x.v]
def evcs (l : List Ev) : List Value := l.flatMap evc
theorem evcs_len (l : List Ev) : (evcs l).length = l.length * 3 := by
  induction l with
  | nil => rfl
  | cons x l ih => simp only [evcs, List.flatMap_cons, List.length_append, List.length_cons] at ih ⊢; rw [ih]; simp [evc]; omega
theorem evcs_get : ∀ (l : List Ev) (k : Nat) (h : k < l.length) (j : Nat) (_ : j < 3), (evcs l)[k * 3 + j]? = (evc l[k])[j]?
  | x :: l, 0, _, j, hj => by
    simp only [evcs, List.flatMap_cons]
    rw [List.getElem?_append_left (by simp [evc]; omega)]
    simp
  | x :: l, k + 1, h, j, hj => by
    have ih := evcs_get l k (by simpa using h) j hj
    simp only [evcs, List.flatMap_cons] at ih ⊢
    rw [List.getElem?_append_right (by simp [evc]; omega), show (k + 1) * 3 + j - (evc x).length = k * 3 + j by simp [evc]; omega, ih]
    simp
theorem evcs_snoc (l : List Ev) (x : Ev) : evcs (l ++ [x]) = evcs l ++ evc x := by simp [evcs]
theorem Tryz.infoEv : (Tryz.prog.info? 44).map (fun i => (i.zero, i.size, i.bytes)) = some (some (.agg #[.int .i64 0, .string ⟨#[]⟩, .string ⟨#[]⟩]), 3, 40) := by kernel_rfl

def ERow (w : World) (base : Nat) (v : Value) (l : List Ev) : Prop := w.ownsRow base 44 3 v l.length (evcs l)
def eObj : Obj → Prop
  | .cells _ t _ => t = 44
  | _ => False
theorem ERow.nil (w : World) (base : Nat) : ERow w base (.slice none 0 0) [] := World.ownsRow_nil w base _ 3
theorem ERow.read {w : World} {base : Nat} {v : Value} {l : List Ev} (h : ERow w base v l) : ERead w v l := by
  have hr := h
  unfold ERow at hr
  rcases hr.2 with ⟨rfl, h0⟩ | ⟨r, c, cur, rfl, hg, hh, hnc, hm, hs, ht⟩
  · exact ⟨none, 0, by rw [h0], by omega, Nat.zero_le _, fun hp => by omega⟩
  · refine ⟨some ⟨r, 0, none⟩, c, rfl, hnc, hm, fun _ => ⟨r, 0, rfl, fun j hj => ?_⟩⟩
    have hat : ∀ i, i < 3 → w.cell? ⟨r, j * 3 + i, none⟩ = (evc l[j])[i]? := by
      intro i hi
      rw [Blk.cell hh, ← evcs_get l j hj i hi, ← ht, List.getElem?_take_of_lt (by omega), Array.getElem?_toList]
    rw [Nat.zero_add]
    have h0 := hat 0 (by omega)
    have h1 := hat 1 (by omega)
    have h2 := hat 2 (by omega)
    exact ⟨h0, h1, h2⟩
theorem ERow.below {w w' : World} {base : Nat} {v : Value} {l : List Ev} (h : ERow w base v l) (hb : Below w.heap.size w w') : ERow w' base v l :=
  row_tch (base := base) (p := fun _ => False) h (Tch.of_below hb) (fun _ _ h => h)
theorem ERow.of_c {w w' : World} {base : Nat} {v : Value} {l : List Ev} (h : ERow w base v l) (ht : Tch base cObj w w') : ERow w' base v l :=
  row_tch h ht (fun _ _ => by simp only [cObj]; decide)
theorem CAt.of_e {w w' : World} {base g : Nat} {st : List Pt} (h : CAt w base g st) (ht : Tch base eObj w w') : CAt w' base g st :=
  h.tch ht (fun cs t fr h hc => by simp only [eObj] at hc; rcases h with rfl | rfl <;> exact absurd hc (by decide)) (fun _ _ hc => hc)
theorem ERow.shape {w : World} {base : Nat} {v : Value} {l : List Ev} (h : ERow w base v l) : ∃ A c, v = .slice A l.length c := by
  rcases h.2 with ⟨rfl, h0⟩ | ⟨g, cap, cur, rfl, _⟩
  · exact ⟨_, _, by rw [h0]⟩
  · exact ⟨_, _, rfl⟩
theorem ERow.alloc {w : World} {base : Nat} {v : Value} {l : List Ev} (h : ERow w base v l) (o : Obj) : ERow (w.alloc o) base v l := World.ownsRow.alloc h o
theorem erow_push {w w' : World} {base : Nat} {v v' : Value} {l : List Ev} {x : Ev} {o : Obj} (h : ERow w base v l) (hg : (w.alloc o).grownBy w' v.ownBlock)
    (hr : w'.ownsRow base 44 3 v' (l.length + 1) (evcs l ++ [.int .i64 x.k, .string x.t, .string x.v])) : ERow w' base v' (l ++ [x]) ∧ Tch base eObj w w' := by
  refine ⟨?_, ((Tch.refl base eObj w).alloc o).trans (Tch.of_row (h.alloc o) hg (Nat.le_refl _) (fun _ => rfl))⟩
  unfold ERow
  rw [evcs_snoc, List.length_append]
  exact hr

/-- How deep one is, and whether all is a document, by the places. -/
theorem deep_nil {hs : List Ev} {st : List Pt} (h : Rel hs st) (ha : atL hs = []) : st.length = 1 ∧ doneB st = decide (0 < hs.length) := by
  have := rel_done h
  rw [ha] at this
  exact ⟨this.2, by rw [this.1]; simp⟩
theorem deep_cons {hs : List Ev} {st : List Pt} {p : Nat} {ps : List Nat} (h : Rel hs st) (ha : atL hs = p :: ps) : st.length = ps.length + 2 ∧ doneB st = false := by
  have := rel_done h
  rw [ha] at this
  exact ⟨this.2, by rw [this.1]; simp⟩
end Go.Proofs.YtfilonbhcalkoaaGreatDoor

/-
  The reference's At (hexaplaref05): where one stands behind some events.
-/
import Derived.Test.YtmnijjbhkbdojaaGreatDoorEvR
import Derived.Test.YtmnijjbhkbdojaaGreatDoorEvK
namespace Go.Proofs.YtmnijjbhkbdojaaGreatDoor
open Go.RowKit
set_option maxRecDepth 100000

def nV (n : Nat) : Value := .int .i64 (n : Int)
theorem row_shapeL {w : World} {base : Nat} {e : TypeId} {v : Value} {xs : List Value} {n : Nat} (h : ORow w base e v xs) (hn : xs.length = n) : ∃ A cap, v = .slice A n cap := by subst hn; exact h.shape
theorem row_blockL {w : World} {base : Nat} {e : TypeId} {A : Option Addr} {n cap : Nat} {xs : List Value} (h : ORow w base e (.slice A n cap) xs) (hn : 0 < xs.length) : ∃ r, A = some ⟨r, 0, none⟩ := by
  rcases h.2 with ⟨_, h0⟩ | ⟨g, c, cur, hv, _⟩
  · omega
  · injection hv with h1 _ _
    exact ⟨g, h1⟩
theorem rowL_of {w : World} {base : Nat} {e : TypeId} {v : Value} {xs : List Value} {n : Nat} (h : ORow w base e v xs) (hn : xs.length = n) : w.ownsRow base e 1 v n xs := by
  have := h
  unfold ORow at this
  rw [hn] at this
  exact this
theorem rowL_to {w : World} {base : Nat} {e : TypeId} {v : Value} {xs : List Value} {n : Nat} (h : w.ownsRow base e 1 v n xs) (hn : xs.length = n) : ORow w base e v xs := by
  unfold ORow
  rw [hn]
  exact h
theorem nrev_len (S : List Nat) : (S.reverse.map nV).length = S.length := by simp
theorem nrev_cons (p : Nat) (S : List Nat) : (p :: S).reverse.map nV = S.reverse.map nV ++ [nV p] := by simp
/-- The innermost place let go. -/
theorem nrow_pop {w : World} {base r n cap p : Nat} {S : List Nat} (h : ORow w base 3 (.slice (some ⟨r, 0, none⟩) n cap) ((p :: S).reverse.map nV)) (hn : n = S.length + 1) : ORow w base 3 (.slice (some ⟨r, 0, none⟩) S.length cap) (S.reverse.map nV) := by
  subst hn
  have h1 := rowN_cut (rowL_of h (by simp)) (m := S.length) (by omega)
  rw [nrev_cons, Nat.mul_one, List.take_append_of_le_length (by simp), List.take_of_length_le (by simp)] at h1
  exact rowL_to h1 (by simp)

/-- What At tells. -/
def AtEnd (l : List Ev) : Ending := match atL l with
  | [] => .returned (.tuple #[.int .i64 (-1), .int .i64 0])
  | p :: ps => .returned (.tuple #[.int .i64 p, .int .i64 ((ps.length : Int) + 1)])
theorem atEnd_nil {l : List Ev} (h : atL l = []) : AtEnd l = .returned (.tuple #[.int .i64 (-1), .int .i64 0]) := by unfold AtEnd; rw [h]
theorem atEnd_cons {l : List Ev} {p : Nat} {ps : List Nat} (h : atL l = p :: ps) : AtEnd l = .returned (.tuple #[.int .i64 p, .int .i64 ((ps.length : Int) + 1)]) := by unfold AtEnd; rw [h]

set_option maxHeartbeats 8000000 in
theorem at_any (w : World) (v : Value) (xs : List Ev) (hv : ERead w v xs) (hn : xs.length ≤ 100000) :
    Calls Tryz.prog 11 #[v] w fun e w' => e = AtEnd xs ∧ Below w.heap.size w w' := by
  obtain ⟨A, c, rfl, _, _, hr⟩ := hv
  go_enter Tryz.func11, Tryz.ntmps11
  go_wp2_with fail
  go_loopw [4, 5] (fun op i wr => ∃ k : Nat, k ≤ xs.length ∧ i = .int .i64 k ∧ ORow wr w.heap.size 3 op ((atL (xs.take k)).reverse.map nV) ∧ Hid (Below w.heap.size w wr)) (fun _ i _ => xs.length - (intOf i).toNat)
  case atStart => exact ⟨0, Nat.zero_le _, rfl, ORow.nil _ _ _, Lib.hid (Below.refl _ _)⟩
  case round =>
    obtain ⟨k, hk, rfl, hown, HB⟩ := hrel
    have hbs := HB.out.size
    by_cases hlt : k < xs.length
    · obtain ⟨bb, oo, rfl, hc⟩ := hr (by omega)
      obtain ⟨h1, _, _⟩ := hc k hlt
      have g1 := (HB.out.cell (cell_lt h1)).trans h1
      have ht := atL_take xs k hlt
      have hSl : (atL (xs.take k)).length ≤ k := by have := atL_len (xs.take k); rw [List.length_take] at this; omega
      clear hc hr h1
      generalize (xs[k]).k = xk at *
      obtain ⟨S, hS⟩ : ∃ S, atL (xs.take k) = S := ⟨_, rfl⟩
      rw [hS] at hown ht hSl
      have hlti : (k : Int) < xs.length := by omega
      cases ho : opensK xk with
      | true =>
        have hst : atL (xs.take (k + 1)) = k :: S := by rw [ht]; unfold atStep; rw [if_pos ho]
        have HS := Lib.hid hst
        unfold opensK at ho
        rw [decide_eq_true_iff] at ho
        have h63 : (S.reverse.map nV).length + 1 ≤ maxLen := by rw [nrev_len]; simp only [maxLen]; omega
        have h8 : ((S.reverse.map nV).length + 1) * 8 ≤ 140737488355328 := by rw [nrev_len]; omega
        clear hS ht hst
        rcases ho with rfl | rfl | rfl
        all_goals
          go_wp2_with (first
            | (at_builtin; refine wp_app1b rfl _ _ 45 rfl w.heap.size 3 (.int .i64 0) 8 Tryz.underlying45 Tryz.info3 rfl _ _ _ rfl (by exact hown) rfl _ rfl h63 h8 hbs ?_; intro v1 w1 hown1 hb1))
          go_roundw
          case rel => exact ⟨k + 1, hlt, by go_num, by rw [HS.out, nrev_cons]; exact hown1, Lib.hid (HB.out.trans hb1)⟩
          case measure => first | (simp [intOf]; done) | (simp [intOf]; omega)
      | false =>
        cases he : endsK xk with
        | true =>
          have hst : atL (xs.take (k + 1)) = S.tail := by rw [ht]; unfold atStep; rw [if_neg (by rw [ho]; decide), if_pos he]
          have HS := Lib.hid hst
          unfold endsK at he
          rw [decide_eq_true_iff] at he
          clear hS ht hst ho
          match S with
          | [] =>
            obtain ⟨A1, c1, rfl⟩ := row_shapeL hown (n := 0) rfl
            rcases he with rfl | rfl | rfl
            all_goals
              go_wp2_with fail
              go_roundw
              case rel => exact ⟨k + 1, hlt, by go_num, by rw [HS.out]; exact hown, HB⟩
              case measure => first | (simp [intOf]; done) | (simp [intOf]; omega)
          | p :: S =>
            obtain ⟨A1, c1, rfl⟩ := row_shapeL hown (n := S.length + 1) (by simp)
            obtain ⟨r1, rfl⟩ := row_blockL hown (by simp)
            obtain ⟨_, _, hcap, hcm, _, _, _⟩ := rowN_block (rowL_of hown (n := S.length + 1) (by simp))
            have hcm2 : c1 ≤ 9223372036854775807 := by simpa [maxLen] using hcm
            have hpop := nrow_pop hown rfl
            clear hcm
            rcases he with rfl | rfl | rfl
            all_goals
              go_wp2_with fail
              go_roundw
              case rel => exact ⟨k + 1, hlt, by go_num, by rw [HS.out]; exact hpop, HB⟩
              case measure => first | (simp [intOf]; done) | (simp [intOf]; omega)
        | false =>
          have hst : atL (xs.take (k + 1)) = S := by rw [ht]; unfold atStep; rw [if_neg (by rw [ho]; decide), if_neg (by rw [he]; decide)]
          have HS := Lib.hid hst
          unfold endsK at he
          unfold opensK at ho
          rw [decide_eq_false_iff_not] at he ho
          have d5 : (xk == 5) = false := ne_beq (by omega)
          have d6 : (xk == 6) = false := ne_beq (by omega)
          have d7 : (xk == 7) = false := ne_beq (by omega)
          have d9 : (xk == 9) = false := ne_beq (by omega)
          have d10 : (xk == 10) = false := ne_beq (by omega)
          have d12 : (xk == 12) = false := ne_beq (by omega)
          clear hS ht hst ho he
          go_wp2_with fail
          go_roundw
          case rel => exact ⟨k + 1, hlt, by go_num, by rw [HS.out]; exact hown, HB⟩
          case measure => first | (simp [intOf]; done) | (simp [intOf]; omega)
    · have hke : k = xs.length := by omega
      rw [hke, List.take_of_length_le (Nat.le_refl _)] at hown
      obtain ⟨S, hS⟩ : ∃ S, atL xs = S := ⟨_, rfl⟩
      rw [hS] at hown
      have HS := Lib.hid hS
      have hSl := atL_len xs
      rw [hS] at hSl
      clear hS
      have hlti : ¬ (k : Int) < xs.length := by omega
      match S with
      | [] =>
        obtain ⟨A1, c1, rfl⟩ := row_shapeL hown (n := 0) rfl
        go_wp2_with fail
        go_ret2
        exact ⟨by rw [atEnd_nil HS.out]; rfl, HB.out⟩
      | p :: S =>
        obtain ⟨A1, c1, rfl⟩ := row_shapeL hown (n := S.length + 1) (by simp)
        obtain ⟨r1, rfl⟩ := row_blockL hown (by simp)
        have hcl : wr.cell? ⟨r1, S.length, none⟩ = some (.int .i64 p) := by
          rw [rowN_cell (rowL_of hown (n := S.length + 1) (by simp)) (by omega), nrev_cons, List.getElem?_append_right (by simp)]
          simp [nV]
        have hsl : S.length + 1 ≤ 100000 := by simp at hSl; omega
        go_wp2_with fail
        go_ret2
        exact ⟨by rw [atEnd_cons HS.out]; rfl, HB.out⟩
end Go.Proofs.YtmnijjbhkbdojaaGreatDoor

/-
  names: Bind of a Scope.
-/
import Derived.Test.YtgpnhgjiglnmmaaNamesI
import Derived.Deep.QuietTactic
import Derived.BigQuiet
import Derived.IntWalk
namespace Go.Proofs.Ytgpnhgjiglnmmaa
open Go.RowKit Go.Maps
set_option maxRecDepth 100000

theorem nil_iff (s : ByteArray) : s.data.toList = [] ↔ s.size = 0 := by
  have hl : s.data.toList.length = s.size := by simp
  constructor
  · intro h; rw [h] at hl; simpa using hl.symm
  · intro h; exact List.eq_nil_of_length_eq_zero (by omega)

theorem may_any' (p s : ByteArray) (w : World) (hp : p.size ≤ 140737488355328) (hm : s.size ≤ 140737488355328) :
    Calls Try.prog 39 #[.string p, .string s] w fun e w' => e = .returned (.bool (mayP p.data.toList s.data.toList)) ∧ Below w.heap.size w w' := by
  have hbel := Below.refl w.heap.size w
  by_cases hs0 : s.size = 0
  · have hs : s = ⟨#[]⟩ := ByteArray.ext (Array.eq_empty_of_size_eq_zero hs0)
    subst hs
    by_cases hp0 : p.size = 0
    · have hs : p = ⟨#[]⟩ := ByteArray.ext (Array.eq_empty_of_size_eq_zero hp0)
      subst hs
      go_enter Try.func39, Try.ntmps39
      go_wp2
      go_ret
      exact ⟨rfl, hbel⟩
    · have hn1 := str_ne hp0
      have hn2 := str_ne2 hp0
      have hE := Lib.hid (show mayP p.data.toList (⟨#[]⟩ : ByteArray).data.toList = false by unfold mayP; rw [if_pos rfl, decide_eq_false_iff_not, nil_iff]; exact hp0)
      rw [hE.out]
      go_enter Try.func39, Try.ntmps39
      go_wp2
      go_ret
      exact ⟨rfl, hbel⟩
  · have hn1 := str_ne hs0
    have hn2 := str_ne2 hs0
    have hns : s.data.toList ≠ [] := fun h => hs0 ((nil_iff s).1 h)
    have hE : mayP p.data.toList s.data.toList = (spaceL s.data.toList && (decide (p.data.toList = []) || localL p.data.toList)) := by unfold mayP; rw [if_neg hns]
    rw [hE]
    rcases Bool.eq_false_or_eq_true (spaceL s.data.toList) with hs | hs
    case' inl => have HS := Lib.hid hs
    case' inr => have HS := Lib.hid hs
    all_goals clear hs hE hns
    case inr =>
      rw [HS.out, Bool.false_and]
      go_enter Try.func39, Try.ntmps39
      go_wp2_with (first
        | (go_at_call 13; refine (space_any _ _ hm).mono ?_; rintro e w' ⟨rfl, hb1⟩; rw [HS.out]; replace hbel := hbel.trans (hb1.mono hbel.size); clear hb1))
      go_ret
      exact ⟨rfl, hbel⟩
    case inl =>
      rw [HS.out, Bool.true_and]
      by_cases hp0 : p.size = 0
      · have hs : p = ⟨#[]⟩ := ByteArray.ext (Array.eq_empty_of_size_eq_zero hp0)
        subst hs
        go_enter Try.func39, Try.ntmps39
        go_wp2_with (first
          | (go_at_call 13; refine (space_any _ _ hm).mono ?_; rintro e w' ⟨rfl, hb1⟩; rw [HS.out]; replace hbel := hbel.trans (hb1.mono hbel.size); clear hb1))
        go_ret
        exact ⟨rfl, hbel⟩
      · have hm1 := str_ne hp0
        have hm2 := str_ne2 hp0
        have hnp : decide (p.data.toList = []) = false := by rw [decide_eq_false_iff_not, nil_iff]; exact hp0
        rw [hnp, Bool.false_or]
        obtain ⟨lb, hlb⟩ : ∃ b, localL p.data.toList = b := ⟨_, rfl⟩
        have HF := Lib.hid hlb
        rw [hlb]
        clear hlb hnp
        go_enter Try.func39, Try.ntmps39
        go_wp2_with (first
          | (go_at_call 13; refine (space_any _ _ hm).mono ?_; rintro e w' ⟨rfl, hb1⟩; rw [HS.out]; replace hbel := hbel.trans (hb1.mono hbel.size); clear hb1)
          | (go_at_call 11; refine (local_any _ _ hp).mono ?_; rintro e w' ⟨rfl, rfl⟩; rw [HF.out]))
        go_ret
        exact ⟨rfl, hbel⟩

/-- The innermost scope's map has turned. -/
theorem bind_done {w w3 w' : World} {base g b cap : Nat} {A : Option Addr} {bs : List Nat} {m m' : Sc} {r : St} (hg : base ≤ g) (hk : Blk w g 52 #[.slice A (bs.length + 1) cap])
    (ho : ORow w base 56 (.slice A (bs.length + 1) cap) ((b :: bs).reverse.map mV)) (hms : MapsAt w base (b :: bs) (m :: r)) (hb : Below w.heap.size w w3)
    (hm : MapAt w' b m') (hg3 : w3.grownBy w' (some b)) : SAt w' base g (m' :: r) ∧ Tch base sObj w3 w' := by
  have h3 : SAt w3 base g (m :: r) := SAt.below ⟨A, cap, b :: bs, hg, hk, ho, hms⟩ hb
  obtain ⟨es, c, hmap⟩ := (hms.2.2.1.below hb hms.2.2.1.lt).obj
  have hk3 := hk.below hb hk.lt
  have ho3 : ORow w3 base _ _ _ := ho.below hb (fun g' hg' => (World.ownsRow.lt ho g' hg').2)
  have hms3 : MapsAt w3 base (b :: bs) (m :: r) := hms.keep fun c hc _ => hb.block c (hms.lt c hc).2
  refine ⟨⟨A, cap, b :: bs, hg, hk3.grown hg3 ?_, ho3.kept hg3 (.inr ?_), hms.1, hms.2.1, hm, hms3.2.2.2.keep fun c hc hmc => ?_⟩, Tch.of_grown hg3 hms.1 hmap trivial⟩
  · intro e
    injection e with e
    subst e
    rw [hk3] at hmap
    cases hmap
  · intro e
    obtain ⟨cur, hcur⟩ := row_obj ho3 e
    rw [hmap] at hcur
    cases hcur
  · refine hg3.block c ?_ ?_
    · obtain ⟨es', c', hmc⟩ := hmc
      exact (Array.getElem?_eq_some_iff.1 hmc).1
    · intro e
      injection e with e
      subst e
      exact hms.2.1 hc

set_option maxHeartbeats 1000000 in
theorem bind_any (w : World) (base g : Nat) (st : St) (p s : ByteArray) (hs : SAt w base g st) (hp : p.size ≤ 140737488355328) (hm : s.size ≤ 140737488355328) :
    Calls Try.prog 22 #[.pointer (some ⟨g, 0, none⟩), .string p, .string s] w fun e w' => e = .returned (.int .i64 (bindE p.data.toList s.data.toList st)) ∧ SAt w' base g (bindS p.data.toList s.data.toList st) ∧ Tch base sObj w w' := by
  match st with
  | [] =>
    have hs' := hs
    obtain ⟨A, cap, bs, hg, hk, ho, hms⟩ := hs
    have hb0 : bs = [] := List.eq_nil_of_length_eq_zero (by have := hms.len; simpa using this)
    subst hb0
    have hlt := hk.lt
    have hc : w.cell? ⟨g, 0, none⟩ = some (.slice A 0 cap) := hk.cell 0
    go_enter Try.func22, Try.ntmps22
    go_wp2
    go_ret
    exact ⟨rfl, hs', Tch.refl _ _ _⟩
  | m :: r =>
    have hs' := hs
    obtain ⟨A, cap, bs, hg, hk, ho, hms⟩ := hs
    match bs, hms with
    | b :: bs, hms =>
    have hlt := hk.lt
    have hc : w.cell? ⟨g, 0, none⟩ = some (.slice A (bs.length + 1) cap) := hk.cell 0
    rcases Bool.eq_false_or_eq_true (mayP p.data.toList s.data.toList) with hy | hy
    case' inl => have HY := Lib.hid hy
    case' inr => have HY := Lib.hid hy
    case inr =>
      have hE : bindE p.data.toList s.data.toList (m :: r) = 1 := by simp only [bindE]; rw [if_pos hy]
      have hS : bindS p.data.toList s.data.toList (m :: r) = m :: r := by simp only [bindS]; rw [hE, if_neg (by decide)]
      rw [hE, hS]
      clear hE hS hy
      go_enter Try.func22, Try.ntmps22
      go_wp2_with (first
        | (go_at_call 39; refine (may_any' _ _ _ hp hm).mono ?_; rintro e w1 ⟨rfl, hb1⟩; rw [HY.out]))
      go_ret
      exact ⟨rfl, hs'.below hb1, Tch.of_below hb1⟩
    case inl =>
      obtain ⟨rb, rfl, hr, hrl, hcap, hcm, _, _⟩ := row_block ho (by simp)
      have hcap2 : bs.length + 1 ≤ cap := by simpa using hcap
      have hcm2 : cap ≤ 9223372036854775807 := by simpa [maxLen] using hcm
      have hcl : w.cell? ⟨rb, bs.length, none⟩ = some (.map (some b)) := by
        obtain ⟨g', h1, _, _, h4⟩ := ho.cell (k := bs.length) (by simp)
        injection h1 with h1
        injection h1 with h1
        subst h1
        rw [h4]
        simp [mV]
      have hmb := hms.2.2.1
      have hbl := hmb.lt
      go_enter Try.func22, Try.ntmps22
      go_wp2_with fail
      refine (may_any' _ _ _ hp hm).mono ?_
      rintro e w1 ⟨rfl, hb1⟩
      rw [HY.out]
      have hs1 := hs'.below hb1
      have hk1 := hk.below hb1 hlt
      have hc1 : w1.cell? ⟨g, 0, none⟩ = some (.slice (some ⟨rb, 0, none⟩) (bs.length + 1) cap) := hk1.cell 0
      have hcl1 : w1.cell? ⟨rb, bs.length, none⟩ = some (.map (some b)) := (hb1.cell (p := ⟨rb, bs.length, none⟩) hrl).trans hcl
      have hmb1 := hmb.below hb1 hbl
      have T1 : Tch base sObj w w1 := Tch.of_below hb1
      have hbel := hb1
      clear hc hcl hmb hb1
      go_wp2_with fail
      go_quiet (fail)
      rename_i nq
      replace hbel := below_drewN hbel nq
      have hs2 : SAt (w1.drewN nq) base g (m :: r) := hs1.below (below_drewN (Below.refl _ _) nq)
      have hmb2 : MapAt (w1.drewN nq) b m := hmb1
      have hlt2 : g < (w1.drewN nq).heap.size := hs2.lt
      have T2 : Tch base sObj w (w1.drewN nq) := T1.drewN nq
      generalize w1.drewN nq = w2 at *
      clear hs1 hmb1 T1 hk1 hc1 hcl1
      rcases Bool.eq_false_or_eq_true (lookP p.data.toList m).isSome with hl | hl
      case' inl => have HL := Lib.hid hl
      case' inr => have HL := Lib.hid hl
      case inl =>
        have hE : bindE p.data.toList s.data.toList (m :: r) = 6 := by simp only [bindE]; rw [hy, if_neg (by decide), if_pos hl]
        have hS : bindS p.data.toList s.data.toList (m :: r) = m :: r := by simp only [bindS]; rw [hE, if_neg (by decide)]
        have HE := Lib.hid hE
        have HS := Lib.hid hS
        clear hE hS hl hy
        go_wp2_with (first
          | (at_lookup; refine wp_look (m := m) (b := b) hmb2 rfl _ _ rfl p hp rfl rfl ?_; intro x _; rw [HL.out]))
        go_ret
        rw [HE.out, HS.out]
        exact ⟨rfl, hs2.below ((Below.refl w2.heap.size w2).alloc (Nat.le_refl _) _), T2.alloc _⟩
      case inr =>
        have hlo : lookP p.data.toList m = none := by cases hh : lookP p.data.toList m with
          | none => rfl
          | some _ => rw [hh] at hl; cases hl
        by_cases h10 : 10 ≤ m.length
        · have hE : bindE p.data.toList s.data.toList (m :: r) = 7 := by simp only [bindE]; rw [hy, if_neg (by decide), hl, if_neg (by decide), if_pos h10]
          have hS : bindS p.data.toList s.data.toList (m :: r) = m :: r := by simp only [bindS]; rw [hE, if_neg (by decide)]
          have HE := Lib.hid hE
          have HS := Lib.hid hS
          clear hE hS hl hy hlo
          go_wp2_with (first
            | (at_lookup; refine wp_look (m := m) (b := b) hmb2 rfl _ _ rfl p hp rfl rfl ?_; intro x _; rw [HL.out]; replace hmb2 := hmb2.below ((Below.refl w2.heap.size w2).alloc (Nat.le_refl _) (.cells #[.string x] 58)) hmb2.lt)
            | (at_len; refine wp_mlen (m := m) (b := b) hmb2 rfl _ rfl rfl ?_))
          go_ret
          rw [HE.out, HS.out]
          exact ⟨rfl, hs2.below ((Below.refl w2.heap.size w2).alloc (Nat.le_refl _) _), T2.alloc _⟩
        · have hE : bindE p.data.toList s.data.toList (m :: r) = 0 := by simp only [bindE]; rw [hy, if_neg (by decide), hl, if_neg (by decide), if_neg h10]
          have hS : bindS p.data.toList s.data.toList (m :: r) = ((p.data.toList, s.data.toList) :: m) :: r := by simp only [bindS]; rw [hE, if_pos rfl]
          have HE := Lib.hid hE
          have HS := Lib.hid hS
          have HO := Lib.hid hlo
          clear hE hS hl hy hlo
          go_wp2_with (first
            | (at_lookup; refine wp_look (m := m) (b := b) hmb2 rfl _ _ rfl p hp rfl rfl ?_; intro x _; rw [HL.out]; replace hmb2 := hmb2.below ((Below.refl w2.heap.size w2).alloc (Nat.le_refl _) (.cells #[.string x] 58)) hmb2.lt; replace hbel := hbel.alloc hbel.size (.cells #[.string x] 58); replace T2 := T2.alloc (.cells #[.string x] 58))
            | (at_len; refine wp_mlen (m := m) (b := b) hmb2 rfl _ rfl rfl ?_)
            | (go_at_call 27; refine (clone_any _ _ (by first | exact hp | exact hm)).mono ?_; rintro e wc ⟨rfl, hbc⟩; replace hmb2 := hmb2.below hbc hmb2.lt; replace hbel := hbel.trans (hbc.mono hbel.size); replace T2 := T2.trans (Tch.of_below hbc); clear hbc)
            | (at_mapUpdate; refine wp_mput (m := m) (b := b) hmb2 rfl _ _ _ rfl p s hp (by omega) HO.out rfl rfl rfl ?_; intro w5 hm5 hg5))
          go_ret
          rw [HE.out, HS.out]
          obtain ⟨r1, r2⟩ := bind_done hg hk ho hms hbel hm5 hg5
          exact ⟨rfl, r1, T2.trans r2⟩
end Go.Proofs.Ytgpnhgjiglnmmaa

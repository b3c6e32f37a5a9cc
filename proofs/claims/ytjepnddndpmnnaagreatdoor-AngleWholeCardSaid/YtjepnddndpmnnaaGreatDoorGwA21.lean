/-
  names: Bind of a Scope.
  A range over a function that is a method's value: rounds are counted, the function only reads between them, and a round may return. No program is read here.
  names: the open scopes visited from the innermost on.
-/
import Derived.Test.YtjepnddndpmnnaaGreatDoorGwA20
import Derived.Deep.QuietTactic
import Derived.BigQuiet
import Derived.IntWalk
import Derived.RangeFuncFrom
import Derived.RangeFuncNested
import Derived.RangeFuncCalls
import Derived.RangeFuncLeaves
import Derived.RangeFuncBound
import Derived.Shelf.Abstract
import Derived.Shelf.RegionOpen
import Derived.OwnWalkIn
import Derived.TacticsInMore
import Derived.LoopNIn
import Derived.LoopIn
namespace Go.Proofs.YtjepnddndpmnnaaGreatDoor.Ns
open Go.RowKit Go.Maps
set_option maxRecDepth 100000
set_option linter.unusedSectionVars false
variable [Fo]

theorem nil_iff (s : ByteArray) : s.data.toList = [] ↔ s.size = 0 := by
  have hl : s.data.toList.length = s.size := by simp
  constructor
  · intro h; rw [h] at hl; simpa using hl.symm
  · intro h; exact List.eq_nil_of_length_eq_zero (by omega)

theorem may_any' (p s : ByteArray) (w : World) (hp : p.size ≤ 140737488355328) (hm : s.size ≤ 140737488355328) :
    Calls Tryz.prog 175 #[.string p, .string s] w fun e w' => e = .returned (.bool (mayP p.data.toList s.data.toList)) ∧ Below w.heap.size w w' := by
  have hbel := Below.refl w.heap.size w
  by_cases hs0 : s.size = 0
  · have hs : s = ⟨#[]⟩ := ByteArray.ext (Array.eq_empty_of_size_eq_zero hs0)
    subst hs
    by_cases hp0 : p.size = 0
    · have hs : p = ⟨#[]⟩ := ByteArray.ext (Array.eq_empty_of_size_eq_zero hp0)
      subst hs
      go_enter Tryz.func175, Tryz.ntmps175
      go_wp2
      go_ret
      exact ⟨rfl, hbel⟩
    · have hn1 := str_ne hp0
      have hn2 := str_ne2 hp0
      have hE := Lib.hid (show mayP p.data.toList (⟨#[]⟩ : ByteArray).data.toList = false by unfold mayP; rw [if_pos rfl, decide_eq_false_iff_not, nil_iff]; exact hp0)
      rw [hE.out]
      go_enter Tryz.func175, Tryz.ntmps175
      go_wp2
      go_ret
      exact ⟨rfl, hbel⟩
  · have hn1 := str_ne hs0
    have hn2 := str_ne2 hs0
    have hns : s.data.toList ≠ [] := fun h => hs0 ((nil_iff s).1 h)
    have hE : mayP p.data.toList s.data.toList = (spaceL s.data.toList && (decide (p.data.toList = []) || localL p.data.toList)) := by unfold mayP; rw [if_neg hns]
    rw [hE]
    rcases Bool.eq_false_or_eq_true (spaceL s.data.toList) with hs | hs
    case' inl => have HS := Lib.hid hs
    case' inr => have HS := Lib.hid hs
    all_goals clear hs hE hns
    case inr =>
      rw [HS.out, Bool.false_and]
      go_enter Tryz.func175, Tryz.ntmps175
      go_wp2_with (first
        | (go_at_call 39; refine (space_any _ _ hm).mono ?_; rintro e w' ⟨rfl, hb1⟩; rw [HS.out]; replace hbel := hbel.trans (hb1.mono hbel.size); clear hb1))
      go_ret
      exact ⟨rfl, hbel⟩
    case inl =>
      rw [HS.out, Bool.true_and]
      by_cases hp0 : p.size = 0
      · have hs : p = ⟨#[]⟩ := ByteArray.ext (Array.eq_empty_of_size_eq_zero hp0)
        subst hs
        go_enter Tryz.func175, Tryz.ntmps175
        go_wp2_with (first
          | (go_at_call 39; refine (space_any _ _ hm).mono ?_; rintro e w' ⟨rfl, hb1⟩; rw [HS.out]; replace hbel := hbel.trans (hb1.mono hbel.size); clear hb1))
        go_ret
        exact ⟨rfl, hbel⟩
      · have hm1 := str_ne hp0
        have hm2 := str_ne2 hp0
        have hnp : decide (p.data.toList = []) = false := by rw [decide_eq_false_iff_not, nil_iff]; exact hp0
        rw [hnp, Bool.false_or]
        obtain ⟨lb, hlb⟩ : ∃ b, localL p.data.toList = b := ⟨_, rfl⟩
        have HF := Lib.hid hlb
        rw [hlb]
        clear hlb hnp
        go_enter Tryz.func175, Tryz.ntmps175
        go_wp2_with (first
          | (go_at_call 39; refine (space_any _ _ hm).mono ?_; rintro e w' ⟨rfl, hb1⟩; rw [HS.out]; replace hbel := hbel.trans (hb1.mono hbel.size); clear hb1)
          | (go_at_call 40; refine (local_any _ _ hp).mono ?_; rintro e w' ⟨rfl, rfl⟩; rw [HF.out]))
        go_ret
        exact ⟨rfl, hbel⟩

/-- The innermost scope's map has turned. -/
theorem bind_done {w w3 w' : World} {base g b cap : Nat} {A : Option Addr} {bs : List Nat} {m m' : Sc} {r : St} {S : Nat → Prop} (hSl : ∀ k, S k → k < w.heap.size) (hg : base ≤ g ∧ S g) (hk : Blk w g 88 #[.slice A (bs.length + 1) cap])
    (ho : ORow w base 220 (.slice A (bs.length + 1) cap) ((b :: bs).reverse.map mV)) (hSr : ∀ r, A = some ⟨r, 0, none⟩ → S r) (hms : MapsAt w base S (b :: bs) (m :: r)) (hb : Below w.heap.size w w3)
    (hm : MapAt w' b m') (hg3 : w3.grownBy w' (some b)) : SAt w' base S g (m' :: r) ∧ TS S anyO w3 w' := by
  have h3 : SAt w3 base S g (m :: r) := SAt.below ⟨hSl, A, cap, b :: bs, hg, hk, ho, hSr, hms⟩ hb
  obtain ⟨es, c, hmap⟩ := (hms.2.2.1.below hb hms.2.2.1.lt).obj
  have hk3 := hk.below hb hk.lt
  have ho3 : ORow w3 base _ _ _ := ho.below hb (fun g' hg' => (World.ownsRow.lt ho g' hg').2)
  have hms3 : MapsAt w3 base S (b :: bs) (m :: r) := hms.keep fun c hc _ => hb.block c (hms.lt c hc).2
  refine ⟨⟨fun k hk => Nat.lt_of_lt_of_le (h3.1 k hk) hg3.size, A, cap, b :: bs, hg, hk3.grown hg3 ?_, ho3.kept hg3 (.inr ?_), hSr, hms.1, hms.2.1, hm, hms3.2.2.2.keep fun c hc hmc => ?_⟩, TS.of_grown hg3 hms.1.2 hmap trivial⟩
  · intro e
    injection e with e
    subst e
    rw [hk3] at hmap
    cases hmap
  · intro e
    obtain ⟨cur, hcur⟩ := row_obj ho3 e
    rw [hmap] at hcur
    cases hcur
  · refine hg3.block c ?_ ?_
    · obtain ⟨es', c', hmc⟩ := hmc
      exact (Array.getElem?_eq_some_iff.1 hmc).1
    · intro e
      injection e with e
      subst e
      exact hms.2.1 hc

set_option maxHeartbeats 1000000 in
theorem bind_any (w : World) (base g : Nat) (S : Nat → Prop) (st : St) (p s : ByteArray) (hs : SAt w base S g st) (hp : p.size ≤ 140737488355328) (hm : s.size ≤ 140737488355328) :
    Calls Tryz.prog 171 #[.pointer (some ⟨g, 0, none⟩), .string p, .string s] w fun e w' => e = .returned (.int .i64 (bindE p.data.toList s.data.toList st)) ∧ SAt w' base S g (bindS p.data.toList s.data.toList st) ∧ TS S anyO w w' := by
  match st with
  | [] =>
    have hs' := hs
    obtain ⟨hSl, A, cap, bs, hg, hk, ho, hSr, hms⟩ := hs
    have hb0 : bs = [] := List.eq_nil_of_length_eq_zero (by have := hms.len; simpa using this)
    subst hb0
    have hlt := hk.lt
    have hc : w.cell? ⟨g, 0, none⟩ = some (.slice A 0 cap) := hk.cell 0
    go_enter Tryz.func171, Tryz.ntmps171
    go_wp2
    go_ret
    exact ⟨rfl, hs', TS.refl _ _ _⟩
  | m :: r =>
    have hs' := hs
    obtain ⟨hSl, A, cap, bs, hg, hk, ho, hSr, hms⟩ := hs
    match bs, hms with
    | b :: bs, hms =>
    have hlt := hk.lt
    have hc : w.cell? ⟨g, 0, none⟩ = some (.slice A (bs.length + 1) cap) := hk.cell 0
    rcases Bool.eq_false_or_eq_true (mayP p.data.toList s.data.toList) with hy | hy
    case' inl => have HY := Lib.hid hy
    case' inr => have HY := Lib.hid hy
    case inr =>
      have hE : bindE p.data.toList s.data.toList (m :: r) = 1 := by simp only [bindE]; rw [if_pos hy]
      have hS : bindS p.data.toList s.data.toList (m :: r) = m :: r := by simp only [bindS]; rw [hE, if_neg (by decide)]
      rw [hE, hS]
      clear hE hS hy
      go_enter Tryz.func171, Tryz.ntmps171
      go_wp2_with (first
        | (go_at_call 175; refine (may_any' _ _ _ hp hm).mono ?_; rintro e w1 ⟨rfl, hb1⟩; rw [HY.out]))
      go_ret
      exact ⟨rfl, hs'.below hb1, TS.of_below hb1⟩
    case inl =>
      obtain ⟨rb, rfl, hr, hrl, hcap, hcm, _, _⟩ := row_block ho (by simp)
      have hcap2 : bs.length + 1 ≤ cap := by simpa using hcap
      have hcm2 : cap ≤ 9223372036854775807 := by simpa [maxLen] using hcm
      have hcl : w.cell? ⟨rb, bs.length, none⟩ = some (.map (some b)) := by
        obtain ⟨g', h1, _, _, h4⟩ := ho.cell (k := bs.length) (by simp)
        injection h1 with h1
        injection h1 with h1
        subst h1
        rw [h4]
        simp [mV]
      have hmb := hms.2.2.1
      have hbl := hmb.lt
      go_enter Tryz.func171, Tryz.ntmps171
      go_wp2_with fail
      refine (may_any' _ _ _ hp hm).mono ?_
      rintro e w1 ⟨rfl, hb1⟩
      rw [HY.out]
      have hs1 := hs'.below hb1
      have hk1 := hk.below hb1 hlt
      have hc1 : w1.cell? ⟨g, 0, none⟩ = some (.slice (some ⟨rb, 0, none⟩) (bs.length + 1) cap) := hk1.cell 0
      have hcl1 : w1.cell? ⟨rb, bs.length, none⟩ = some (.map (some b)) := (hb1.cell (p := ⟨rb, bs.length, none⟩) hrl).trans hcl
      have hmb1 := hmb.below hb1 hbl
      have T1 : TS S anyO w w1 := TS.of_below hb1
      have hbel := hb1
      clear hc hcl hmb hb1
      go_wp2_with fail
      go_quiet (fail)
      rename_i nq
      replace hbel := below_drewN hbel nq
      have hs2 : SAt (w1.drewN nq) base S g (m :: r) := hs1.below (below_drewN (Below.refl _ _) nq)
      have hmb2 : MapAt (w1.drewN nq) b m := hmb1
      have hlt2 : g < (w1.drewN nq).heap.size := hs2.lt
      have T2 : TS S anyO w (w1.drewN nq) := T1.drewN nq
      generalize w1.drewN nq = w2 at *
      clear hs1 hmb1 T1 hk1 hc1 hcl1
      rcases Bool.eq_false_or_eq_true (lookP p.data.toList m).isSome with hl | hl
      case' inl => have HL := Lib.hid hl
      case' inr => have HL := Lib.hid hl
      case inl =>
        have hE : bindE p.data.toList s.data.toList (m :: r) = 6 := by simp only [bindE]; rw [hy, if_neg (by decide), if_pos hl]
        have hS : bindS p.data.toList s.data.toList (m :: r) = m :: r := by simp only [bindS]; rw [hE, if_neg (by decide)]
        have HE := Lib.hid hE
        have HS := Lib.hid hS
        clear hE hS hl hy
        go_wp2_with (first
          | (at_lookup; refine wp_look (m := m) (b := b) hmb2 rfl _ _ rfl p hp rfl rfl ?_; intro x _; rw [HL.out]))
        go_ret
        rw [HE.out, HS.out]
        exact ⟨rfl, hs2.below ((Below.refl w2.heap.size w2).alloc (Nat.le_refl _) _), T2.alloc _⟩
      case inr =>
        have hlo : lookP p.data.toList m = none := by cases hh : lookP p.data.toList m with
          | none => rfl
          | some _ => rw [hh] at hl; cases hl
        by_cases h10 : 10 ≤ m.length
        · have hE : bindE p.data.toList s.data.toList (m :: r) = 7 := by simp only [bindE]; rw [hy, if_neg (by decide), hl, if_neg (by decide), if_pos h10]
          have hS : bindS p.data.toList s.data.toList (m :: r) = m :: r := by simp only [bindS]; rw [hE, if_neg (by decide)]
          have HE := Lib.hid hE
          have HS := Lib.hid hS
          clear hE hS hl hy hlo
          go_wp2_with (first
            | (at_lookup; refine wp_look (m := m) (b := b) hmb2 rfl _ _ rfl p hp rfl rfl ?_; intro x _; rw [HL.out]; replace hmb2 := hmb2.below ((Below.refl w2.heap.size w2).alloc (Nat.le_refl _) (.cells #[.string x] 223)) hmb2.lt)
            | (at_len; refine wp_mlen (m := m) (b := b) hmb2 rfl _ rfl rfl ?_))
          go_ret
          rw [HE.out, HS.out]
          exact ⟨rfl, hs2.below ((Below.refl w2.heap.size w2).alloc (Nat.le_refl _) _), T2.alloc _⟩
        · have hE : bindE p.data.toList s.data.toList (m :: r) = 0 := by simp only [bindE]; rw [hy, if_neg (by decide), hl, if_neg (by decide), if_neg h10]
          have hS : bindS p.data.toList s.data.toList (m :: r) = ((p.data.toList, s.data.toList) :: m) :: r := by simp only [bindS]; rw [hE, if_pos rfl]
          have HE := Lib.hid hE
          have HS := Lib.hid hS
          have HO := Lib.hid hlo
          clear hE hS hl hy hlo
          go_wp2_with (first
            | (at_lookup; refine wp_look (m := m) (b := b) hmb2 rfl _ _ rfl p hp rfl rfl ?_; intro x _; rw [HL.out]; replace hmb2 := hmb2.below ((Below.refl w2.heap.size w2).alloc (Nat.le_refl _) (.cells #[.string x] 223)) hmb2.lt; replace hbel := hbel.alloc hbel.size (.cells #[.string x] 223); replace T2 := T2.alloc (.cells #[.string x] 223))
            | (at_len; refine wp_mlen (m := m) (b := b) hmb2 rfl _ rfl rfl ?_)
            | (go_at_call 34; refine (clone_any _ _ (by first | exact hp | exact hm)).mono ?_; rintro e wc ⟨rfl, hbc⟩; replace hmb2 := hmb2.below hbc hmb2.lt; replace hbel := hbel.trans (hbc.mono hbel.size); replace T2 := T2.trans (TS.of_below hbc); clear hbc)
            | (at_mapUpdate; refine wp_mput (m := m) (b := b) hmb2 rfl _ _ _ rfl p s hp (by omega) HO.out rfl rfl rfl ?_; intro w5 hm5 hg5))
          go_ret
          rw [HE.out, HS.out]
          obtain ⟨r1, r2⟩ := bind_done hSl hg hk ho hSr hms hbel hm5 hg5
          exact ⟨rfl, r1, T2.trans r2⟩
end Go.Proofs.YtjepnddndpmnnaaGreatDoor.Ns
namespace Go.Proofs.YtjepnddndpmnnaaGreatDoor
open Go Go.RowKit

/-- The function calls what it is handed once for each number below N, in turn, until that says no. -/
def Visits (F : Fence) (n : Nat) (P : Program) (f : Nat) (fa lb : Array Value) (x : Nat → Array Value) (N : Nat) (Kp : World → World → Prop) (w0 : World) : Prop :=
  ∀ (l : Nat) (J : Nat → World → Prop) (Jx : World → Prop) (W : World), Kp w0 W →
    (∀ k W1, k < N → J k W1 → YieldAt F (n - 1) P l (x k) W1 fun e W2 => (e = .returned (.bool true) ∧ J (k + 1) W2 ∧ Kp W1 W2) ∨ (e = .returned (.bool false) ∧ Jx W2)) →
    J 0 W → CallsIn F n P f (fa ++ #[.func (.yield l) #[] #[]] ++ lb) W fun e W2 => (∃ v, e = .returned v) ∧ (J N W2 ∨ Jx W2)

/-- How a round ends: it goes on, or it returns. -/
def RoundEnds (Kp : World → World → Prop) (I : Nat → World → Prop) (Ix : World → Prop) (k : Nat) (W : World) (e : Exit) (_ : Act) (W2 : World) : Prop :=
  (e = .normal ∧ KeepsOthers W W2 ∧ Kp W W2 ∧ I (k + 1) W2) ∨ (e = .ret ∧ KeepsOthers W W2 ∧ Ix W2)

/-- What holds is untouched by what the loop keeps for itself. -/
def Apart (B : Nat) (I : World → Prop) : Prop := ∀ W l o o', I W → B ≤ l → W.heap[l]? = some o → o.isCells = false → I (W.putObj l o')

theorem range_method {F : Fence} {n : Nat} {P : Program} {g : Operand} {ps : Array Tmp} {assign body : Code} {Q : Exit → Act → World → Prop} {a : Act} {w : World}
    (hro : F.round = none) (h1 : 1 ≤ n) {f : Nat} {fa lb : Array Value} (hg : a.eval g = .func (.func f) fa lb) (hf : F.fn f) (ef : ∀ args w, (callFunc f args).run P w = .ok (.enter f args) w)
    {x : Nat → Array Value} {N : Nat} {Kp : World → World → Prop} {w0 : World} (hv : Visits F (n - 1) P f fa lb x N Kp w0) (hx : ∀ k, (x k).size = ps.size)
    (kt : ∀ {A B C : World}, Kp A B → Kp B C → Kp A C) (k0 : ∀ o o', Kp w0 ((w.alloc o).alloc o')) (kp : ∀ W l o o', w.heap.size ≤ l → W.heap[l]? = some o → o.isCells = false → Kp W (W.putObj l o'))
    (I : Nat → World → Prop) (Ix : World → Prop) (hI : ∀ k, Apart w.heap.size (I k)) (hX : Apart w.heap.size Ix) (h0 : ∀ o o', I 0 ((w.alloc o).alloc o')) (a₁ : Nat → Act)
    (hassign : ∀ (l k : Nat) (W : World) (K : Act → World → Prop), K (a₁ k) W →
      assign.wpIn (F.inRound l) (n - 1 - 1) P (Exit.then K (fun _ _ _ => False)) { tmps := (ps.zip (x k)).foldl (fun t (p, v) => t.setIfInBounds p v) a.tmps, defers := [] } W)
    (hbody : ∀ (l k : Nat) (W : World), k < N → I k W → body.wpIn (F.inRound l) (n - 1 - 1) P (RoundEnds Kp I Ix k W) (a₁ k) W)
    (hdone : ∀ (D : Nat) (W : World), w.heap.size ≤ D → I N W → W.heap[D]? = some (.deferred (some [])) → Q .normal { a with defers := { target := .collected D, args := #[] } :: a.defers } W)
    (hstop : ∀ (D : Nat) (W : World), w.heap.size ≤ D → Ix W → W.heap[D]? = some (.deferred (some [])) → Code.ret.wpIn F n P Q { a with defers := { target := .collected D, args := #[] } :: a.defers } W) :
    (Code.rangeFunc g ps assign body).wpIn F n P Q a w := by
  refine wpIn_rangeFunc fun fn hfn => ?_
  rw [hro]
  -- the loop's own record, and the block of the rounds' deferred calls
  let R : LoopState → Option Code → Loop := fun st pe => { state := st, pending := pe, fn, tmps := a.tmps, params := ps, assign, body, defers := w.heap.size }
  let L := w.heap.size + 1
  let At (st : LoopState) (pe : Option Code) (W : World) : Prop := W.heap[L]? = some (.loop (R st pe)) ∧ W.heap[w.heap.size]? = some (.deferred (some []))
  have turn : ∀ {st pe st' pe' W}, At st pe W → At st' pe' (W.putObj L (.loop (R st' pe'))) := fun h =>
    ⟨World.putObj_heap_same (Array.getElem?_eq_some_iff.1 h.1).1, (World.putObj_heap_other (by show w.heap.size ≠ w.heap.size + 1; omega)).trans h.2⟩
  have begun : At .ready none ((w.alloc (.deferred (some []))).alloc (.loop (R .ready none))) := by
    refine ⟨?_, (Below.heap_alloc _ _ _ (by simp)).trans (World.alloc_heap_new w _)⟩
    have := World.alloc_heap_new (w.alloc (.deferred (some []))) (.loop (R .ready none))
    rwa [World.size_alloc] at this
  refine ⟨L, [{ target := .collected w.heap.size, args := #[] }], _, { target := .fn (.func f) lb, args := fa ++ #[.func (.yield L) #[] #[]] }, _, f, fa ++ #[.func (.yield L) #[] #[]] ++ lb, _,
    run_enterLoop_outer _ _ _ _ _, (?_ : _ = Result.ok _ ((w.alloc (.deferred (some []))).alloc (.loop (R .ready none)))), fun f' hf' => ?_, (?_ : _ = Result.ok _ ((w.alloc (.deferred (some []))).alloc (.loop (R .ready none)))), fun _ => h1, ?_⟩
  · simp only [resolve, hg]
    simp [go_sem, R, L]
  · simp [Target.leads] at hf'
    subst hf'
    exact hf
  · simp [invoke, go_sem, ef]
  refine (hv L (fun k W => I k W ∧ At .ready none W) (fun W => Ix W ∧ At .done (some .ret) W) _ (k0 _ _) ?_ ⟨h0 _ _, begun⟩).mono ?_
  · -- one round
    rintro k W hk ⟨hi, hat⟩
    refine ⟨fn, _, assign, body, run_yield (r := R .ready none) hat.1 (hx k), roundIn_of_wpIn hfn (hassign _ k W _ ⟨_, run_beginRound (r := R .ready none) hat.1 rfl, ?_⟩)⟩
    have hb := turn (st' := .busy) (pe' := none) hat
    have hk1 : Kp W (W.putObj L (.loop (R .busy none))) := kp _ _ _ _ (Nat.le_succ _) hat.1 rfl
    refine wpIn_mono (hbody _ k _ hk (hI k _ _ _ _ hi (Nat.le_succ _) hat.1 rfl)) fun e a3 W3 hp => ?_
    rcases hp with ⟨rfl, ho, hk3, hi3⟩ | ⟨rfl, ho, hi3⟩
    · have h3 : At .busy none W3 := ⟨ho.same _ _ hb.1 rfl, ho.same _ _ hb.2 rfl⟩
      exact ⟨_, _, run_endRound none h3.1, .inl ⟨rfl, ⟨hI _ _ _ _ _ hi3 (Nat.le_succ _) h3.1 rfl, turn h3⟩, kt (kt hk1 hk3) (kp _ _ _ _ (Nat.le_succ _) h3.1 rfl)⟩⟩
    · have h3 : At .busy none W3 := ⟨ho.same _ _ hb.1 rfl, ho.same _ _ hb.2 rfl⟩
      exact ⟨_, _, run_endRound (some .ret) h3.1, .inr ⟨rfl, hX _ _ _ _ hi3 (Nat.le_succ _) h3.1 rfl, turn h3⟩⟩
  · -- behind it
    rintro e W2 ⟨⟨v, rfl⟩, (⟨hi, hat⟩ | ⟨hi, hat⟩)⟩
    · exact ⟨none, _, run_endLoop (r := R .ready none) hat.1 (by simp [R]), hdone _ _ (Nat.le_refl _) (hI _ _ _ _ _ hi (Nat.le_succ _) hat.1 rfl) ((World.putObj_heap_other (by show w.heap.size ≠ w.heap.size + 1; omega)).trans hat.2)⟩
    · exact ⟨some .ret, _, run_endLoop (r := R .done (some .ret)) hat.1 (by simp [R]), hstop _ _ (Nat.le_refl _) (hX _ _ _ _ hi (Nat.le_succ _) hat.1 rfl) ((World.putObj_heap_other (by show w.heap.size ≠ w.heap.size + 1; omega)).trans hat.2)⟩
end Go.Proofs.YtjepnddndpmnnaaGreatDoor
namespace Go.Proofs.YtjepnddndpmnnaaGreatDoor.Ns
open Go.RowKit Go.Maps Go.Shelf
set_option linter.unusedSectionVars false
variable [Fo]
attribute [local go_sem] Oper.semAt_some
set_option maxRecDepth 100000

set_option maxHeartbeats 2000000 in
theorem visits_any (F : Fence) (n : Nat) (hF : F.fn 178) (hro : F.round = none) (hn : 1 ≤ n) (w0 : World) (n0 base g : Nat) (A : Option Addr) (cap : Nat) (bs : List Nat)
    (hg : g < n0) (hk : Blk w0 g 88 #[.slice A bs.length cap]) (ho : ORow w0 base 220 (.slice A bs.length cap) (bs.reverse.map mV)) (hr : ∀ r, A = some ⟨r, 0, none⟩ → r < n0) :
    Visits F n Tryz.prog 178 #[.pointer (some ⟨g, 0, none⟩)] #[] (fun k => #[mV (bs.getD k 0)]) bs.length (Below n0) w0 := by
  intro l J Jx W hW hY h0
  have hcW : W.cell? ⟨g, 0, none⟩ = some (.slice A bs.length cap) := (hW.cell (p := ⟨g, 0, none⟩) hg).trans (hk.cell 0)
  show CallsIn F n Tryz.prog 178 #[.pointer (some ⟨g, 0, none⟩), .func (.yield l) #[] #[]] W _
  refine callsIn_of_wp Tryz.func178 rfl hF ?_ hro
  simp only [Tryz.ntmps178, List.size_toArray, List.length_cons, List.length_nil, Nat.reduceAdd, Nat.reduceSub, Array.replicate_succ, Array.replicate_zero, List.push_toArray, List.append_toArray, List.nil_append, List.cons_append]
  have hl63 : bs.length ≤ 9223372036854775807 := by
    rcases ho.form with ⟨_, h⟩ | ⟨g', c', hv, _, _, hlc, hcm⟩
    · simp at h; subst h; simp
    · simp only [maxLen] at hcm; simp at hlc; omega
  gi_wp2
  gi_loopw [4] (fun i wr => ∃ k : Nat, k ≤ bs.length ∧ i = .int .i64 ((bs.length : Int) - 1 - (k : Int)) ∧ J k wr ∧ Below n0 w0 wr) (fun i _ => (intOf i + 1).toNat)
  case atStart => exact ⟨0, Nat.zero_le _, by simp, h0, hW⟩
  case round =>
    obtain ⟨k, hkn, rfl, hJ, hwr⟩ := hrel
    have hcr : wr.cell? ⟨g, 0, none⟩ = some (.slice A bs.length cap) := (hwr.cell (p := ⟨g, 0, none⟩) hg).trans (hk.cell 0)
    by_cases hlt : k < bs.length
    · obtain ⟨r, rfl, _, hrl, hcap, hcm, _, _⟩ := row_block ho (by simp; omega)
      obtain ⟨j, hj⟩ : ∃ j : Nat, j = bs.length - 1 - k := ⟨_, rfl⟩
      have hjl : j < bs.length := by omega
      have hcl : wr.cell? ⟨r, j, none⟩ = some (mV (bs.getD k 0)) := by
        rw [hwr.cell (p := ⟨r, j, none⟩) (hr r rfl)]
        obtain ⟨g', h1, _, _, h4⟩ := ho.cell (k := j) (by simpa using hjl)
        injection h1 with h1
        injection h1 with h1
        subst h1
        rw [h4]
        simp only [List.getElem_map, List.getElem_reverse]
        rw [List.getD_eq_getElem?_getD, List.getElem?_eq_getElem hlt]
        simp only [Option.getD_some]
        have hx : bs.length - 1 - j = k := by omega
        simp only [hx]
      have hji : (bs.length : Int) - 1 - (k : Int) = (j : Int) := by omega
      obtain ⟨fn, tmps, assign, body, hy, hR⟩ := hY k wr hlt hJ
      generalize bs.getD k 0 = b at *
      rw [hji]
      have hcap2 : bs.length ≤ cap := by simpa using hcap
      have hcm2 : cap ≤ 9223372036854775807 := by simpa [maxLen] using hcm
      have HJ := Lib.hid hj
      have HI := Lib.hid hji
      clear hj hji
      unfold mV at hcl hy
      clear hr ho hk hcW
      gi_wp2
      refine hR.mono ?_
      rintro e W3 (⟨rfl, hJ3, hk3⟩ | ⟨rfl, hJx3⟩)
      · gi_wp2
        go_roundw
        case rel => exact ⟨k + 1, hlt, by have := HI.out; first | go_num | (congr 1; omega), hJ3, hwr.trans hk3⟩
        case measure => first | (simp [intOf]; done) | (simp [intOf]; omega)
      · gi_wp2
        refine bodyPost_ret (results_none rfl _ _ _) rfl ?_
        exact ⟨⟨_, rfl⟩, .inr hJx3⟩
    · have hke : k = bs.length := by omega
      subst hke
      have hm1 : (bs.length : Int) - 1 - (bs.length : Int) = -1 := by omega
      rw [hm1]
      clear hm1
      gi_wp2
      go_end0
      exact ⟨⟨_, rfl⟩, .inl hJ⟩
end Go.Proofs.YtjepnddndpmnnaaGreatDoor.Ns

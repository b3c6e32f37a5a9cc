/-
  The reference's entities (hexaplaref13): Get and Define.
-/
import Derived.Test.YtmbjeagmnjkemaaEtR
namespace Go.Proofs.Ytmbjeagmnjkemaa
open Go.RowKit Go.Maps
set_option maxRecDepth 100000
set_option linter.unusedSimpArgs false
set_option linter.unusedVariables false
set_option linter.unusedSectionVars false
variable [Fo]

theorem fourEnd_some {n t : List UInt8} (h : fourE n = some t) : FourEnd n = .returned (.tuple #[.string ⟨t.toArray⟩, .bool true]) := by unfold FourEnd; rw [h]
theorem fourEnd_none {n : List UInt8} (h : fourE n = none) : FourEnd n = .returned (.tuple #[.string ⟨#[]⟩, .bool false]) := by unfold FourEnd; rw [h]

set_option maxHeartbeats 1000000 in
theorem rgetE_any (w : World) (base h : Nat) (L : EnL) (told : Nat) (n : ByteArray) (hr : REAt w base h L told) (hn : n.size ≤ 140737488355328) :
    Calls Try.prog 20 #[.pointer (some ⟨h, 0, none⟩), .string n] w fun x w' => x = .returned (.tuple #[.string ⟨(getE L told n.data.toList).s.toArray⟩, .int .i64 (getE L told n.data.toList).e]) ∧ REAt w' base h L (getE L told n.data.toList).told ∧ TR base w w' := by
  cases h4 : fourE n.data.toList with
  | some t =>
    have hg : getE L told n.data.toList = ⟨t, 0, told⟩ := by unfold getE; rw [h4]
    rw [hg]
    have HF := Lib.hid (fourEnd_some h4)
    clear h4 hg
    go_enter Try.func20, Try.ntmps20
    go_wp2_with (first
      | (go_at_call 30; refine (rfour_any n _ hn).mono ?_; rw [HF.out]; rintro x w1 ⟨rfl, hb1⟩))
    go_ret2
    exact ⟨rfl, hr.below hb1, TR.of_below hb1⟩
  | none =>
    have HF := Lib.hid (fourEnd_none h4)
    have hlt0 := hr.lt
    cases hf : findE n.data.toList L with
    | none =>
      have hg : getE L told n.data.toList = ⟨[], 14, told⟩ := by unfold getE; rw [h4, hf]
      rw [hg]
      have HN := Lib.hid hf
      clear h4 hg hf
      go_enter Try.func20, Try.ntmps20
      go_wp2_with (first
        | (go_at_call 30; refine (rfour_any n _ hn).mono ?_; rw [HF.out]; rintro x w1 ⟨rfl, hb1⟩; have hr1 := hr.below hb1)
        | (go_at_call 31; refine (rfind_any _ base h L told n hr1 hn).mono ?_; rintro x w2 ⟨he, rfl⟩; obtain rfl : x = .returned (.int .i64 (-1)) := (by rcases he with ⟨k, hk, _, h2⟩ | ⟨h1, _⟩; (rw [HN.out] at h2; cases h2); exact h1); clear he))
      go_ret2
      exact ⟨rfl, hr1, TR.of_below hb1⟩
    | some t =>
      have HN := Lib.hid hf
      by_cases h40 : 40 ≤ told
      · have hg : getE L told n.data.toList = ⟨[], 13, told⟩ := by unfold getE; rw [h4, hf]; simp only; rw [if_pos h40]
        rw [hg]
        clear h4 hg hf
        go_enter Try.func20, Try.ntmps20
        go_wp2_with (first
          | (go_at_call 30; refine (rfour_any n _ hn).mono ?_; rw [HF.out]; rintro x w1 ⟨rfl, hb1⟩; have hr1 := hr.below hb1; obtain ⟨A, cap, hq⟩ := hr1; have c1 : w1.cell? ⟨h, 1, none⟩ = some (.int .i64 told) := hq.blk.cell 1; have hlt := hq.blk.lt)
          | (go_at_call 31; refine (rfind_any _ base h L told n ⟨A, cap, hq⟩ hn).mono ?_; rintro x w2 ⟨he, rfl⟩; obtain ⟨k, hk, rfl, hkt⟩ : ∃ (k : Nat) (hk : k < L.length), x = .returned (.int .i64 (k : Int)) ∧ (L[k]).2 = t := (by rcases he with ⟨k, hk, h1, h2⟩ | ⟨_, h2⟩; (rw [HN.out] at h2; exact ⟨k, hk, h1, (Option.some.inj h2).symm⟩); (rw [HN.out] at h2; cases h2)); clear he))
        go_ret2
        exact ⟨rfl, ⟨A, cap, hq⟩, TR.of_below hb1⟩
      · have hg : getE L told n.data.toList = ⟨t, 0, told + 1⟩ := by unfold getE; rw [h4, hf]; simp only; rw [if_neg h40]
        rw [hg]
        obtain ⟨t1, ht1⟩ : ∃ t1 : Nat, told + 1 = t1 := ⟨_, rfl⟩
        have e1 : (told : Int) + 1 = (t1 : Int) := by omega
        have e2 : ¬ (40 : Int) ≤ (told : Int) := by omega
        rw [ht1]
        clear h4 hg hf
        go_enter Try.func20, Try.ntmps20
        go_wp2_with (first
          | (go_at_call 30; refine (rfour_any n _ hn).mono ?_; rw [HF.out]; rintro x w1 ⟨rfl, hb1⟩; have hr1 := hr.below hb1; obtain ⟨A, cap, hq⟩ := hr1; have c1 : w1.cell? ⟨h, 1, none⟩ = some (.int .i64 told) := hq.blk.cell 1; have c0 : w1.cell? ⟨h, 0, none⟩ = some (.slice A L.length cap) := hq.blk.cell 0; have f1 := hq.blk.frozen 1; have hlt := hq.blk.lt)
          | (go_at_call 31; refine (rfind_any _ base h L told n ⟨A, cap, hq⟩ hn).mono ?_; rintro x w2 ⟨he, rfl⟩; obtain ⟨k, hk, rfl, hkt⟩ : ∃ (k : Nat) (hk : k < L.length), x = .returned (.int .i64 (k : Int)) ∧ (L[k]).2 = t := (by rcases he with ⟨k, hk, h1, h2⟩ | ⟨_, h2⟩; (rw [HN.out] at h2; exact ⟨k, hk, h1, (Option.some.inj h2).symm⟩); (rw [HN.out] at h2; cases h2)); clear he; obtain ⟨r, hA, _, hrl, hcap, hcm, _, d1⟩ := hq.row.cell hk; have hrh : h ≠ r := hq.ne (g := r) (by rw [hA]; rfl); rw [hkt] at d1; have HA := Lib.hid hA; have HK := Lib.hid hkt; have hcm2 : cap ≤ 9223372036854775807 := (by simpa [maxLen] using hcm); subst hA; clear hkt hcm))
        go_ret2
        obtain ⟨r1, r2⟩ := hq.setTold t1 (by omega)
        exact ⟨rfl, ⟨_, _, r1⟩, (TR.of_below hb1).trans r2⟩

/-! Define. -/
theorem Try.infoEt : (Try.prog.info? 51).map (fun i => (i.zero, i.size, i.bytes)) = some (some (.agg #[.string ⟨#[]⟩, .string ⟨#[]⟩]), 2, 32) := by kernel_rfl
theorem cells2 (w : World) (a b : Value) (t : TypeId) : ∀ j u, [a, b][j]? = some u → (w.alloc (.cells #[a, b] t)).cell? ((⟨w.heap.size, 0, none⟩ : Addr).add j) = some u := by
  intro j u hj
  rw [addr_add0]
  exact (Blk.new w t #[a, b]).cell j |>.trans (by simpa using hj)
theorem EnRow.alloc {w : World} {base : Nat} {v : Value} {l : EnL} (h : EnRow w base v l) (o : Obj) : EnRow (w.alloc o) base v l := World.ownsRow.alloc h o
theorem row_shape2 {w : World} {base : Nat} {e : TypeId} {size : Nat} {v : Value} {n : Nat} {xs : List Value} (h : w.ownsRow base e size v n xs) : ∃ A c, v = .slice A n c := by
  rcases h.2 with ⟨rfl, rfl⟩ | ⟨g, cap, cur, rfl, _⟩
  · exact ⟨_, _, rfl⟩
  · exact ⟨_, _, rfl⟩
/-- Behind the append, and the store of the list. -/
theorem rdef_done {w w2 : World} {base h told cap c2 : Nat} {A A2 : Option Addr} {L : EnL} {n t : ByteArray} (hr : REn w base h L told A cap)
    (hg2 : w.grownBy w2 (Value.slice A L.length cap).ownBlock)
    (hr2 : w2.ownsRow base 51 2 (.slice A2 (L.length + 1) c2) (L.length + 1) (ecs L ++ [.string n, .string t]))
    (hs : sizeE (L ++ [(n.data.toList, t.data.toList)]) ≤ 200) (hn : 1 ≤ n.size) :
    REAt (w2.setCell ⟨h, 0, none⟩ (.slice A2 (L.length + 1) c2)) base h (L ++ [(n.data.toList, t.data.toList)]) told ∧ TR base w (w2.setCell ⟨h, 0, none⟩ (.slice A2 (L.length + 1) c2)) := by
  have hk2 : Blk w2 h 28 #[.slice A L.length cap, .int .i64 told] := hr.blk.grown hg2 (fun e => hr.ne e.symm rfl)
  have hg3 : w2.grownBy (w2.setCell ⟨h, 0, none⟩ (.slice A2 (L.length + 1) c2)) (some h) := only_setCell (World.grownBy.refl w2 (some h)) (.inl rfl) _
  have hll : (L ++ [(n.data.toList, t.data.toList)]).length = L.length + 1 := by simp
  have T1 : TR base w w2 := by
    cases hv : (Value.slice A L.length cap).ownBlock with
    | none => rw [hv] at hg2; exact TR.of_grown_none hg2
    | some g =>
      rw [hv] at hg2
      obtain ⟨hb, cur, hh⟩ := hr.row.obj hv
      exact TR.of_grown hg2 hh hb (.inr rfl)
  refine ⟨⟨A2, c2, hr.hb, ?_, ?_, hs, ?_, hr.tl⟩, T1.trans (TR.of_grown hg3 hk2 hr.hb (.inl rfl))⟩
  · rw [hll]
    exact hk2.set_ 0 _
  · rw [hll]
    have hx : EnRow w2 base (.slice A2 (L.length + 1) c2) (L ++ [(n.data.toList, t.data.toList)]) := by
      unfold EnRow
      rw [hll, ecs_snoc]
      exact hr2
    refine hx.keep fun k cur _ hk => hg3.block k (heapLt hk) ?_
    intro hc
    injection hc with hc
    subst hc
    unfold Blk at hk2
    rw [hk] at hk2
    simp at hk2
  · rw [hll, size_snoc]
    have h1 := hr.ln
    have h2 : n.data.toList.length = n.size := by simp
    omega

set_option maxHeartbeats 2000000 in
theorem rdefineE_any (w : World) (base h : Nat) (L : EnL) (told : Nat) (n t : ByteArray) (hr : REAt w base h L told) (hn : n.size ≤ 140737488355328) (ht : t.size ≤ 1099511627776) :
    Calls Try.prog 19 #[.pointer (some ⟨h, 0, none⟩), .string n, .string t] w fun x w' => x = .returned (.int .i64 (defC L n.data.toList t.data.toList)) ∧ REAt w' base h (defE L n.data.toList t.data.toList) told ∧ TR base w w' := by
  have hsn : n.data.toList.length = n.size := by simp
  have hst : t.data.toList.length = t.size := by simp
  have hbb := hr.base_
  have hlt0 := hr.lt
  by_cases hl : localL n.data.toList = false
  · have hc : defC L n.data.toList t.data.toList = 1 := by unfold defC; rw [if_pos hl]
    rw [def_no (by rw [hc]; decide), hc]
    have HL := Lib.hid hl
    clear hl hc
    go_enter Try.func19, Try.ntmps19
    go_wp2_with (first
      | (go_at_call 28; refine (rlocal_any n _ hn).mono ?_; rintro x w' ⟨rfl, rfl⟩; rw [HL.out]))
    go_ret
    exact ⟨rfl, hr, TR.refl _ _⟩
  have hl1 : localL n.data.toList = true := by simpa using hl
  have h16 := local_len hl1
  have HL := Lib.hid hl1
  by_cases hu : (runesL t.data.toList).isSome = false
  · have hc : defC L n.data.toList t.data.toList = 3 := by unfold defC; rw [if_neg hl, if_pos hu]
    rw [def_no (by rw [hc]; decide), hc]
    have HU := Lib.hid hu
    clear hl hl1 hu hc
    go_enter Try.func19, Try.ntmps19
    go_wp2_with (first
      | (go_at_call 28; refine (rlocal_any n _ hn).mono ?_; rintro x w' ⟨rfl, rfl⟩; rw [HL.out])
      | (go_at_call 29; refine (valid_any t _ ht).mono ?_; rintro x w1 ⟨rfl, hb1⟩; rw [HU.out]))
    go_ret
    exact ⟨rfl, hr.below hb1, TR.of_below hb1⟩
  have hu1 : (runesL t.data.toList).isSome = true := by rw [Bool.not_eq_false] at hu; exact hu
  have HU := Lib.hid hu1
  cases h4 : fourE n.data.toList with
  | some t4 =>
    have hc : defC L n.data.toList t.data.toList = 6 := by unfold defC; rw [if_neg hl, if_neg hu, h4]; rfl
    rw [def_no (by rw [hc]; decide), hc]
    have HF := Lib.hid (fourEnd_some h4)
    clear hl hl1 hu hu1 hc h4
    go_enter Try.func19, Try.ntmps19
    go_wp2_with (first
      | (go_at_call 28; refine (rlocal_any n _ hn).mono ?_; rintro x w' ⟨rfl, rfl⟩; rw [HL.out])
      | (go_at_call 29; refine (valid_any t _ ht).mono ?_; rintro x w1 ⟨rfl, hb1⟩; rw [HU.out])
      | (go_at_call 30; refine (rfour_any n _ hn).mono ?_; rw [HF.out]; rintro x w2 ⟨rfl, hb2⟩))
    go_ret
    have hr1 := hr.below hb1
    exact ⟨rfl, hr1.below hb2, (TR.of_below hb1).trans (TR.of_below hb2)⟩
  | none =>
    have HF := Lib.hid (fourEnd_none h4)
    cases hf : findE n.data.toList L with
    | some tf =>
      have hc : defC L n.data.toList t.data.toList = 6 := by unfold defC; rw [if_neg hl, if_neg hu, h4, hf]; rfl
      rw [def_no (by rw [hc]; decide), hc]
      have HN := Lib.hid hf
      clear hl hl1 hu hu1 hc h4 hf
      go_enter Try.func19, Try.ntmps19
      go_wp2_with (first
        | (go_at_call 28; refine (rlocal_any n _ hn).mono ?_; rintro x w' ⟨rfl, rfl⟩; rw [HL.out])
        | (go_at_call 29; refine (valid_any t _ ht).mono ?_; rintro x w1 ⟨rfl, hb1⟩; rw [HU.out]; have hr1 := hr.below hb1)
        | (go_at_call 30; refine (rfour_any n _ hn).mono ?_; rw [HF.out]; rintro x w2 ⟨rfl, hb2⟩; have hr2 := hr1.below hb2)
        | (go_at_call 31; refine (rfind_any _ base h L told n hr2 hn).mono ?_; rintro x w3 ⟨he, rfl⟩; obtain ⟨k, rfl⟩ : ∃ (k : Nat), x = .returned (.int .i64 (k : Int)) := (by rcases he with ⟨k, hk, h1, h2⟩ | ⟨_, h2⟩; exact ⟨k, h1⟩; (rw [HN.out] at h2; cases h2)); clear he))
      go_ret
      exact ⟨rfl, hr2, (TR.of_below hb1).trans (TR.of_below hb2)⟩
    | none =>
      have HN := Lib.hid hf
      have hi2 : ¬ ((fourE n.data.toList).isSome || (findE n.data.toList L).isSome) = true := by rw [h4, hf]; decide
      have hsL : sizeE L ≤ 200 := by obtain ⟨A, cap, hq⟩ := hr; exact hq.sz
      have hlL : L.length ≤ 200 := by obtain ⟨A, cap, hq⟩ := hr; exact Nat.le_trans hq.ln hq.sz
      by_cases ho : 200 < sizeE L + n.size + t.size
      · have hc : defC L n.data.toList t.data.toList = 15 := by unfold defC; rw [if_neg hl, if_neg hu, if_neg hi2, hsn, hst, if_pos ho]
        rw [def_no (by rw [hc]; decide), hc]
        have ho2 : ¬ (sizeE L : Int) + (n.size : Int) + (t.size : Int) ≤ 200 := by omega
        clear hl hl1 hu hu1 hc h4 hf hi2
        go_enter Try.func19, Try.ntmps19
        go_wp2_with (first
          | (go_at_call 28; refine (rlocal_any n _ hn).mono ?_; rintro x w' ⟨rfl, rfl⟩; rw [HL.out])
          | (go_at_call 29; refine (valid_any t _ ht).mono ?_; rintro x w1 ⟨rfl, hb1⟩; rw [HU.out]; have hr1 := hr.below hb1)
          | (go_at_call 30; refine (rfour_any n _ hn).mono ?_; rw [HF.out]; rintro x w2 ⟨rfl, hb2⟩; have hr2 := hr1.below hb2)
          | (go_at_call 31; refine (rfind_any _ base h L told n hr2 hn).mono ?_; rintro x w3 ⟨he, rfl⟩; obtain rfl : x = .returned (.int .i64 (-1)) := (by rcases he with ⟨k, hk, _, h2⟩ | ⟨h1, _⟩; (rw [HN.out] at h2; cases h2); exact h1); clear he)
          | (go_at_call 11; refine (rsizeE_any _ base h L told hr2).mono ?_; rintro x w4 ⟨rfl, m4, hm4⟩; have hb4 : Below w2.heap.size w2 w4 := (by rw [hm4]; exact below_drewN (Below.refl _ _) m4); clear hm4; have hr4 := hr2.below hb4))
        go_ret
        exact ⟨rfl, hr4, ((TR.of_below hb1).trans (TR.of_below hb2)).trans (TR.of_below hb4)⟩
      · have hc : defC L n.data.toList t.data.toList = 0 := by unfold defC; rw [if_neg hl, if_neg hu, if_neg hi2, hsn, hst, if_neg ho]
        have hE : defE L n.data.toList t.data.toList = L ++ [(n.data.toList, t.data.toList)] := by unfold defE; rw [if_pos hc]
        have HS2 := Lib.hid (show sizeE (L ++ [(n.data.toList, t.data.toList)]) ≤ 200 by rw [size_snoc, hsn, hst]; omega)
        rw [hE, hc]
        have ho2 : (sizeE L : Int) + (n.size : Int) + (t.size : Int) ≤ 200 := by omega
        have h63 : L.length + 1 ≤ maxLen := by simp only [maxLen]; omega
        have h32 : (L.length + 1) * 32 ≤ 140737488355328 := by omega
        clear hl hl1 hu hu1 hc h4 hf hi2 hE ho
        go_enter Try.func19, Try.ntmps19
        go_wp2_with (first
          | (go_at_call 28; refine (rlocal_any n _ hn).mono ?_; rintro x w' ⟨rfl, rfl⟩; rw [HL.out])
          | (go_at_call 29; refine (valid_any t _ ht).mono ?_; rintro x w1 ⟨rfl, hb1⟩; rw [HU.out]; have hr1 := hr.below hb1)
          | (go_at_call 30; refine (rfour_any n _ hn).mono ?_; rw [HF.out]; rintro x w2 ⟨rfl, hb2⟩; have hr2 := hr1.below hb2)
          | (go_at_call 31; refine (rfind_any _ base h L told n hr2 hn).mono ?_; rintro x w3 ⟨he, rfl⟩; obtain rfl : x = .returned (.int .i64 (-1)) := (by rcases he with ⟨k, hk, _, h2⟩ | ⟨h1, _⟩; (rw [HN.out] at h2; cases h2); exact h1); clear he)
          | (go_at_call 11; refine (rsizeE_any _ base h L told hr2).mono ?_; rintro x w4 ⟨rfl, m4, hm4⟩; have hb4 : Below w2.heap.size w2 w4 := (by rw [hm4]; exact below_drewN (Below.refl _ _) m4); clear hm4; have hr4 := hr2.below hb4; obtain ⟨A, cap, hq⟩ := hr4; have c0 : w4.cell? ⟨h, 0, none⟩ = some (.slice A L.length cap) := hq.blk.cell 0; have f0 := hq.blk.frozen 0; have hlt4 := hq.blk.lt; have hrow := hq.row)
          | (at_builtin; refine wp_appG rfl _ _ 26 rfl base 51 _ 2 32 Try.underlying26 Try.infoEt rfl (by decide) (.slice A L.length cap) L.length (ecs L) [.string n, .string t] rfl (by exact hrow.alloc _) (by simp [Value.oneCell']) ⟨w4.heap.size, 0, none⟩ 1 1 rfl rfl (by exact cells2 w4 _ _ _) h63 h32 (by simp; omega) ?_; intro v5 w5 hown5 hg5 _; have hg6 : w4.grownBy w5 (Value.slice A L.length cap).ownBlock := ⟨hg5.os, hg5.tape, hg5.output, Nat.le_trans (by simp) hg5.size, fun k hk hne => (hg5.block k (Nat.lt_of_lt_of_le hk (by simp)) hne).trans (Below.heap_alloc w4 _ k hk)⟩; obtain ⟨A5, c5, rfl⟩ := row_shape2 hown5; have hk5 : Blk w5 h 28 #[.slice A L.length cap, .int .i64 told] := hq.blk.grown hg6 (fun e => hq.ne e.symm rfl); have f5 := hk5.frozen 0; have l5 := hk5.lt; have d5 : w5.cell? ⟨h, 0, none⟩ = some (.slice A L.length cap) := hk5.cell 0))
        go_ret
        obtain ⟨r1, r2⟩ := rdef_done hq hg6 hown5 HS2.out (by omega)
        exact ⟨rfl, r1, (((TR.of_below hb1).trans (TR.of_below hb2)).trans (TR.of_below hb4)).trans r2⟩
end Go.Proofs.Ytmbjeagmnjkemaa

/-
  Entities: Get and Define.
  angle: Entities and a Scope beside an Out: what holds, how it stays, Tell.
-/
import Derived.Test.YtjepnddndpmnnaaGreatGsB21
import Derived.Test.YtjepnddndpmnnaaGreatGsB10
import Derived.Test.YtjepnddndpmnnaaGreatGsB15
import Derived.Test.YtjepnddndpmnnaaGreatGsB08
import Derived.Test.YtjepnddndpmnnaaGreatGsB18
namespace Go.Proofs.YtjepnddndpmnnaaGreat
open Go.RowKit Go.Maps
set_option maxRecDepth 100000
set_option linter.unusedSimpArgs false
set_option linter.unusedSectionVars false
variable [Fo]

theorem str_toArray {s : ByteArray} {l : List UInt8} (h : s.data.toList = l) : s = ⟨l.toArray⟩ := by subst h; rfl

set_option maxHeartbeats 1000000 in
theorem eget_any (w : World) (e mb : Nat) (L : EnL) (told : Nat) (n : ByteArray) (h : EnAt w e mb L told) (hn : n.size ≤ 140737488355328) :
    Calls Tryz.prog 149 #[.pointer (some ⟨e, 0, none⟩), .string n] w fun x w' => x = .returned (.tuple #[.string ⟨(getE L told n.data.toList).s.toArray⟩, .int .i64 (getE L told n.data.toList).e]) ∧ EnAt w' e mb L (getE L told n.data.toList).told ∧ T2 e mb w w' := by
  have c0 : w.cell? ⟨e, 0, none⟩ = some (.map (some mb)) := h.blk.cell 0
  have c2 : w.cell? ⟨e, 2, none⟩ = some (.int .i64 told) := h.blk.cell 2
  have f2 := h.blk.frozen 2
  have hlt := h.blk.lt
  have htl := h.tl
  have hmap := h.map
  have T0 := T2.refl e mb w
  cases hl : lookM L n.data.toList with
  | none =>
    have hg : getE L told n.data.toList = ⟨[], 14, told⟩ := by
      unfold lookM at hl
      unfold getE
      cases h4 : fourE n.data.toList with
      | some _ => rw [h4] at hl; cases hl
      | none =>
        rw [h4] at hl
        cases hf : findE n.data.toList L with
        | some _ => rw [hf] at hl; cases hl
        | none => rfl
    rw [hg]
    have HL := Lib.hid hl
    clear hl hg
    go_enter Tryz.func149, Tryz.ntmps149
    go_wp2_with (first
      | (at_lookup; refine wp_lookG hmap rfl _ _ rfl n hn rfl rfl ?_; intro s c _; rw [HL.out]))
    go_ret2
    have hb : Below w.heap.size w (w.alloc (.cells #[.string s, .bool c] 150)) := (Below.refl _ _).alloc (Nat.le_refl _) _
    exact ⟨rfl, h.below hb, T2.of_below hb⟩
  | some x =>
    obtain ⟨t, cc⟩ := x
    have HL := Lib.hid hl
    cases cc with
    | false =>
      have hg : getE L told n.data.toList = ⟨t, 0, told⟩ := by
        unfold lookM at hl
        unfold getE
        cases h4 : fourE n.data.toList with
        | some _ => rw [h4] at hl; cases hl; rfl
        | none =>
          rw [h4] at hl
          cases hf : findE n.data.toList L with
          | some _ => rw [hf] at hl; cases hl
          | none => rw [hf] at hl; cases hl
      have hlen := get_len (L := L) (told := told) (n := n.data.toList) h.sz
      rw [hg] at hlen
      rw [hg]
      clear hl hg
      go_enter Tryz.func149, Tryz.ntmps149
      go_wp2_with (first
        | (at_lookup; refine wp_lookG hmap rfl _ _ rfl n hn rfl rfl ?_; intro s c hv; obtain ⟨hs, hc⟩ := hv _ HL.out; rw [HL.out]; obtain rfl := str_toArray hs; simp only at hc; subst hc; clear hv hs)
        | (go_at_call 140; refine (clone_any _ _ (by show t.toArray.size ≤ _; simp at hlen ⊢; omega)).mono ?_; rintro x wc ⟨rfl, hbc⟩))
      go_ret2
      have hb : Below w.heap.size w (w.alloc (.cells #[.string ⟨t.toArray⟩, .bool false] 150)) := (Below.refl _ _).alloc (Nat.le_refl _) _
      have hb2 := hb.trans (hbc.mono hb.size)
      exact ⟨rfl, h.below hb2, T2.of_below hb2⟩
    | true =>
      have hf4 : fourE n.data.toList = none ∧ findE n.data.toList L = some t := by
        unfold lookM at hl
        cases h4 : fourE n.data.toList with
        | some _ => rw [h4] at hl; cases hl
        | none =>
          rw [h4] at hl
          cases hf : findE n.data.toList L with
          | some _ => rw [hf] at hl; cases hl; exact ⟨rfl, rfl⟩
          | none => rw [hf] at hl; cases hl
      by_cases h40 : 40 ≤ told
      · have hg : getE L told n.data.toList = ⟨[], 13, told⟩ := by unfold getE; rw [hf4.1, hf4.2]; simp only; rw [if_pos h40]
        rw [hg]
        clear hl hg hf4
        go_enter Tryz.func149, Tryz.ntmps149
        go_wp2_with (first
          | (at_lookup; refine wp_lookG hmap rfl _ _ rfl n hn rfl rfl ?_; intro s c hv; obtain ⟨hs, hc⟩ := hv _ HL.out; rw [HL.out]; obtain rfl := str_toArray hs; simp only at hc; subst hc; clear hv hs))
        go_ret2
        have hb : Below w.heap.size w (w.alloc (.cells #[.string ⟨t.toArray⟩, .bool true] 150)) := (Below.refl _ _).alloc (Nat.le_refl _) _
        exact ⟨rfl, h.below hb, T2.of_below hb⟩
      · have hg : getE L told n.data.toList = ⟨t, 0, told + 1⟩ := by unfold getE; rw [hf4.1, hf4.2]; simp only; rw [if_neg h40]
        have hlen := get_len (L := L) (told := told) (n := n.data.toList) h.sz
        rw [hg] at hlen
        rw [hg]
        obtain ⟨t1, ht1⟩ : ∃ t1 : Nat, told + 1 = t1 := ⟨_, rfl⟩
        have e1 : (told : Int) + 1 = (t1 : Int) := by omega
        have e2 : ¬ (40 : Int) ≤ (told : Int) := by omega
        rw [ht1]
        clear hl hg hf4
        go_enter Tryz.func149, Tryz.ntmps149
        go_wp2_with (first
          | (at_lookup; refine wp_lookG hmap rfl _ _ rfl n hn rfl rfl ?_; intro s c hv; obtain ⟨hs, hc⟩ := hv _ HL.out; rw [HL.out]; obtain rfl := str_toArray hs; simp only at hc; subst hc; clear hv hs)
          | (go_at_call 140; refine (clone_any _ _ (by show t.toArray.size ≤ _; simp at hlen ⊢; omega)).mono ?_; rintro x wc ⟨rfl, hbc⟩))
        go_ret2
        obtain ⟨h1, hg1⟩ := h.setTold t1 (by omega)
        have h2 := h1.below ((Below.refl _ _).alloc (Nat.le_refl _) (.cells #[.string ⟨t.toArray⟩, .bool true] 150))
        have hT := ((T2.refl e mb w).grown_e hg1).trans (T2.of_below ((Below.refl _ _).alloc (Nat.le_refl _) (.cells #[.string ⟨t.toArray⟩, .bool true] 150)))
        exact ⟨rfl, h2.below hbc, hT.trans (T2.of_below hbc)⟩

/-! Define. -/
theorem step_putG {w : World} {b k : Nat} {f : List UInt8 → Option (List UInt8 × Bool)} {ops : Array Oper} {o : Oper} {a : Act} {K : Act → World → Prop} {Q : Exit → Act → World → Prop} {E : Prop}
    (h : MapG w b k f) (hg : o.guard = none) (x y z : Operand) (hop : o.op = Op.mapUpdate 122 x y z) (p s : ByteArray) (c : Bool) (hp : p.size ≤ 140737488355328) (hk : k < maxLen)
    (hm : a.eval x = .map (some b)) (hx : a.eval y = .string p) (hz : a.eval z = .agg #[.string s, .bool c])
    (hK : ∀ w', MapG w' b (k + 1) (fun q => if q = p.data.toList then some (s.data.toList, c) else f q) → w.grownBy w' (some b) → K (a.put o.dst undef) w') :
    if Region.wanted o (yielded ops a.tmps) = true then Oper.wp Tryz.prog o a w K Q else E := by
  have hw : Region.wanted o (yielded ops a.tmps) = true := by simp [Region.wanted, hg]
  rw [if_pos hw]
  obtain ⟨w', hr, hm', hg'⟩ := h.put (s := s) c hp hk
  unfold Oper.wp
  simp [execOp, hop, hm, hx, hz, hr, Result.andThen]
  exact hK w' hm' hg'
/-- Between the store of the size and the entry into the map. -/
structure EMid (w : World) (e mb : Nat) (L : EnL) (sz told : Nat) : Prop where
  blk : Blk w e 125 #[.map (some mb), .int .i64 (sz : Int), .int .i64 told]
  map : MapG w mb (L.length + 4) (lookM L)
theorem EMid.of {w : World} {e mb : Nat} {L : EnL} {told : Nat} (h : EnAt w e mb L told) (sz : Nat) : EMid (w.setCell ⟨e, 1, none⟩ (.int .i64 (sz : Int))) e mb L sz told ∧ T2 e mb w (w.setCell ⟨e, 1, none⟩ (.int .i64 (sz : Int))) := by
  have hg : w.grownBy (w.setCell ⟨e, 1, none⟩ (.int .i64 (sz : Int))) (some e) := only_setCell (World.grownBy.refl w (some e)) (.inl rfl) _
  refine ⟨⟨h.blk.set_ 1 _, h.map.keep (hg.block mb h.map.lt ?_)⟩, (T2.refl _ _ _).grown_e hg⟩
  intro hc
  injection hc with hc
  exact h.ne hc.symm
theorem EMid.below {w w' : World} {e mb sz told : Nat} {L : EnL} (h : EMid w e mb L sz told) (hb : Below w.heap.size w w') : EMid w' e mb L sz told :=
  ⟨h.blk.below hb h.blk.lt, h.map.keep (hb.block mb h.map.lt)⟩
theorem EMid.done {w w' : World} {e mb sz told : Nat} {L : EnL} {n t : List UInt8} (h : EMid w e mb L sz told) (hl : lookM L n = none) (hs : sizeE (L ++ [(n, t)]) = sz) (h200 : sz ≤ 200) (hn : 1 ≤ n.length) (hln : L.length ≤ sizeE L) (ht : told ≤ 40)
    (hm : MapG w' mb (L.length + 4 + 1) (fun q => if q = n then some (t, true) else lookM L q)) (hg : w.grownBy w' (some mb)) : EnAt w' e mb (L ++ [(n, t)]) told := by
  refine ⟨?_, ?_, by omega, ?_, ht⟩
  · rw [hs]
    refine h.blk.grown hg ?_
    intro hc
    injection hc with hc
    obtain ⟨es, c, hm⟩ := h.map.obj
    have := h.blk
    unfold Blk at this
    rw [hc, hm] at this
    cases this
  · rw [List.length_append]
    exact hm.congr fun q => lookM_snoc hl q
  · rw [size_snoc] at hs ⊢
    simp
    omega
theorem def_no {L : EnL} {n t : List UInt8} (h : defC L n t ≠ 0) : defE L n t = L := by unfold defE; rw [if_neg h]
set_option maxHeartbeats 2000000 in
theorem edefine_any (w : World) (e mb : Nat) (L : EnL) (told : Nat) (n t : ByteArray) (h : EnAt w e mb L told) (hn : n.size ≤ 140737488355328) (ht : t.size ≤ 140737488355328) :
    Calls Tryz.prog 126 #[.pointer (some ⟨e, 0, none⟩), .string n, .string t] w fun x w' => x = .returned (.int .i64 (defC L n.data.toList t.data.toList)) ∧ EnAt w' e mb (defE L n.data.toList t.data.toList) told ∧ T2 e mb w w' := by
  have c0 : w.cell? ⟨e, 0, none⟩ = some (.map (some mb)) := h.blk.cell 0
  have c1 : w.cell? ⟨e, 1, none⟩ = some (.int .i64 (sizeE L)) := h.blk.cell 1
  have hlt := h.blk.lt
  have hsn : n.data.toList.length = n.size := by simp
  have hst : t.data.toList.length = t.size := by simp
  have hsz := h.sz
  have hln := h.ln
  by_cases hl : localL n.data.toList = false
  · have hc : defC L n.data.toList t.data.toList = 1 := by unfold defC; rw [if_pos hl]
    rw [def_no (by rw [hc]; decide), hc]
    have HL := Lib.hid hl
    clear hl hc
    go_enter Tryz.func126, Tryz.ntmps126
    go_wp2_with (first
      | (go_at_call 134; refine (local_any n _ hn).mono ?_; rintro x w' ⟨rfl, rfl⟩; rw [HL.out]))
    go_ret
    exact ⟨rfl, h, T2.refl _ _ _⟩
  have hl1 : localL n.data.toList = true := by simpa using hl
  have h16 := local_len hl1
  by_cases hu : (runesL t.data.toList).isSome = false
  · have hc : defC L n.data.toList t.data.toList = 3 := by unfold defC; rw [if_neg hl, if_pos hu]
    rw [def_no (by rw [hc]; decide), hc]
    have HL := Lib.hid hl1
    have HU := Lib.hid hu
    clear hl hl1 hu hc
    go_enter Tryz.func126, Tryz.ntmps126
    go_wp2_with (first
      | (go_at_call 134; refine (local_any n _ hn).mono ?_; rintro x w' ⟨rfl, rfl⟩; rw [HL.out])
      | (go_at_call 139; refine (whole_utf t _ ht).mono ?_; rintro x w1 ⟨rfl, hb1⟩; rw [HU.out]))
    go_ret
    exact ⟨rfl, h.below hb1, T2.of_below hb1⟩
  have hu1 : (runesL t.data.toList).isSome = true := by rw [Bool.not_eq_false] at hu; exact hu
  by_cases hi : (lookM L n.data.toList).isSome = true
  · have hi2 : ((fourE n.data.toList).isSome || (findE n.data.toList L).isSome) = true := by rw [← lookM_isSome]; exact hi
    have hc : defC L n.data.toList t.data.toList = 6 := by unfold defC; rw [if_neg hl, if_neg hu, if_pos hi2]
    rw [def_no (by rw [hc]; decide), hc]
    have HL := Lib.hid hl1
    have HU := Lib.hid hu1
    have HI := Lib.hid hi
    clear hl hl1 hu hu1 hi hi2 hc
    go_enter Tryz.func126, Tryz.ntmps126
    go_wp2_with (first
      | (go_at_call 134; refine (local_any n _ hn).mono ?_; rintro x w' ⟨rfl, rfl⟩; rw [HL.out])
      | (go_at_call 139; refine (whole_utf t _ ht).mono ?_; rintro x w1 ⟨rfl, hb1⟩; rw [HU.out]; have h1 := h.below hb1; have hm1 := h1.map; have d0 : w1.cell? ⟨e, 0, none⟩ = some (.map (some mb)) := h1.blk.cell 0; have hlt1 := h1.blk.lt)
      | (at_lookup; refine wp_lookG hm1 rfl _ _ rfl n hn rfl rfl ?_; intro s c hv; rw [HI.out]; clear hv))
    go_ret
    have hb2 : Below w1.heap.size w1 (w1.alloc (.cells #[.string s, .bool c] 150)) := (Below.refl _ _).alloc (Nat.le_refl _) _
    exact ⟨rfl, h1.below hb2, (T2.of_below hb1).trans (T2.of_below hb2)⟩
  have hi1 : lookM L n.data.toList = none := by
    cases hh : lookM L n.data.toList with
    | none => rfl
    | some x => rw [hh] at hi; exact absurd rfl hi
  have hi2 : ¬ ((fourE n.data.toList).isSome || (findE n.data.toList L).isSome) = true := by rw [← lookM_isSome]; exact hi
  obtain ⟨sz, hsz'⟩ : ∃ sz : Nat, sz = sizeE L + n.size + t.size := ⟨_, rfl⟩
  have es := Lib.hid (show (sizeE L : Int) + (n.size : Int) + (t.size : Int) = (sz : Int) by omega)
  by_cases ho : 200 < sz
  · have hc : defC L n.data.toList t.data.toList = 15 := by unfold defC; rw [if_neg hl, if_neg hu, if_neg hi2, hsn, hst, if_pos (by omega)]
    rw [def_no (by rw [hc]; decide), hc]
    have HL := Lib.hid hl1
    have HU := Lib.hid hu1
    have HI := Lib.hid hi1
    have ho2 : ¬ (sizeE L : Int) + (n.size : Int) + (t.size : Int) ≤ 200 := by omega
    clear hl hl1 hu hu1 hi hi1 hi2 hc
    go_enter Tryz.func126, Tryz.ntmps126
    go_wp2_with (first
      | (go_at_call 134; refine (local_any n _ hn).mono ?_; rintro x w' ⟨rfl, rfl⟩; rw [HL.out])
      | (go_at_call 139; refine (whole_utf t _ ht).mono ?_; rintro x w1 ⟨rfl, hb1⟩; rw [HU.out]; have h1 := h.below hb1; have hm1 := h1.map; have d0 : w1.cell? ⟨e, 0, none⟩ = some (.map (some mb)) := h1.blk.cell 0; have d1 : w1.cell? ⟨e, 1, none⟩ = some (.int .i64 (sizeE L)) := h1.blk.cell 1; have hlt1 := h1.blk.lt)
      | (at_lookup; refine wp_lookG hm1 rfl _ _ rfl n hn rfl rfl ?_; intro s c hv; rw [HI.out]; clear hv))
    go_ret
    have hb2 : Below w1.heap.size w1 (w1.alloc (.cells #[.string s, .bool c] 150)) := (Below.refl _ _).alloc (Nat.le_refl _) _
    exact ⟨rfl, h1.below hb2, (T2.of_below hb1).trans (T2.of_below hb2)⟩
  · have hc : defC L n.data.toList t.data.toList = 0 := by unfold defC; rw [if_neg hl, if_neg hu, if_neg hi2, hsn, hst, if_neg (by omega)]
    have hE : defE L n.data.toList t.data.toList = L ++ [(n.data.toList, t.data.toList)] := by unfold defE; rw [if_pos hc]
    have hs2 : sizeE (L ++ [(n.data.toList, t.data.toList)]) = sz := by rw [size_snoc, hsn, hst]; omega
    rw [hE, hc]
    have HL := Lib.hid hl1
    have HU := Lib.hid hu1
    have HI := Lib.hid hi1
    have HS2 := Lib.hid hs2
    have hs63 : sz ≤ 200 := by omega
    have ho2 : (sizeE L : Int) + (n.size : Int) + (t.size : Int) ≤ 200 := by omega
    clear hl hl1 hu hu1 hi hi1 hi2 hc hE hs2 ho
    go_enter Tryz.func126, Tryz.ntmps126
    go_wp2_with (first
      | (go_at_call 134; refine (local_any n _ hn).mono ?_; rintro x w' ⟨rfl, rfl⟩; rw [HL.out])
      | (go_at_call 139; refine (whole_utf t _ ht).mono ?_; rintro x w1 ⟨rfl, hb1⟩; rw [HU.out]; have h1 := h.below hb1; have hm1 := h1.map; have d0 : w1.cell? ⟨e, 0, none⟩ = some (.map (some mb)) := h1.blk.cell 0; have d1 : w1.cell? ⟨e, 1, none⟩ = some (.int .i64 (sizeE L)) := h1.blk.cell 1; have f1 := h1.blk.frozen 1; have hlt1 := h1.blk.lt)
      | (at_lookup; refine wp_lookG hm1 rfl _ _ rfl n hn rfl rfl ?_; intro s c hv; rw [HI.out]; clear hv))
    obtain ⟨m2, T2'⟩ := EMid.of h1 sz
    have a2 : Below (w1.setCell ⟨e, 1, none⟩ (.int .i64 (sz : Int))).heap.size (w1.setCell ⟨e, 1, none⟩ (.int .i64 (sz : Int))) ((w1.setCell ⟨e, 1, none⟩ (.int .i64 (sz : Int))).alloc (.cells #[.string s, .bool c] 150)) := (Below.refl _ _).alloc (Nat.le_refl _) _
    have m3 := m2.below a2
    have T3 := (T2.of_below (e := e) (mb := mb) hb1).trans (T2'.trans (T2.of_below a2))
    rw [← es.out] at m3 T3
    obtain ⟨W, hW⟩ : ∃ W, (w1.setCell ⟨e, 1, none⟩ (.int .i64 ((sizeE L : Int) + (n.size : Int) + (t.size : Int)))).alloc (.cells #[.string s, .bool c] 150) = W := ⟨_, rfl⟩
    rw [hW] at m3 T3
    rw [hW]
    clear hW m2 T2' a2 d0 d1 f1 hm1 c0 c1 h1 hb1
    have y0 : W.drew.cell? ⟨e, 0, none⟩ = some (.map (some mb)) := m3.blk.cell 0
    have HM := Lib.hid (And.intro m3 T3)
    refine region_g [9] (S := (fun W' => W'.cell? ⟨e, 0, none⟩ = some (.map (some mb)))) (by kernel_rfl) y0 (fun hH => ?_)
    refine g_take (i := 0) (v := .pointer (some ⟨e, 0, none⟩)) (by rfl) (by kernel_rfl) (by kernel_rfl) (by kernel_rfl) (by kernel_rfl) (fun _ _ _ h => (by cases h.1)) (Or.inl ⟨by rfl, fun W' hS => (by go_simp)⟩) hH ?_
    simp only [Act.put, List.setIfInBounds_toArray, List.set_cons_zero, List.set_cons_succ]
    refine g_take (i := 1) (v := .pointer (some ⟨e, 0, none⟩)) (by rfl) (by kernel_rfl) (by kernel_rfl) (by kernel_rfl) (by kernel_rfl) (fun _ _ _ h => (by cases h.1)) (Or.inl ⟨by rfl, fun W' hS => (by go_simp)⟩) hH ?_
    simp only [Act.put, List.setIfInBounds_toArray, List.set_cons_zero, List.set_cons_succ]
    refine g_take (i := 2) (v := .pointer (some ⟨e, 0, none⟩)) (by rfl) (by kernel_rfl) (by kernel_rfl) (by kernel_rfl) (by kernel_rfl) (fun _ _ _ h => (by cases h.1)) (Or.inl ⟨by rfl, fun W' hS => (by go_simp)⟩) hH ?_
    simp only [Act.put, List.setIfInBounds_toArray, List.set_cons_zero, List.set_cons_succ]
    refine g_take (i := 3) (v := .map (some mb)) (by rfl) (by kernel_rfl) (by kernel_rfl) (by kernel_rfl) (by kernel_rfl) (fun _ _ _ h => (by cases h.1)) (Or.inl ⟨by rfl, fun W' hS => (by go_simp)⟩) hH ?_
    simp only [Act.put, List.setIfInBounds_toArray, List.set_cons_zero, List.set_cons_succ]
    refine g_take (i := 4) (v := .string n) (by rfl) (by kernel_rfl) (by kernel_rfl) (by kernel_rfl) (by kernel_rfl) (fun _ _ _ h => (by cases h.1)) (Or.inl ⟨by rfl, fun W' hS => (by go_simp)⟩) hH ?_
    simp only [Act.put, List.setIfInBounds_toArray, List.set_cons_zero, List.set_cons_succ]
    refine g_take (i := 6) (v := .string t) (by rfl) (by kernel_rfl) (by kernel_rfl) (by kernel_rfl) (by kernel_rfl) (fun _ _ _ h => (by cases h.1)) (Or.inl ⟨by rfl, fun W' hS => (by go_simp)⟩) hH ?_
    simp only [Act.put, List.setIfInBounds_toArray, List.set_cons_zero, List.set_cons_succ]
    refine g_one (i := 5) (by kernel_rfl) (by rfl) (fun K' hK' => ?_)
    go_simp
    refine (clone_any n _ hn).mono ?_
    rintro x w3 ⟨rfl, hb3⟩
    have hbr : Below W.heap.size W w3 := (below_drew (Below.refl W.heap.size W)).trans hb3
    refine hK'.out _ _ (fun _ => (hb3.cell (cell_lt y0)).trans y0) (fun hH => ?_)
    clear hK' K'
    try simp only [Act.put, List.setIfInBounds_toArray, List.set_cons_zero, List.set_cons_succ]
    refine g_one (i := 7) (by kernel_rfl) (by rfl) (fun K' hK' => ?_)
    go_simp
    refine (clone_any t _ ht).mono ?_
    rintro x w4 ⟨rfl, hb4⟩
    have hH2 := hH (by decide)
    have hbr4 := hbr.trans (hb4.mono hbr.size)
    refine hK'.out _ _ (fun _ => (hb4.cell (cell_lt hH2)).trans hH2) (fun hH => ?_)
    clear hK' K'
    try simp only [Act.put, List.setIfInBounds_toArray, List.set_cons_zero, List.set_cons_succ]
    refine g_one (i := 8) (by kernel_rfl) (by rfl) (fun K' hK' => ?_)
    go_simp
    refine hK'.out _ _ (fun _ => hH (by decide)) (fun hH => ?_)
    clear hK' K'
    try simp only [Act.put, List.setIfInBounds_toArray, List.set_cons_zero, List.set_cons_succ]
    have m4 := HM.out.1.below hbr4
    refine g_one (i := 9) (by kernel_rfl) (by rfl) (fun K' hK' => ?_)
    refine step_putG m4.map (by rfl) _ _ _ (by rfl) n t true hn (by simp only [maxLen]; omega) (by rfl) (by rfl) (by rfl) ?_
    intro w5 hm5 hg5
    refine hK'.out _ _ (fun h => absurd (List.mem_singleton.2 rfl) h) (fun _ => ?_)
    clear hK' K'
    refine g_done (by kernel_rfl) ⟨by first | rfl | trivial, ?_⟩ _
    clear hH hH2 y0
    go_wp2
    go_ret
    refine ⟨rfl, m4.done HI.out HS2.out hs63 h16.1 hln h.tl hm5 hg5, ?_⟩
    exact (HM.out.2.trans (T2.of_below hbr4)).grown_m hg5
end Go.Proofs.YtjepnddndpmnnaaGreat
namespace Go.Proofs.YtjepnddndpmnnaaGreat
open Go.RowKit Go.Maps
set_option maxRecDepth 100000
set_option linter.unusedSimpArgs false
set_option linter.unusedVariables false
set_option linter.unusedSectionVars false
variable [Tab]

/-- The kinds of what Entities and a Scope hold. -/
def entO : Obj → Prop
  | .cells _ t _ => t = 125
  | _ => False
def xK (o : Obj) : Prop := Ns.sObj o ∨ entO o
/-- The kinds of what a telling, or a call of theirs, turns. -/
def tX (o : Obj) : Prop := tObj o ∨ xK o
/-- The same foreign blocks, and others. -/
@[reducible] def Fo.pl (fo : Fo) (S : Nat → Prop) (n : Nat) (hl : fo.lim ≤ n) (hS : ∀ k, S k → k < n) : Fo :=
  ⟨fun k => fo.F k ∨ S k, n, fun k h => h.elim (fun h => Nat.lt_of_lt_of_le (fo.ok k h) hl) (hS k), fo.tk⟩
def scS (S : Nat → Prop) (e mb k : Nat) : Prop := S k ∧ k ≠ e ∧ k ≠ mb
section
variable [fo : Fo]
/-- Entities and a Scope, in blocks of S. -/
structure XAt (w : World) (base : Nat) (S : Nat → Prop) (e mb g : Nat) (L : EnL) (told : Nat) (sc : Ns.St) : Prop where
  lt : ∀ k, S k → k < w.heap.size
  kd : ∀ k, S k → base ≤ k ∧ ¬ Fo.F k ∧ ∀ o, w.heap[k]? = some o → xK o
  ent : EnAt w e mb L told
  se : S e
  sm : S mb
  scp : Ns.SAt w base (scS S e mb) g sc
/-- .. beside an Out. -/
structure XO (w : World) (base o ck e mb g : Nat) (L : EnL) (told : Nat) (sc : Ns.St) (st : List Pt) (l : List Ev) (S : Nat → Prop) : Prop where
  x : XAt w base S e mb g L told sc
  lim : fo.lim ≤ w.heap.size
  out : @OAt (fo.pl S w.heap.size lim x.lt) w base o ck st l
variable {w w' : World} {base o ck e mb g : Nat} {L L' : EnL} {told told' : Nat} {sc sc' : Ns.St} {st : List Pt} {l : List Ev} {S S' : Nat → Prop}
theorem XAt.keep (h : XAt w base S e mb g L told sc) (hs : w.heap.size ≤ w'.heap.size) (hk : ∀ k q, S k → w.heap[k]? = some q → w'.heap[k]? = some q) : XAt w' base S e mb g L told sc := by
  have hsame : ∀ k, S k → w'.heap[k]? = w.heap[k]? := fun k hS => by
    obtain ⟨q, hq⟩ := heap_some (h.lt k hS)
    rw [hk k q hS hq, hq]
  refine ⟨fun k hS => Nat.lt_of_lt_of_le (h.lt k hS) hs, fun k hS => ⟨(h.kd k hS).1, (h.kd k hS).2.1, fun q hq => (h.kd k hS).2.2 q (by rw [← hsame k hS]; exact hq)⟩, h.ent.keep (hsame e h.se) (hsame mb h.sm), h.se, h.sm, h.scp.keep hs fun k q hS hq => hk k q hS.1 hq⟩
theorem xo_out {hl hS hl' hS'} (h : @OAt (fo.pl S w.heap.size hl hS) w base o ck st l) (hsub : ∀ k, k < w.heap.size → S' k → S k) (hm : ∀ k q, w.heap[k]? = some q → tObj q → ¬ fo.F k → ¬ S k → w'.heap[k]? = some q) : @OAt (fo.pl S' w'.heap.size hl' hS') w' base o ck st l :=
  oat_mv (f1 := fo.pl S w.heap.size hl hS) (f2 := fo.pl S' w'.heap.size hl' hS') (fun k hk hc => hc.imp id (hsub k hk)) rfl (fun k q hq hp hn => hm k q hq hp (fun h => hn (.inl h)) (fun h => hn (.inr h))) (Nat.le_refl _) h
/-- Where neither an Out's kinds nor theirs are turned. -/
theorem XO.tch (h : XO w base o ck e mb g L told sc st l S) {q : Obj → Prop} (ht : Tch base q w w') (hq : ∀ r, tX r → ¬ q r) : XO w' base o ck e mb g L told sc st l S := by
  have hk : ∀ k r, S k → w.heap[k]? = some r → w'.heap[k]? = some r := fun k r hs hr => ht.block k r hr (.inr (.inl (hq r (.inr ((h.x.kd k hs).2.2 r hr)))))
  exact ⟨h.x.keep ht.size hk, Nat.le_trans h.lim ht.size, xo_out h.out (fun _ _ h => h) (fun k r hr hp _ _ => ht.block k r hr (.inr (.inl (hq r (.inl hp)))))⟩
theorem XO.below (h : XO w base o ck e mb g L told sc st l S) (hb : Below w.heap.size w w') : XO w' base o ck e mb g L told sc st l S := h.tch (q := fun _ => False) (base := base) (Tch.of_below hb) (fun _ _ h => h)
theorem XO.base_le (h : XO w base o ck e mb g L told sc st l S) : base ≤ w.heap.size := Nat.le_trans (h.x.kd e h.x.se).1 (Nat.le_of_lt (h.x.lt e h.x.se))
/-- Tell. -/
theorem xo_tell (x : Ev) (h : XO w base o ck e mb g L told sc st l S) (hg : Good st) (hk : x.k ≠ 3) (hx : x.t.size ≤ 140737488355328) (hl : l.length ≤ 1000000) :
    Calls Tryz.prog 133 #[.pointer (some ⟨o, 0, none⟩), .agg #[.int .i64 x.k, .string x.t, .string x.v], .slice none 0 0] w fun E w' =>
      E = .returned (.int .i64 (stepE st x)) ∧ XO w' base o ck e mb g L told sc (stepS st x) (tellL st l x) S ∧ Tch base tObj w w' := by
  have hb := h.base_le
  refine (@tell_any _ (fo.pl S w.heap.size h.lim h.x.lt) w base o ck st l x h.out hg (NumW.no hk) hx hl hb).mono ?_
  rintro E w' ⟨rfl, hO, hT⟩
  have ht0 : Tch base tObj w w' := tch_wk (f1 := fo.pl S w.heap.size h.lim h.x.lt) (f2 := fo) (fun k hk => .inl hk) hT
  have hkp : ∀ k r, S k → w.heap[k]? = some r → w'.heap[k]? = some r := fun k r hs hr => @Tch.block (fo.pl S w.heap.size h.lim h.x.lt) _ _ _ _ hT k r hr (.inr (.inr (.inr hs)))
  refine ⟨rfl, ⟨h.x.keep ht0.size hkp, Nat.le_trans h.lim ht0.size, ?_⟩, ht0⟩
  exact oat_mv (w := w') (w' := w') (f1 := fo.pl S w.heap.size h.lim h.x.lt) (f2 := fo.pl S w'.heap.size (Nat.le_trans h.lim ht0.size) (h.x.keep ht0.size hkp).lt) (fun k _ hc => hc) rfl (fun k r hr _ _ => hr) (Nat.le_refl _) hO
/-- Behind a call of the Entities. -/
theorem XO.entc (h : XO w base o ck e mb g L told sc st l S) (hE : EnAt w' e mb L' told') (ht : T2 e mb w w') : XO w' base o ck e mb g L' told' sc st l S ∧ Tch base xK w w' := by
  have hoth : ∀ k r, k ≠ e → k ≠ mb → w.heap[k]? = some r → w'.heap[k]? = some r := fun k r h1 h2 hr => (ht.block k (heap_lt hr) h1 h2).trans hr
  have hlt : ∀ k, S k → k < w'.heap.size := fun k hS => Nat.lt_of_lt_of_le (h.x.lt k hS) ht.size
  refine ⟨⟨⟨hlt, fun k hS => ⟨(h.x.kd k hS).1, (h.x.kd k hS).2.1, fun q hq => ?_⟩, hE, h.x.se, h.x.sm, h.x.scp.keep ht.size fun k q hS hq => hoth k q hS.2.1 hS.2.2 hq⟩, Nat.le_trans h.lim ht.size, xo_out h.out (fun _ _ h => h) (fun k r hr _ _ hn => hoth k r (fun e1 => hn (e1 ▸ h.x.se)) (fun e1 => hn (e1 ▸ h.x.sm)) hr)⟩, ht.os, ht.tape, ht.output, ht.size, fun k q hq hc => ?_⟩
  · by_cases h1 : k = e
    · subst h1
      have := hE.blk
      unfold Blk at this
      rw [this] at hq
      injection hq with hq
      rw [← hq]
      exact .inr rfl
    · by_cases h2 : k = mb
      · subst h2
        obtain ⟨es, c, hm⟩ := hE.map.obj
        rw [hm] at hq
        injection hq with hq
        rw [← hq]
        exact .inl trivial
      · obtain ⟨q', hq'⟩ := heap_some (h.x.lt k hS)
        have := hoth k q' h1 h2 hq'
        rw [this] at hq
        injection hq with hq
        rw [← hq]
        exact (h.x.kd k hS).2.2 q' hq'
  · have hno : ∀ j, S j → k ≠ j := fun j hj e1 => by
      subst e1
      obtain ⟨h1, h2, h3⟩ := h.x.kd k hj
      rcases hc with hc | hc | hc
      · omega
      · exact hc (h3 q hq)
      · exact h2 hc
    exact hoth k q (hno e h.x.se) (hno mb h.x.sm) hq
/-- Behind a call of the Scope. -/
theorem XO.scpc (h : XO w base o ck e mb g L told sc st l S) (hS : Ns.SAt w' base (Ext (scS S e mb) w w') g sc') (ht : TS (scS S e mb) anyO w w') : ∃ S', XO w' base o ck e mb g L told sc' st l S' ∧ Tch base xK w w' := by
  have hlt : ∀ k, S k → k < w'.heap.size := fun k hS => Nat.lt_of_lt_of_le (h.x.lt k hS) ht.size
  have hb := h.base_le
  have he := h.x.lt e h.x.se
  have hm := h.x.lt mb h.x.sm
  have hoth : ∀ k r, ¬ scS S e mb k → w.heap[k]? = some r → w'.heap[k]? = some r := fun k r hn hr => ht.block k r hr (.inl hn)
  have hne : ∀ k, Ext (scS S e mb) w w' k → k ≠ e ∧ k ≠ mb := fun k hk => by
    rcases hk with hk | hk
    · exact hk.2
    · exact ⟨by omega, by omega⟩
  have hE : EnAt w' e mb L told := by
    obtain ⟨q1, hq1⟩ := heap_some he
    obtain ⟨q2, hq2⟩ := heap_some hm
    exact h.x.ent.keep ((hoth e q1 (fun hc => hc.2.1 rfl) hq1).trans hq1.symm) ((hoth mb q2 (fun hc => hc.2.2 rfl) hq2).trans hq2.symm)
  have hlt' : ∀ k, (Ns.sCut (Ext (scS S e mb) w w') w' k ∨ k = e ∨ k = mb) → k < w'.heap.size := fun k hk => by
    rcases hk with hk | rfl | rfl
    · exact hS.1 k hk.1
    · exact hlt _ h.x.se
    · exact hlt _ h.x.sm
  refine ⟨fun k => Ns.sCut (Ext (scS S e mb) w w') w' k ∨ k = e ∨ k = mb, ⟨⟨hlt', fun k hk => ?_, hE, .inr (.inl rfl), .inr (.inr rfl), hS.min.mono (fun k hk => hlt' k hk.1) fun k q _ hk _ => ⟨.inl hk, hne k hk.1⟩⟩, Nat.le_trans h.lim ht.size, xo_out h.out (fun k hk hc => ?_) (fun k r hr _ _ hn => hoth k r (fun hc => hn hc.1) hr)⟩, ht.os, ht.tape, ht.output, ht.size, fun k q hq hc => hoth k q (fun hs => ?_) hq⟩
  · rcases hk with ⟨h1, h2⟩ | rfl | rfl
    · refine ⟨?_, ?_, fun q hq => .inl (h2 q hq)⟩
      · rcases h1 with h1 | h1
        · exact (h.x.kd k h1.1).1
        · omega
      · rcases h1 with h1 | h1
        · exact (h.x.kd k h1.1).2.1
        · exact nf_new (Nat.le_trans h.lim h1.1)
    · refine ⟨(h.x.kd _ h.x.se).1, (h.x.kd _ h.x.se).2.1, fun q hq => ?_⟩
      have := hE.blk
      unfold Blk at this
      rw [this] at hq
      injection hq with hq
      rw [← hq]
      exact .inr rfl
    · refine ⟨(h.x.kd _ h.x.sm).1, (h.x.kd _ h.x.sm).2.1, fun q hq => ?_⟩
      obtain ⟨es, c, hm⟩ := hE.map.obj
      rw [hm] at hq
      injection hq with hq
      rw [← hq]
      exact .inl trivial
  · rcases hc with ⟨h1, _⟩ | rfl | rfl
    · rcases h1 with h1 | h1
      · exact h1.1
      · omega
    · exact h.x.se
    · exact h.x.sm
  · obtain ⟨h1, h2, h3⟩ := h.x.kd k hs.1
    rcases hc with hc | hc | hc
    · omega
    · exact hc (h3 q hq)
    · exact h2 hc
end
end Go.Proofs.YtjepnddndpmnnaaGreat

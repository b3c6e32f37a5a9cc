/-
  utf.Whole tells whether a text has characters.
  Entities: Get and Define.
-/
import Derived.Test.YtjepnddndpmnnaaGreatDoorGwA05
import Derived.Test.YtjepnddndpmnnaaGreatDoorGwA22
import Derived.Test.YtjepnddndpmnnaaGreatDoorGwA06
import Derived.Test.YtjepnddndpmnnaaGreatDoorGwA16
namespace Go.Proofs.YtjepnddndpmnnaaGreatDoor
open Go.RowKit Go.Maps
set_option maxRecDepth 100000

set_option maxHeartbeats 1000000 in
theorem whole_utf (s : ByteArray) (w : World) (hm : s.size ≤ 140737488355328) :
    Calls Tryz.prog 167 #[.string s] w fun e w' => e = .returned (.bool (runesL s.data.toList).isSome) ∧ Below w.heap.size w w' := by
  go_enter Tryz.func167, Tryz.ntmps167
  go_wp2_with (first
    | (go_at_call 24; refine (new_any _).mono ?_; rintro e w' ⟨rfl, rfl⟩))
  go_loopw [8] (fun i wr => ∃ (k : Nat) (l lo hi : Int), k ≤ s.size ∧ i = .int .i64 k ∧ ScanAt wr w.heap.size l lo hi ∧ 0 ≤ l ∧ l ≤ 3 ∧ Below w.heap.size w wr ∧ Hid (UtfAt s.data.toList k l lo hi)) (fun i _ => s.size - (intOf i).toNat)
  case atStart => exact ⟨0, 0, 128, 191, Nat.zero_le _, rfl, Blk.new w _ _, by decide, by decide, (Below.refl _ _).alloc (Nat.le_refl _) _, Lib.hid ⟨0, [], rfl⟩⟩
  case round =>
    obtain ⟨k, l, lo, hi, hk, rfl, hsc, h0, h3, hbel, HW⟩ := hrel
    by_cases hlt : k < s.size
    · have hle := byte_le s[k]
      have HD := Lib.hid (drop_cons s k hlt)
      have hr := stL_range (b := s[k].toNat) h0 h3
      obtain ⟨hr0, hr3⟩ := hr
      go_wp2_with fail
      refine (step_any _ _ _ _ _ _ hsc h0 h3 (by omega) hle).mono ?_
      rintro e w1 ⟨rfl, hg1, hs1⟩
      have hbel1 : Below w.heap.size w w1 := below_only hbel hg1 hbel.size (Nat.le_refl _)
      clear hg1 hsc hbel
      generalize hO : stOk l lo hi s[k].toNat = O at *
      have HO := Lib.hid hO
      clear hO
      cases O
      · have HE := Lib.hid (utf_bad HD.out HW.out HO.out)
        go_wp2
        go_ret
        rw [HE.out]
        exact ⟨rfl, hbel1⟩
      · rw [if_pos rfl] at hs1
        go_wp2
        go_roundw
        case rel => exact ⟨k + 1, _, _, _, by omega, by go_num, hs1, hr0, hr3, hbel1, Lib.hid (utf_step HD.out HW.out HO.out)⟩
        case measure => simp [intOf]; omega
    · have hend := utf_end (by simp; omega) HW.out
      have HE := Lib.hid hend
      clear hend
      go_wp2_with (first
        | (go_at_call 36; refine (whole_any _ _ _ _ _ hsc).mono ?_; rintro e w' ⟨rfl, rfl⟩))
      go_ret
      rw [HE.out]
      exact ⟨rfl, hbel⟩
end Go.Proofs.YtjepnddndpmnnaaGreatDoor
namespace Go.Proofs.YtjepnddndpmnnaaGreatDoor
open Go.RowKit Go.Maps
set_option maxRecDepth 100000
set_option linter.unusedSimpArgs false
set_option linter.unusedSectionVars false
variable [Fo]

theorem str_toArray {s : ByteArray} {l : List UInt8} (h : s.data.toList = l) : s = ⟨l.toArray⟩ := by subst h; rfl

set_option maxHeartbeats 1000000 in
theorem eget_any (w : World) (e mb : Nat) (L : EnL) (told : Nat) (n : ByteArray) (h : EnAt w e mb L told) (hn : n.size ≤ 140737488355328) :
    Calls Tryz.prog 173 #[.pointer (some ⟨e, 0, none⟩), .string n] w fun x w' => x = .returned (.tuple #[.string ⟨(getE L told n.data.toList).s.toArray⟩, .int .i64 (getE L told n.data.toList).e]) ∧ EnAt w' e mb L (getE L told n.data.toList).told ∧ T2 e mb w w' := by
  have c0 : w.cell? ⟨e, 0, none⟩ = some (.map (some mb)) := h.blk.cell 0
  have c2 : w.cell? ⟨e, 2, none⟩ = some (.int .i64 told) := h.blk.cell 2
  have f2 := h.blk.frozen 2
  have hlt := h.blk.lt
  have htl := h.tl
  have hmap := h.map
  have T0 := T2.refl e mb w
  cases hl : lookM L n.data.toList with
  | none =>
    have hg : getE L told n.data.toList = ⟨[], 14, told⟩ := by
      unfold lookM at hl
      unfold getE
      cases h4 : fourE n.data.toList with
      | some _ => rw [h4] at hl; cases hl
      | none =>
        rw [h4] at hl
        cases hf : findE n.data.toList L with
        | some _ => rw [hf] at hl; cases hl
        | none => rfl
    rw [hg]
    have HL := Lib.hid hl
    clear hl hg
    go_enter Tryz.func173, Tryz.ntmps173
    go_wp2_with (first
      | (at_lookup; refine wp_lookG hmap rfl _ _ rfl n hn rfl rfl ?_; intro s c _; rw [HL.out]))
    go_ret2
    have hb : Below w.heap.size w (w.alloc (.cells #[.string s, .bool c] 102)) := (Below.refl _ _).alloc (Nat.le_refl _) _
    exact ⟨rfl, h.below hb, T2.of_below hb⟩
  | some x =>
    obtain ⟨t, cc⟩ := x
    have HL := Lib.hid hl
    cases cc with
    | false =>
      have hg : getE L told n.data.toList = ⟨t, 0, told⟩ := by
        unfold lookM at hl
        unfold getE
        cases h4 : fourE n.data.toList with
        | some _ => rw [h4] at hl; cases hl; rfl
        | none =>
          rw [h4] at hl
          cases hf : findE n.data.toList L with
          | some _ => rw [hf] at hl; cases hl
          | none => rw [hf] at hl; cases hl
      have hlen := get_len (L := L) (told := told) (n := n.data.toList) h.sz
      rw [hg] at hlen
      rw [hg]
      clear hl hg
      go_enter Tryz.func173, Tryz.ntmps173
      go_wp2_with (first
        | (at_lookup; refine wp_lookG hmap rfl _ _ rfl n hn rfl rfl ?_; intro s c hv; obtain ⟨hs, hc⟩ := hv _ HL.out; rw [HL.out]; obtain rfl := str_toArray hs; simp only at hc; subst hc; clear hv hs)
        | (go_at_call 34; refine (clone_any _ _ (by show t.toArray.size ≤ _; simp at hlen ⊢; omega)).mono ?_; rintro x wc ⟨rfl, hbc⟩))
      go_ret2
      have hb : Below w.heap.size w (w.alloc (.cells #[.string ⟨t.toArray⟩, .bool false] 102)) := (Below.refl _ _).alloc (Nat.le_refl _) _
      have hb2 := hb.trans (hbc.mono hb.size)
      exact ⟨rfl, h.below hb2, T2.of_below hb2⟩
    | true =>
      have hf4 : fourE n.data.toList = none ∧ findE n.data.toList L = some t := by
        unfold lookM at hl
        cases h4 : fourE n.data.toList with
        | some _ => rw [h4] at hl; cases hl
        | none =>
          rw [h4] at hl
          cases hf : findE n.data.toList L with
          | some _ => rw [hf] at hl; cases hl; exact ⟨rfl, rfl⟩
          | none => rw [hf] at hl; cases hl
      by_cases h40 : 40 ≤ told
      · have hg : getE L told n.data.toList = ⟨[], 13, told⟩ := by unfold getE; rw [hf4.1, hf4.2]; simp only; rw [if_pos h40]
        rw [hg]
        clear hl hg hf4
        go_enter Tryz.func173, Tryz.ntmps173
        go_wp2_with (first
          | (at_lookup; refine wp_lookG hmap rfl _ _ rfl n hn rfl rfl ?_; intro s c hv; obtain ⟨hs, hc⟩ := hv _ HL.out; rw [HL.out]; obtain rfl := str_toArray hs; simp only at hc; subst hc; clear hv hs))
        go_ret2
        have hb : Below w.heap.size w (w.alloc (.cells #[.string ⟨t.toArray⟩, .bool true] 102)) := (Below.refl _ _).alloc (Nat.le_refl _) _
        exact ⟨rfl, h.below hb, T2.of_below hb⟩
      · have hg : getE L told n.data.toList = ⟨t, 0, told + 1⟩ := by unfold getE; rw [hf4.1, hf4.2]; simp only; rw [if_neg h40]
        have hlen := get_len (L := L) (told := told) (n := n.data.toList) h.sz
        rw [hg] at hlen
        rw [hg]
        obtain ⟨t1, ht1⟩ : ∃ t1 : Nat, told + 1 = t1 := ⟨_, rfl⟩
        have e1 : (told : Int) + 1 = (t1 : Int) := by omega
        have e2 : ¬ (40 : Int) ≤ (told : Int) := by omega
        rw [ht1]
        clear hl hg hf4
        go_enter Tryz.func173, Tryz.ntmps173
        go_wp2_with (first
          | (at_lookup; refine wp_lookG hmap rfl _ _ rfl n hn rfl rfl ?_; intro s c hv; obtain ⟨hs, hc⟩ := hv _ HL.out; rw [HL.out]; obtain rfl := str_toArray hs; simp only at hc; subst hc; clear hv hs)
          | (go_at_call 34; refine (clone_any _ _ (by show t.toArray.size ≤ _; simp at hlen ⊢; omega)).mono ?_; rintro x wc ⟨rfl, hbc⟩))
        go_ret2
        obtain ⟨h1, hg1⟩ := h.setTold t1 (by omega)
        have h2 := h1.below ((Below.refl _ _).alloc (Nat.le_refl _) (.cells #[.string ⟨t.toArray⟩, .bool true] 102))
        have hT := ((T2.refl e mb w).grown_e hg1).trans (T2.of_below ((Below.refl _ _).alloc (Nat.le_refl _) (.cells #[.string ⟨t.toArray⟩, .bool true] 102)))
        exact ⟨rfl, h2.below hbc, hT.trans (T2.of_below hbc)⟩

/-! Define. -/
theorem step_putG {w : World} {b k : Nat} {f : List UInt8 → Option (List UInt8 × Bool)} {ops : Array Oper} {o : Oper} {a : Act} {K : Act → World → Prop} {Q : Exit → Act → World → Prop} {E : Prop}
    (h : MapG w b k f) (hg : o.guard = none) (x y z : Operand) (hop : o.op = Op.mapUpdate 82 x y z) (p s : ByteArray) (c : Bool) (hp : p.size ≤ 140737488355328) (hk : k < maxLen)
    (hm : a.eval x = .map (some b)) (hx : a.eval y = .string p) (hz : a.eval z = .agg #[.string s, .bool c])
    (hK : ∀ w', MapG w' b (k + 1) (fun q => if q = p.data.toList then some (s.data.toList, c) else f q) → w.grownBy w' (some b) → K (a.put o.dst undef) w') :
    if Region.wanted o (yielded ops a.tmps) = true then Oper.wp Tryz.prog o a w K Q else E := by
  have hw : Region.wanted o (yielded ops a.tmps) = true := by simp [Region.wanted, hg]
  rw [if_pos hw]
  obtain ⟨w', hr, hm', hg'⟩ := h.put (s := s) c hp hk
  unfold Oper.wp
  simp [execOp, hop, hm, hx, hz, hr, Result.andThen]
  exact hK w' hm' hg'
/-- Between the store of the size and the entry into the map. -/
structure EMid (w : World) (e mb : Nat) (L : EnL) (sz told : Nat) : Prop where
  blk : Blk w e 85 #[.map (some mb), .int .i64 (sz : Int), .int .i64 told]
  map : MapG w mb (L.length + 4) (lookM L)
theorem EMid.of {w : World} {e mb : Nat} {L : EnL} {told : Nat} (h : EnAt w e mb L told) (sz : Nat) : EMid (w.setCell ⟨e, 1, none⟩ (.int .i64 (sz : Int))) e mb L sz told ∧ T2 e mb w (w.setCell ⟨e, 1, none⟩ (.int .i64 (sz : Int))) := by
  have hg : w.grownBy (w.setCell ⟨e, 1, none⟩ (.int .i64 (sz : Int))) (some e) := only_setCell (World.grownBy.refl w (some e)) (.inl rfl) _
  refine ⟨⟨h.blk.set_ 1 _, h.map.keep (hg.block mb h.map.lt ?_)⟩, (T2.refl _ _ _).grown_e hg⟩
  intro hc
  injection hc with hc
  exact h.ne hc.symm
theorem EMid.below {w w' : World} {e mb sz told : Nat} {L : EnL} (h : EMid w e mb L sz told) (hb : Below w.heap.size w w') : EMid w' e mb L sz told :=
  ⟨h.blk.below hb h.blk.lt, h.map.keep (hb.block mb h.map.lt)⟩
theorem EMid.done {w w' : World} {e mb sz told : Nat} {L : EnL} {n t : List UInt8} (h : EMid w e mb L sz told) (hl : lookM L n = none) (hs : sizeE (L ++ [(n, t)]) = sz) (h200 : sz ≤ 200) (hn : 1 ≤ n.length) (hln : L.length ≤ sizeE L) (ht : told ≤ 40)
    (hm : MapG w' mb (L.length + 4 + 1) (fun q => if q = n then some (t, true) else lookM L q)) (hg : w.grownBy w' (some mb)) : EnAt w' e mb (L ++ [(n, t)]) told := by
  refine ⟨?_, ?_, by omega, ?_, ht⟩
  · rw [hs]
    refine h.blk.grown hg ?_
    intro hc
    injection hc with hc
    obtain ⟨es, c, hm⟩ := h.map.obj
    have := h.blk
    unfold Blk at this
    rw [hc, hm] at this
    cases this
  · rw [List.length_append]
    exact hm.congr fun q => lookM_snoc hl q
  · rw [size_snoc] at hs ⊢
    simp
    omega
theorem def_no {L : EnL} {n t : List UInt8} (h : defC L n t ≠ 0) : defE L n t = L := by unfold defE; rw [if_neg h]
set_option maxHeartbeats 2000000 in
theorem edefine_any (w : World) (e mb : Nat) (L : EnL) (told : Nat) (n t : ByteArray) (h : EnAt w e mb L told) (hn : n.size ≤ 140737488355328) (ht : t.size ≤ 140737488355328) :
    Calls Tryz.prog 155 #[.pointer (some ⟨e, 0, none⟩), .string n, .string t] w fun x w' => x = .returned (.int .i64 (defC L n.data.toList t.data.toList)) ∧ EnAt w' e mb (defE L n.data.toList t.data.toList) told ∧ T2 e mb w w' := by
  have c0 : w.cell? ⟨e, 0, none⟩ = some (.map (some mb)) := h.blk.cell 0
  have c1 : w.cell? ⟨e, 1, none⟩ = some (.int .i64 (sizeE L)) := h.blk.cell 1
  have hlt := h.blk.lt
  have hsn : n.data.toList.length = n.size := by simp
  have hst : t.data.toList.length = t.size := by simp
  have hsz := h.sz
  have hln := h.ln
  by_cases hl : localL n.data.toList = false
  · have hc : defC L n.data.toList t.data.toList = 1 := by unfold defC; rw [if_pos hl]
    rw [def_no (by rw [hc]; decide), hc]
    have HL := Lib.hid hl
    clear hl hc
    go_enter Tryz.func155, Tryz.ntmps155
    go_wp2_with (first
      | (go_at_call 40; refine (local_any n _ hn).mono ?_; rintro x w' ⟨rfl, rfl⟩; rw [HL.out]))
    go_ret
    exact ⟨rfl, h, T2.refl _ _ _⟩
  have hl1 : localL n.data.toList = true := by simpa using hl
  have h16 := local_len hl1
  by_cases hu : (runesL t.data.toList).isSome = false
  · have hc : defC L n.data.toList t.data.toList = 3 := by unfold defC; rw [if_neg hl, if_pos hu]
    rw [def_no (by rw [hc]; decide), hc]
    have HL := Lib.hid hl1
    have HU := Lib.hid hu
    clear hl hl1 hu hc
    go_enter Tryz.func155, Tryz.ntmps155
    go_wp2_with (first
      | (go_at_call 40; refine (local_any n _ hn).mono ?_; rintro x w' ⟨rfl, rfl⟩; rw [HL.out])
      | (go_at_call 167; refine (whole_utf t _ ht).mono ?_; rintro x w1 ⟨rfl, hb1⟩; rw [HU.out]))
    go_ret
    exact ⟨rfl, h.below hb1, T2.of_below hb1⟩
  have hu1 : (runesL t.data.toList).isSome = true := by rw [Bool.not_eq_false] at hu; exact hu
  by_cases hi : (lookM L n.data.toList).isSome = true
  · have hi2 : ((fourE n.data.toList).isSome || (findE n.data.toList L).isSome) = true := by rw [← lookM_isSome]; exact hi
    have hc : defC L n.data.toList t.data.toList = 6 := by unfold defC; rw [if_neg hl, if_neg hu, if_pos hi2]
    rw [def_no (by rw [hc]; decide), hc]
    have HL := Lib.hid hl1
    have HU := Lib.hid hu1
    have HI := Lib.hid hi
    clear hl hl1 hu hu1 hi hi2 hc
    go_enter Tryz.func155, Tryz.ntmps155
    go_wp2_with (first
      | (go_at_call 40; refine (local_any n _ hn).mono ?_; rintro x w' ⟨rfl, rfl⟩; rw [HL.out])
      | (go_at_call 167; refine (whole_utf t _ ht).mono ?_; rintro x w1 ⟨rfl, hb1⟩; rw [HU.out]; have h1 := h.below hb1; have hm1 := h1.map; have d0 : w1.cell? ⟨e, 0, none⟩ = some (.map (some mb)) := h1.blk.cell 0; have hlt1 := h1.blk.lt)
      | (at_lookup; refine wp_lookG hm1 rfl _ _ rfl n hn rfl rfl ?_; intro s c hv; rw [HI.out]; clear hv))
    go_ret
    have hb2 : Below w1.heap.size w1 (w1.alloc (.cells #[.string s, .bool c] 102)) := (Below.refl _ _).alloc (Nat.le_refl _) _
    exact ⟨rfl, h1.below hb2, (T2.of_below hb1).trans (T2.of_below hb2)⟩
  have hi1 : lookM L n.data.toList = none := by
    cases hh : lookM L n.data.toList with
    | none => rfl
    | some x => rw [hh] at hi; exact absurd rfl hi
  have hi2 : ¬ ((fourE n.data.toList).isSome || (findE n.data.toList L).isSome) = true := by rw [← lookM_isSome]; exact hi
  obtain ⟨sz, hsz'⟩ : ∃ sz : Nat, sz = sizeE L + n.size + t.size := ⟨_, rfl⟩
  have es := Lib.hid (show (sizeE L : Int) + (n.size : Int) + (t.size : Int) = (sz : Int) by omega)
  by_cases ho : 200 < sz
  · have hc : defC L n.data.toList t.data.toList = 15 := by unfold defC; rw [if_neg hl, if_neg hu, if_neg hi2, hsn, hst, if_pos (by omega)]
    rw [def_no (by rw [hc]; decide), hc]
    have HL := Lib.hid hl1
    have HU := Lib.hid hu1
    have HI := Lib.hid hi1
    have ho2 : ¬ (sizeE L : Int) + (n.size : Int) + (t.size : Int) ≤ 200 := by omega
    clear hl hl1 hu hu1 hi hi1 hi2 hc
    go_enter Tryz.func155, Tryz.ntmps155
    go_wp2_with (first
      | (go_at_call 40; refine (local_any n _ hn).mono ?_; rintro x w' ⟨rfl, rfl⟩; rw [HL.out])
      | (go_at_call 167; refine (whole_utf t _ ht).mono ?_; rintro x w1 ⟨rfl, hb1⟩; rw [HU.out]; have h1 := h.below hb1; have hm1 := h1.map; have d0 : w1.cell? ⟨e, 0, none⟩ = some (.map (some mb)) := h1.blk.cell 0; have d1 : w1.cell? ⟨e, 1, none⟩ = some (.int .i64 (sizeE L)) := h1.blk.cell 1; have hlt1 := h1.blk.lt)
      | (at_lookup; refine wp_lookG hm1 rfl _ _ rfl n hn rfl rfl ?_; intro s c hv; rw [HI.out]; clear hv))
    go_ret
    have hb2 : Below w1.heap.size w1 (w1.alloc (.cells #[.string s, .bool c] 102)) := (Below.refl _ _).alloc (Nat.le_refl _) _
    exact ⟨rfl, h1.below hb2, (T2.of_below hb1).trans (T2.of_below hb2)⟩
  · have hc : defC L n.data.toList t.data.toList = 0 := by unfold defC; rw [if_neg hl, if_neg hu, if_neg hi2, hsn, hst, if_neg (by omega)]
    have hE : defE L n.data.toList t.data.toList = L ++ [(n.data.toList, t.data.toList)] := by unfold defE; rw [if_pos hc]
    have hs2 : sizeE (L ++ [(n.data.toList, t.data.toList)]) = sz := by rw [size_snoc, hsn, hst]; omega
    rw [hE, hc]
    have HL := Lib.hid hl1
    have HU := Lib.hid hu1
    have HI := Lib.hid hi1
    have HS2 := Lib.hid hs2
    have hs63 : sz ≤ 200 := by omega
    have ho2 : (sizeE L : Int) + (n.size : Int) + (t.size : Int) ≤ 200 := by omega
    clear hl hl1 hu hu1 hi hi1 hi2 hc hE hs2 ho
    go_enter Tryz.func155, Tryz.ntmps155
    go_wp2_with (first
      | (go_at_call 40; refine (local_any n _ hn).mono ?_; rintro x w' ⟨rfl, rfl⟩; rw [HL.out])
      | (go_at_call 167; refine (whole_utf t _ ht).mono ?_; rintro x w1 ⟨rfl, hb1⟩; rw [HU.out]; have h1 := h.below hb1; have hm1 := h1.map; have d0 : w1.cell? ⟨e, 0, none⟩ = some (.map (some mb)) := h1.blk.cell 0; have d1 : w1.cell? ⟨e, 1, none⟩ = some (.int .i64 (sizeE L)) := h1.blk.cell 1; have f1 := h1.blk.frozen 1; have hlt1 := h1.blk.lt)
      | (at_lookup; refine wp_lookG hm1 rfl _ _ rfl n hn rfl rfl ?_; intro s c hv; rw [HI.out]; clear hv))
    obtain ⟨m2, T2'⟩ := EMid.of h1 sz
    have a2 : Below (w1.setCell ⟨e, 1, none⟩ (.int .i64 (sz : Int))).heap.size (w1.setCell ⟨e, 1, none⟩ (.int .i64 (sz : Int))) ((w1.setCell ⟨e, 1, none⟩ (.int .i64 (sz : Int))).alloc (.cells #[.string s, .bool c] 102)) := (Below.refl _ _).alloc (Nat.le_refl _) _
    have m3 := m2.below a2
    have T3 := (T2.of_below (e := e) (mb := mb) hb1).trans (T2'.trans (T2.of_below a2))
    rw [← es.out] at m3 T3
    obtain ⟨W, hW⟩ : ∃ W, (w1.setCell ⟨e, 1, none⟩ (.int .i64 ((sizeE L : Int) + (n.size : Int) + (t.size : Int)))).alloc (.cells #[.string s, .bool c] 102) = W := ⟨_, rfl⟩
    rw [hW] at m3 T3
    rw [hW]
    clear hW m2 T2' a2 d0 d1 f1 hm1 c0 c1 h1 hb1
    have y0 : W.drew.cell? ⟨e, 0, none⟩ = some (.map (some mb)) := m3.blk.cell 0
    have HM := Lib.hid (And.intro m3 T3)
    refine region_g [9] (S := (fun W' => W'.cell? ⟨e, 0, none⟩ = some (.map (some mb)))) (by kernel_rfl) y0 (fun hH => ?_)
    refine g_take (i := 0) (v := .pointer (some ⟨e, 0, none⟩)) (by rfl) (by kernel_rfl) (by kernel_rfl) (by kernel_rfl) (by kernel_rfl) (fun _ _ _ h => (by cases h.1)) (Or.inl ⟨by rfl, fun W' hS => (by go_simp)⟩) hH ?_
    simp only [Act.put, List.setIfInBounds_toArray, List.set_cons_zero, List.set_cons_succ]
    refine g_take (i := 1) (v := .pointer (some ⟨e, 0, none⟩)) (by rfl) (by kernel_rfl) (by kernel_rfl) (by kernel_rfl) (by kernel_rfl) (fun _ _ _ h => (by cases h.1)) (Or.inl ⟨by rfl, fun W' hS => (by go_simp)⟩) hH ?_
    simp only [Act.put, List.setIfInBounds_toArray, List.set_cons_zero, List.set_cons_succ]
    refine g_take (i := 2) (v := .pointer (some ⟨e, 0, none⟩)) (by rfl) (by kernel_rfl) (by kernel_rfl) (by kernel_rfl) (by kernel_rfl) (fun _ _ _ h => (by cases h.1)) (Or.inl ⟨by rfl, fun W' hS => (by go_simp)⟩) hH ?_
    simp only [Act.put, List.setIfInBounds_toArray, List.set_cons_zero, List.set_cons_succ]
    refine g_take (i := 3) (v := .map (some mb)) (by rfl) (by kernel_rfl) (by kernel_rfl) (by kernel_rfl) (by kernel_rfl) (fun _ _ _ h => (by cases h.1)) (Or.inl ⟨by rfl, fun W' hS => (by go_simp)⟩) hH ?_
    simp only [Act.put, List.setIfInBounds_toArray, List.set_cons_zero, List.set_cons_succ]
    refine g_take (i := 4) (v := .string n) (by rfl) (by kernel_rfl) (by kernel_rfl) (by kernel_rfl) (by kernel_rfl) (fun _ _ _ h => (by cases h.1)) (Or.inl ⟨by rfl, fun W' hS => (by go_simp)⟩) hH ?_
    simp only [Act.put, List.setIfInBounds_toArray, List.set_cons_zero, List.set_cons_succ]
    refine g_take (i := 6) (v := .string t) (by rfl) (by kernel_rfl) (by kernel_rfl) (by kernel_rfl) (by kernel_rfl) (fun _ _ _ h => (by cases h.1)) (Or.inl ⟨by rfl, fun W' hS => (by go_simp)⟩) hH ?_
    simp only [Act.put, List.setIfInBounds_toArray, List.set_cons_zero, List.set_cons_succ]
    refine g_one (i := 5) (by kernel_rfl) (by rfl) (fun K' hK' => ?_)
    go_simp
    refine (clone_any n _ hn).mono ?_
    rintro x w3 ⟨rfl, hb3⟩
    have hbr : Below W.heap.size W w3 := (below_drew (Below.refl W.heap.size W)).trans hb3
    refine hK'.out _ _ (fun _ => (hb3.cell (cell_lt y0)).trans y0) (fun hH => ?_)
    clear hK' K'
    try simp only [Act.put, List.setIfInBounds_toArray, List.set_cons_zero, List.set_cons_succ]
    refine g_one (i := 7) (by kernel_rfl) (by rfl) (fun K' hK' => ?_)
    go_simp
    refine (clone_any t _ ht).mono ?_
    rintro x w4 ⟨rfl, hb4⟩
    have hH2 := hH (by decide)
    have hbr4 := hbr.trans (hb4.mono hbr.size)
    refine hK'.out _ _ (fun _ => (hb4.cell (cell_lt hH2)).trans hH2) (fun hH => ?_)
    clear hK' K'
    try simp only [Act.put, List.setIfInBounds_toArray, List.set_cons_zero, List.set_cons_succ]
    refine g_one (i := 8) (by kernel_rfl) (by rfl) (fun K' hK' => ?_)
    go_simp
    refine hK'.out _ _ (fun _ => hH (by decide)) (fun hH => ?_)
    clear hK' K'
    try simp only [Act.put, List.setIfInBounds_toArray, List.set_cons_zero, List.set_cons_succ]
    have m4 := HM.out.1.below hbr4
    refine g_one (i := 9) (by kernel_rfl) (by rfl) (fun K' hK' => ?_)
    refine step_putG m4.map (by rfl) _ _ _ (by rfl) n t true hn (by simp only [maxLen]; omega) (by rfl) (by rfl) (by rfl) ?_
    intro w5 hm5 hg5
    refine hK'.out _ _ (fun h => absurd (List.mem_singleton.2 rfl) h) (fun _ => ?_)
    clear hK' K'
    refine g_done (by kernel_rfl) ⟨by first | rfl | trivial, ?_⟩ _
    clear hH hH2 y0
    go_wp2
    go_ret
    refine ⟨rfl, m4.done HI.out HS2.out hs63 h16.1 hln h.tl hm5 hg5, ?_⟩
    exact (HM.out.2.trans (T2.of_below hbr4)).grown_m hg5
end Go.Proofs.YtjepnddndpmnnaaGreatDoor

/-
  The reference's texts that are read: Tell, Has, Finish.
  delim: a cell's contents, plain and quoted. No program is read here.
  The reference's cells as plain functions on bytes. No program is read here.
-/
import Derived.Test.YtfciacigamjfkabGreatDmS28
import Derived.Test.YtfciacigamjfkabGreatDmS24
namespace Go.Proofs.YtfciacigamjfkabGreat
open Go.RowKit Go.Maps
set_option maxRecDepth 100000
set_option linter.unusedSimpArgs false
set_option linter.unusedVariables false
set_option linter.unusedSectionVars false
variable [Tab] [Fo]

def tellX (x : Tx) (k : Int) (t : ByteArray) : Tx := { x with l := x.l ++ [⟨k, t, ⟨#[]⟩⟩] }
set_option maxHeartbeats 4000000 in
theorem rtell_any (w : World) (base t : Nat) (x : Tx) (lv : Value) (k : Int) (s : ByteArray) (h : TxAt w base t x lv) (hf : ¬ Fo.F t) (hb : base ≤ w.heap.size) (hl : x.l.length ≤ 1000000) :
    Calls Tryz.prog 35 #[.pointer (some ⟨t, 0, none⟩), .int .i64 k, .string s] w fun f w' => f = .returned (.tuple #[]) ∧ (∃ lv', TxAt w' base t (tellX x k s) lv') ∧ Tch base txObj w w' := by
  obtain ⟨_, _, _, c3, _, _⟩ := h.cells
  obtain ⟨A, c, rfl⟩ := h.row.shape
  have hlt := h.blk.lt
  have h63 : x.l.length + 1 ≤ maxLen := by simp only [maxLen]; omega
  have h40 : (x.l.length + 1) * 40 ≤ 140737488355328 := by omega
  have hbe : base ≤ (w.alloc (.cells #[.int .i64 k, .string s, .string ⟨#[]⟩] 46)).heap.size := by simp; omega
  have H : Hid (∀ v4 w4, w4.ownsRow base 46 3 v4 (x.l.length + 1) (evcs x.l ++ [.int .i64 k, .string s, .string ⟨#[]⟩]) → (w.alloc (.cells #[.int .i64 k, .string s, .string ⟨#[]⟩] 46)).grownBy w4 (Value.slice A x.l.length c).ownBlock → NB (w.alloc (.cells #[.int .i64 k, .string s, .string ⟨#[]⟩] 46)) (.slice A x.l.length c) v4 →
      w4.cell? ⟨t, 3, none⟩ = some (.slice A x.l.length c) ∧ w4.frozen? ⟨t, 3, none⟩ = false ∧ t < w4.heap.size ∧ (∃ lv', TxAt (w4.setCell ⟨t, 3, none⟩ v4) base t (tellX x k s) lv') ∧ Tch base txObj w (w4.setCell ⟨t, 3, none⟩ v4)) := by
    refine Lib.hid fun v4 w4 hown hg hnb => ?_
    obtain ⟨hrow, hT⟩ := erow_push (x := ⟨k, s, ⟨#[]⟩⟩) h.row h.nf hg hown
    have hnf4 := h.nf.nb hnb (Nat.le_trans h.lim (by simp))
    have hB4 := h.blk.tch hT (.inr (by simp only [eObj]; decide))
    have ht : Tch base txOnly w4 (w4.setCell ⟨t, 3, none⟩ v4) := (Tch.refl _ _ _).set hB4 h.bt hf (show txOnly (.cells _ _ _) from rfl) 3 v4
    have hall : Tch base txObj w (w4.setCell ⟨t, 3, none⟩ v4) := (hT.wide fun o ho => by cases o <;> simp only [eObj, txObj] at ho ⊢; exact .inr ho).trans (ht.wide fun _ => tx_of)
    exact ⟨hB4.cell 3, hB4.frozen 3, hB4.lt, ⟨v4, hB4.set_ 3 v4, row_tch hrow ht (fun _ _ => by simp only [txOnly]; decide), h.bt, hnf4, Nat.le_trans h.lim hall.size⟩, hall⟩
  have hrow := h.row
  clear h hf hb
  go_enter Tryz.func35, Tryz.ntmps35
  go_wp2_with (first
    | (at_builtin; refine wp_appG rfl _ _ 24 rfl base 46 _ 3 40 Tryz.underlying24 Tryz.infoEv rfl (by decide) (.slice A x.l.length c) x.l.length (evcs x.l) [.int .i64 k, .string s, .string ⟨#[]⟩] rfl (by exact hrow.alloc _) (by simp [Value.oneCell']) ⟨w.heap.size, 0, none⟩ 1 1 rfl rfl (by exact cellsOf3 w _ _ _ _) h63 h40 hbe ?_; intro v4 w4 hown4 hg4 hnb4; obtain ⟨g4, c4, rfl⟩ := rowN_shape hown4 (Nat.succ_pos _); obtain ⟨d3, f3, dl, HN'⟩ := H.out _ w4 hown4 hg4 hnb4; have HN := Lib.hid HN'; clear HN' hown4 hg4 hnb4 H c3 hrow))
  go_end0
  exact ⟨rfl, HN.out.1, HN.out.2⟩

set_option maxHeartbeats 4000000 in
theorem has_any (w : World) (cv : Value) (l : List (List UInt8)) (t : List UInt8) (hv : SRead w cv l) (hl : l.length ≤ 1000000) :
    Calls Tryz.prog 56 #[cv, .string ⟨t.toArray⟩] w fun e w' => e = .returned (.bool (decide (t ∈ l))) ∧ ∃ n, w' = w.drewN n := by
  obtain ⟨A, c, rfl, hr⟩ := hv
  obtain ⟨Q, hQ⟩ : ∃ Q, decide (t ∈ l) = Q := ⟨_, rfl⟩
  have HQ := Lib.hid hQ
  rw [hQ]
  clear hQ
  go_enter Tryz.func56, Tryz.ntmps56
  go_wp2
  go_loopw [5] (fun i wr => ∃ k : Nat, k ≤ l.length ∧ i = .int .i64 k ∧ Hid (t ∉ l.take k) ∧ ∃ n, wr = w.drewN n) (fun i _ => l.length - (intOf i).toNat)
  case atStart => exact ⟨0, Nat.zero_le _, rfl, Lib.hid (by simp), 0, rfl⟩
  case round =>
    obtain ⟨k, hk, rfl, HT, n, rfl⟩ := hrel
    by_cases hlt : k < l.length
    · obtain ⟨ad, rfl, hc⟩ := hr (by omega)
      have hck : (w.drewN n).cell? (ad.add k) = some (.string ⟨l[k].toArray⟩) := hc k hlt
      by_cases he : l[k] = t
      · have hm : t ∈ l := by rw [← he]; exact List.getElem_mem hlt
        have hq : Q = true := by rw [← HQ.out]; simpa using hm
        subst hq
        rw [he] at hck
        clear he hc hr hm
        go_wp2
        go_ret
        exact ⟨rfl, n, rfl⟩
      · obtain ⟨n1, n2⟩ := str_neq he
        have HT2 : Hid (t ∉ l.take (k + 1)) := Lib.hid (by
          rw [List.take_succ_eq_append_getElem hlt, List.mem_append]
          rintro (h | h)
          · exact HT.out h
          · simp at h; exact he h.symm)
        generalize l[k] = y at *
        have n3 : (y == t) = false := by rw [beq_eq_false_iff_ne]; exact he
        clear hc hr
        go_wp2
        go_roundw
        case rel => exact ⟨k + 1, hlt, by go_num, HT2, n, rfl⟩
        case measure => first | (simp [intOf]; done) | (simp [intOf]; omega)
    · have hke : k = l.length := by omega
      have h2 := HT.out
      rw [List.take_of_length_le (by omega)] at h2
      have hq : Q = false := by rw [← HQ.out]; simpa using h2
      subst hq
      subst hke
      clear h2 HT hr
      go_wp2
      go_ret
      exact ⟨rfl, n, rfl⟩

/-- The end of a text that was read. -/
def finX (x : Tx) (bad : Int) : Int × Int := if 0 ≤ bad ∧ (x.e = 0 ∨ bad ≤ x.pl) then (3, bad) else if x.e ≠ 0 then (x.e, x.pl) else (0, x.s.length)
set_option maxHeartbeats 4000000 in
theorem finish_any (w : World) (base t : Nat) (x : Tx) (lv : Value) (bad : Int) (h : TxAt w base t x lv) (hs : x.s.length ≤ 1000) :
    Calls Tryz.prog 36 #[.pointer (some ⟨t, 0, none⟩), .int .i64 bad] w fun f w' => f = .returned (.tuple #[lv, .int .i64 (finX x bad).1, .int .i64 (finX x bad).2]) ∧ ∃ n, w' = w.drewN n := by
  obtain ⟨c0, _, _, c3, c4, c5⟩ := h.cells
  have hz : (⟨x.s.toArray⟩ : ByteArray).size = x.s.length := by show x.s.toArray.size = _; simp
  have hz6 : (⟨x.s.toArray⟩ : ByteArray).size ≤ 1000 := by omega
  unfold finX
  rw [← hz]
  clear h hz hs
  generalize (⟨x.s.toArray⟩ : ByteArray) = s at *
  generalize x.e = E at *
  generalize x.pl = P at *
  by_cases h0 : 0 ≤ bad
  · have d0 : decide ((0 : Int) ≤ bad) = true := by simpa using h0
    by_cases hE : E = 0
    · subst hE
      rw [if_pos ⟨h0, .inl rfl⟩]
      go_enter Tryz.func36, Tryz.ntmps36
      go_wp2
      try go_quiet (fail)
      go_wp2
      try go_quiet (fail)
      try go_wp2
      go_ret3
      exact ⟨rfl, by first | exact ⟨_, rfl⟩ | exact ⟨0, rfl⟩⟩
    · have e0 : (E == 0) = false := by rw [beq_eq_false_iff_ne]; exact hE
      by_cases hP : bad ≤ P
      · rw [if_pos ⟨h0, .inr hP⟩]
        have dP : decide (bad ≤ P) = true := by simpa using hP
        clear hE
        go_enter Tryz.func36, Tryz.ntmps36
        go_wp2
        try go_quiet (fail)
        try go_wp2
        try go_quiet (fail)
        try go_wp2
        go_ret3
        exact ⟨rfl, by first | exact ⟨_, rfl⟩ | exact ⟨0, rfl⟩⟩
      · rw [if_neg (by rintro ⟨_, h | h⟩; exact hE h; exact hP h), if_pos hE]
        have dP : decide (bad ≤ P) = false := by simpa using hP
        clear hE
        go_enter Tryz.func36, Tryz.ntmps36
        go_wp2
        try go_quiet (fail)
        try go_wp2
        try go_quiet (fail)
        try go_wp2
        go_ret3
        exact ⟨rfl, by first | exact ⟨_, rfl⟩ | exact ⟨0, rfl⟩⟩
  · have d0 : decide ((0 : Int) ≤ bad) = false := by simpa using h0
    rw [if_neg (fun h => h0 h.1)]
    by_cases hE : E = 0
    · subst hE
      rw [if_neg (by decide)]
      go_enter Tryz.func36, Tryz.ntmps36
      go_wp2
      try go_quiet (fail)
      try go_wp2
      try go_quiet (fail)
      try go_wp2
      go_ret3
      exact ⟨rfl, by first | exact ⟨_, rfl⟩ | exact ⟨0, rfl⟩⟩
    · have e0 : (E == 0) = false := by rw [beq_eq_false_iff_ne]; exact hE
      rw [if_pos hE]
      clear hE
      go_enter Tryz.func36, Tryz.ntmps36
      go_wp2
      try go_quiet (fail)
      try go_wp2
      try go_quiet (fail)
      try go_wp2
      go_ret3
      exact ⟨rfl, by first | exact ⟨_, rfl⟩ | exact ⟨0, rfl⟩⟩
end Go.Proofs.YtfciacigamjfkabGreat
namespace Go.Proofs.YtfciacigamjfkabGreat
set_option maxRecDepth 100000
set_option linter.unusedSimpArgs false
set_option linter.unusedVariables false
set_option linter.unusedSectionVars false
variable [Tab] [Fo]

/-- A Scan's run. -/
def scG (l lo hi : Int) : List UInt8 → Option (Int × Int × Int)
  | [] => some (l, lo, hi)
  | b :: t => if stOk l lo hi (b.toNat : Int) = true then scG (stL l (b.toNat : Int)) (stLo l (b.toNat : Int)) (stHi l (b.toNat : Int)) t else none
theorem sc_lo : ∀ (t : List UInt8) (l lo hi : Int), 0 ≤ l → (0 < l → 128 ≤ lo) → ∀ p q r, scG l lo hi t = some (p, q, r) → 0 ≤ p ∧ (0 < p → 128 ≤ q)
  | [], l, lo, hi, h0, h1, p, q, r, h => by
    simp only [scG, Option.some.injEq, Prod.mk.injEq] at h
    obtain ⟨rfl, rfl, rfl⟩ := h
    exact ⟨h0, h1⟩
  | b :: t, l, lo, hi, h0, h1, p, q, r, h => by
    simp only [scG] at h
    split at h
    · refine sc_lo t _ _ _ ?_ ?_ p q r h
      · unfold stL; repeat' split
        all_goals omega
      · intro _; unfold stLo; repeat' split
        all_goals omega
    · cases h
theorem sc_runes : ∀ (t : List UInt8) (s : Rn), (runesGo s t).isSome = match scG s.l s.lo s.hi t with | some (p, _, _) => decide (p = 0) | none => false
  | [], s => by
    simp only [runesGo, scG]
    split <;> simp_all
  | b :: t, s => by
    simp only [runesGo, scG, rnStep]
    by_cases hk : stOk s.l s.lo s.hi (b.toNat : Int) = true
    · simp only [hk, if_true]
      by_cases hz : stL s.l (b.toNat : Int) = 0
      · simp only [hz, if_true]
        have := sc_runes t ⟨stL s.l (b.toNat : Int), stLo s.l (b.toNat : Int), stHi s.l (b.toNat : Int), 0, s.out ++ [s.num * 64 + payI (b.toNat : Int)]⟩
        simp only [hz] at this
        exact this
      · simp only [hz, if_false]
        exact sc_runes t ⟨stL s.l (b.toNat : Int), stLo s.l (b.toNat : Int), stHi s.l (b.toNat : Int), s.num * 64 + payI (b.toNat : Int), s.out⟩
    · simp only [hk]
      rfl
theorem sc_valid (t : List UInt8) : (runesL t).isSome = match scG 0 128 191 t with | some (p, _, _) => decide (p = 0) | none => false := sc_runes t (rn0 [])
/-- An ASCII byte, behind whole characters or within one. -/
theorem ok_ascii {l lo hi b : Int} (hb : b < 128) (h0 : 0 ≤ b) (hl : 0 ≤ l) (h1 : 0 < l → 128 ≤ lo) : stOk l lo hi b = decide (l = 0) := by
  unfold stOk
  split
  · rename_i h
    have := h1 h
    rw [decide_eq_false (by omega), decide_eq_false (by omega)]
  · rw [decide_eq_true (.inl hb), decide_eq_true (by omega)]
theorem st_ascii {b : Int} (hb : b < 128) : stL 0 b = 0 ∧ stLo 0 b = 128 ∧ stHi 0 b = 191 := by
  unfold stL stLo stHi
  refine ⟨by rw [if_neg (by omega), if_pos hb], by rw [if_neg (by omega), if_neg (by omega), if_neg (by omega)], by rw [if_neg (by omega), if_neg (by omega), if_neg (by omega)]⟩
/-- A byte, of a Stream without an error. -/
theorem feed_ok {x : Ss dlP} (he : x.e = 0) {c : UInt8} (hk : stOk x.sl x.slo x.shi (c.toNat : Int) = true) (s : Ds) (h : stepD x.b c = ⟨s, 0⟩) : feed1 x c = ⟨s, stL x.sl (c.toNat : Int), stLo x.sl (c.toNat : Int), stHi x.sl (c.toNat : Int), 0, x.rd + 1⟩ := by
  unfold feed1
  rw [if_neg (by rw [he]; decide), if_pos hk]
  have h1 : dlP.stp x.b c = s := by show (stepD x.b c).b = s; rw [h]
  have h2 : dlP.ste x.b c = 0 := by show (stepD x.b c).e = 0; rw [h]
  rw [h1, h2, if_pos rfl]
theorem feed_bad {x : Ss dlP} (he : x.e = 0) {c : UInt8} (hk : stOk x.sl x.slo x.shi (c.toNat : Int) = false) : (feed1 x c).e = 3 := by
  unfold feed1
  rw [if_neg (by rw [he]; decide), if_neg (by rw [hk]; decide)]
def addC (s : Ds) (l : List UInt8) : Ds := { s with m := { s.m with c := s.m.c ++ l } }
theorem feedG_append' (x : Ss dlP) (a b : List UInt8) : feedG x (a ++ b) = feedG (feedG x a) b := by unfold feedG; rw [List.foldl_append]
theorem addC_nil (s : Ds) : addC s [] = s := by unfold addC; rw [List.append_nil]
theorem addC_cons (s : Ds) (b : UInt8) (l : List UInt8) : addC (addC s [b]) l = addC s (b :: l) := by unfold addC; simp
theorem addD_ok {s : Ds} (b : UInt8) (h : s.m.c.length < 48) : addD s b = ⟨addC s [b], 0⟩ := by unfold addD; rw [if_neg (by omega)]; rfl
theorem step_plain3 {s : Ds} {b : UInt8} (ha : s.m.a = 3) (hb : 32 ≤ b.toNat ∧ b.toNat ≠ 34 ∧ b.toNat ≠ 44) (h : s.m.c.length < 48) : stepD s b = ⟨addC s [b], 0⟩ := by
  unfold stepD
  rw [if_neg (by omega), if_neg (by omega), if_neg (by omega), if_neg (by omega)]
  unfold outD
  rw [if_neg (by omega), if_neg (by omega), if_neg (by omega)]
  exact addD_ok b h
theorem step_quoted {s : Ds} {b : UInt8} (ha : s.m.a = 4) (hb : b.toNat ≠ 34) (h : s.m.c.length < 48) : stepD s b = ⟨addC s [b], 0⟩ := by
  unfold stepD
  rw [if_neg (by omega), if_neg (by omega), if_pos ha, if_neg hb]
  exact addD_ok b h
/-- Bytes that a cell takes. -/
theorem cell_run : ∀ (l : List UInt8) (x : Ss dlP), x.e = 0 → (∀ b ∈ l, ∀ s : Ds, s.m.a = x.b.m.a → s.m.c.length < 48 → stepD s b = ⟨addC s [b], 0⟩) → x.b.m.c.length + l.length ≤ 48 →
    (∀ p q r, scG x.sl x.slo x.shi l = some (p, q, r) → feedG x l = ⟨addC x.b l, p, q, r, 0, x.rd + l.length⟩) ∧ (scG x.sl x.slo x.shi l = none → (feedG x l).e = 3)
  | [], x, he, _, _ => by
    refine ⟨fun p q r h => ?_, fun h => by cases h⟩
    simp only [scG, Option.some.injEq, Prod.mk.injEq] at h
    obtain ⟨h1, h2, h3⟩ := h
    obtain ⟨b, sl, slo, shi, e, rd⟩ := x
    simp only at he h1 h2 h3
    subst he h1 h2 h3
    show (⟨b, sl, slo, shi, 0, rd⟩ : Ss dlP) = _
    rw [addC_nil]
    rfl
  | c :: l, x, he, hs, hl => by
    rw [List.length_cons] at hl
    have h1 := hs c (List.mem_cons_self ..) x.b rfl (by omega)
    rw [feedG_cons]
    simp only [scG]
    cases hk : stOk x.sl x.slo x.shi (c.toNat : Int) with
    | true =>
      rw [if_pos rfl, feed_ok he hk _ h1]
      have ih := cell_run l ⟨addC x.b [c], stL x.sl (c.toNat : Int), stLo x.sl (c.toNat : Int), stHi x.sl (c.toNat : Int), 0, x.rd + 1⟩ rfl (fun b hb s ha hlen => hs b (List.mem_cons_of_mem _ hb) s ha hlen) (by show (x.b.m.c ++ [c]).length + l.length ≤ 48; rw [List.length_append, List.length_singleton]; omega)
      refine ⟨fun p q r h => ?_, ih.2⟩
      rw [ih.1 p q r h]
      show (⟨addC (addC x.b [c]) l, p, q, r, 0, x.rd + 1 + l.length⟩ : Ss dlP) = _
      rw [addC_cons, List.length_cons, show x.rd + 1 + l.length = x.rd + (l.length + 1) by omega]
    | false =>
      rw [if_neg (by decide)]
      refine ⟨(fun p q r h => by cases h), fun _ => ?_⟩
      have h3 := feed_bad he hk
      rw [feedG_stop (by rw [h3]; decide), h3]
end Go.Proofs.YtfciacigamjfkabGreat
namespace Go.Proofs.YtfciacigamjfkabGreat
set_option maxRecDepth 100000
set_option linter.unusedSectionVars false
variable [Tab] [Fo]

/-- What reading a cell leaves: its contents, where one is, the error (at that place) or 0. -/
structure CellR where
  out : List UInt8
  at' : Nat
  e : Int
def bareG : List UInt8 → List UInt8 → Nat → CellR
  | [], out, a => ⟨out, a, 0⟩
  | c :: t, out, a =>
    if c.toNat = 44 ∨ c.toNat = 10 then ⟨out, a, 0⟩ else if c.toNat < 32 ∨ c.toNat = 34 then ⟨out, a, 2⟩ else if 48 ≤ out.length then ⟨out, a, 4⟩ else bareG t (out ++ [c]) (a + 1)
def quotG : List UInt8 → List UInt8 → Nat → CellR
  | [], out, a => ⟨out, a, 2⟩
  | [c], out, a => if c.toNat = 34 then ⟨out, a + 1, 0⟩ else if 48 ≤ out.length then ⟨out, a, 4⟩ else ⟨out ++ [c], a + 1, 2⟩
  | c :: d :: t, out, a =>
    if c.toNat = 34 then
      (if d.toNat = 34 then (if 48 ≤ out.length then ⟨out, a + 1, 4⟩ else quotG t (out ++ [d]) (a + 2))
        else if d.toNat = 44 ∨ d.toNat = 10 then ⟨out, a + 1, 0⟩ else ⟨out, a + 1, 2⟩)
    else if 48 ≤ out.length then ⟨out, a, 4⟩ else quotG (d :: t) (out ++ [c]) (a + 1)
/-- A cell, of a text from a place on. -/
def cellG (rest : List UInt8) (a : Nat) : CellR :=
  match rest with
  | c :: t => if c.toNat = 34 then quotG t [] (a + 1) else bareG rest [] a
  | [] => bareG rest [] a
end Go.Proofs.YtfciacigamjfkabGreat

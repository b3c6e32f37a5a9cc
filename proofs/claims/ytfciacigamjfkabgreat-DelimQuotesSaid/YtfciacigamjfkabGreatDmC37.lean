/-
  The laws of delim: takes.
  delim: what is told of the beginning of a text is told of the whole. No program is read here.
-/
import Derived.Test.YtfciacigamjfkabGreatDmC35
import Derived.Test.YtfciacigamjfkabGreatDmC36
import Derived.Test.YtfciacigamjfkabGreatDmC31
namespace Go.Proofs.YtfciacigamjfkabGreat
open Go.RowKit Go.Maps
set_option maxRecDepth 100000
set_option linter.unusedSimpArgs false
set_option linter.unusedVariables false
set_option linter.unusedSectionVars false
variable [Tab] [Fo]

/-- Nothing has turned but some blocks. -/
structure FrS (S : Nat → Prop) (w w' : World) : Prop where
  os : w'.os = w.os
  tape : w'.tape = w.tape
  output : w'.output = w.output
  size : w.heap.size ≤ w'.heap.size
  keep : ∀ k, k < w.heap.size → ¬ S k → w'.heap[k]? = w.heap[k]?
section
variable {S : Nat → Prop} {w w' w'' : World}
theorem FrS.refl (S : Nat → Prop) (w : World) : FrS S w w := ⟨rfl, rfl, rfl, Nat.le_refl _, fun _ _ _ => rfl⟩
theorem FrS.trans (h : FrS S w w') (k : FrS S w' w'') : FrS S w w'' := ⟨k.os.trans h.os, k.tape.trans h.tape, k.output.trans h.output, Nat.le_trans h.size k.size, fun i hi hn => (k.keep i (Nat.lt_of_lt_of_le hi h.size) hn).trans (h.keep i hi hn)⟩
theorem FrS.of_below (h : Below w.heap.size w w') : FrS S w w' := ⟨h.os, h.tape, h.output, h.size, fun k hk _ => h.block k hk⟩
theorem FrS.below {base : Nat} (h : FrS S w w') (hS : ∀ k, S k → base ≤ k) (hz : base ≤ w.heap.size) : Below base w w' :=
  ⟨h.os, h.tape, h.output, h.size, fun k hk => h.keep k (by omega) (fun hs => by have := hS k hs; omega)⟩
theorem Fr3.toS {a b c : Nat} (h : Fr3 a b c w w') (hS : S a ∧ S b ∧ S c) : FrS S w w' :=
  ⟨h.os, h.tape, h.output, h.size, fun k hk hn => h.keep k hk (fun e => hn (e ▸ hS.1)) (fun e => hn (e ▸ hS.2.1)) (fun e => hn (e ▸ hS.2.2))⟩
theorem FrS.wide {S' : Nat → Prop} (h : FrS S w w') (hs : ∀ k, k < w.heap.size → S k → S' k) : FrS S' w w' := ⟨h.os, h.tape, h.output, h.size, fun k hk hn => h.keep k hk (fun q => hn (hs k hk q))⟩
theorem FrS.grown {v : Value} (h : w.grownBy w' v.ownBlock) (hs : ∀ k, v.ownBlock = some k → k < w.heap.size → S k) : FrS S w w' :=
  ⟨h.os, h.tape, h.output, h.size, fun k hk hn => h.block k hk (fun e => hn (hs k e.symm hk))⟩
theorem FrS.blk {g : Nat} {t : TypeId} {cs : Array Value} (h : FrS S w w') (hB : Blk w g t cs) (hn : ¬ S g) : Blk w' g t cs := (h.keep g hB.lt hn).trans hB
theorem FrS.row {base : Nat} {e : TypeId} {size n : Nat} {v : Value} {xs : List Value} (h : FrS S w w') (hr : w.ownsRow base e size v n xs) (hn : ∀ g, v.ownBlock = some g → ¬ S g) : w'.ownsRow base e size v n xs := by
  refine ⟨hr.1, ?_⟩
  rcases hr.2 with hv | ⟨g, cap, cur, hv, hg, hh, q⟩
  · exact .inl hv
  · exact .inr ⟨g, cap, cur, hv, hg, (h.keep g (Array.getElem?_eq_some_iff.1 hh).1 (hn g (by rw [hv]; rfl))).trans hh, q⟩
end
/-- A row's block stays clear of a Stream's. -/
def Clear (v : Value) (s o g : Nat) : Prop := ∀ k, v.ownBlock = some k → k ≠ s ∧ k ≠ o ∧ k ≠ g
/-- What asking for all turns. -/
def TkS (s o g : Nat) (v : Value) (k : Nat) : Prop := k = s ∨ k = o ∨ k = g ∨ v.ownBlock = some k
theorem nxs_ne (e : Int) (cl : Bool) : NxS e cl ≠ 1 := by
  unfold NxS
  split
  · decide
  · split <;> decide

theorem Wt.up {w w' : World} {base s sc o ck m g : Nat} {T : TypeId} {e : Int} {rd : Nat} {cl en : Bool} {l : List Ev} (h : Wt w base s sc o ck m g T e rd cl en l) (hk : ∀ k q, k = s ∨ k = o ∨ k = g → w.heap[k]? = some q → w'.heap[k]? = some q) : Wt w' base s sc o ck m g T e rd cl en l := by
  obtain ⟨lv, hB, hR⟩ := h.out
  exact ⟨hk s _ (.inl rfl) h.blk, ⟨lv, hk o _ (.inr (.inl rfl)) hB, hR.frame fun q hq => hk g q (.inr (.inr rfl)) hq⟩, h.bs, h.bo, h.bg⟩
theorem Wt.below {w w' : World} {base s sc o ck m g : Nat} {T : TypeId} {e : Int} {rd : Nat} {cl en : Bool} {l : List Ev} (h : Wt w base s sc o ck m g T e rd cl en l) (hb : Below w.heap.size w w') : Wt w' base s sc o ck m g T e rd cl en l :=
  h.up fun k q _ hq => (hb.block k (Array.getElem?_eq_some_iff.1 hq).1).trans hq
structure TkH (w wr : World) (base b0 s sc o ck m g : Nat) (T : TypeId) (e : Int) (rd : Nat) (cl en : Bool) (av u : Value) (ac rest : List Ev) : Prop where
  row : ERow wr b0 u ac
  clr : Clear u s o g
  own : u.ownBlock = av.ownBlock ∨ ∃ k, u.ownBlock = some k ∧ w.heap.size ≤ k
  wt : Wt wr base s sc o ck m g T e rd cl en rest
  fr : FrS (TkS s o g av) w wr

set_option maxHeartbeats 8000000 in
theorem takes_any (w : World) (base b0 s sc o ck m g d : Nat) (T : TypeId) (e : Int) (rd : Nat) (cl en : Bool) (l : List Ev) (av : Value) (acc : List Ev) (h : Wt w base s sc o ck m g T e rd cl en l) (hd : Blk w d 37 #[.pointer (some ⟨s, 0, none⟩)])
    (ha : ERow w b0 av acc) (hc : Clear av s o g) (hb0 : b0 ≤ w.heap.size) (hl : l.length < 5000) (hal : acc.length ≤ 100000) (hsg : s < w.heap.size ∧ o < w.heap.size ∧ g < w.heap.size) (hdn : ¬ TkS s o g av d) :
    Calls Tryz.prog 20 #[.pointer (some ⟨d, 0, none⟩), av] w fun f w' => ∃ av', f = .returned (.tuple #[av', .int .i64 (NxS e cl), .bool true]) ∧ ERow w' b0 av' (acc ++ l) ∧ Clear av' s o g ∧ (av'.ownBlock = av.ownBlock ∨ ∃ k, av'.ownBlock = some k ∧ w.heap.size ≤ k) ∧
      Wt w' base s sc o ck m g T e rd cl (en || decide (NxS e cl ≠ 2)) [] ∧ FrS (TkS s o g av) w w' := by
  obtain ⟨N, hN⟩ : ∃ N, NxS e cl = N := ⟨_, rfl⟩
  have hn1 : N ≠ 1 := hN ▸ nxs_ne e cl
  have zN : (N == 1) = false := by rw [beq_eq_false_iff_ne]; exact hn1
  have zN2 : (N != 1) = true := by simp [bne, zN]
  have HP := Lib.hid (And.intro hsg (And.intro hdn (And.intro hb0 (And.intro hal hN))))
  have HD := Lib.hid hd
  have HLN := Lib.hid hl
  have start : ∃ (k : Nat) (ac rest : List Ev), Hid (acc ++ l = ac ++ rest) ∧ k + rest.length = l.length ∧ (.int .i64 0 : Value) = .int .i64 k ∧ TkH w w base b0 s sc o ck m g T e rd cl en av av ac rest :=
    ⟨0, acc, l, Lib.hid rfl, by omega, rfl, ⟨ha, hc, .inl rfl, h, FrS.refl _ _⟩⟩
  have START := Lib.hid start
  rw [hN]
  clear hN hdn hsg hb0 ha hc hd h hal start
  go_enter Tryz.func20, Tryz.ntmps20
  go_wp2
  go_loopw [1, 7] (fun u i wr => ∃ (k : Nat) (ac rest : List Ev), Hid (acc ++ l = ac ++ rest) ∧ k + rest.length = l.length ∧ i = .int .i64 k ∧ TkH w wr base b0 s sc o ck m g T e rd cl en av u ac rest) (fun _ i _ => 5000 - (intOf i).toNat)
  case atStart => exact START.out
  case round =>
    obtain ⟨k, ac, rest, hsp, hkr, rfl, HK⟩ := hrel
    have hk5 : k < 5000 := by omega
    have z5 : decide ((k : Int) < 5000) = true := by simp; omega
    obtain ⟨⟨hs1, hs2, hs3⟩, hdn, hb0, hal, hN⟩ := HP.out
    have hDB : Blk wr d 37 #[.pointer (some ⟨s, 0, none⟩)] := HK.fr.blk HD.out hdn
    have d0 : wr.cell? ⟨d, 0, none⟩ = some (.pointer (some ⟨s, 0, none⟩)) := hDB.cell 0
    have hdl := hDB.lt
    have hacl : ac.length ≤ 110000 := by
      have := congrArg List.length hsp.out
      simp only [List.length_append] at this
      have := HLN.out
      omega
    cases rest with
    | nil =>
      have hC := next_none wr base s sc o ck m g T e rd cl en HK.wt
      rw [hN] at hC
      have HC := Lib.hid hC
      have hrow := HK.row
      obtain ⟨A, c, hu⟩ := hrow.shape
      subst hu
      clear hC hDB hrow START hN hdn hal
      go_wp2_with fail
      refine HC.out.mono ?_
      rintro f w2 ⟨rfl, hW2, hF2⟩
      have HF := Lib.hid (And.intro hW2 hF2)
      clear hW2 hF2 HC
      simp only [zeroEv]
      have al : Below w2.heap.size w2 ((w2.alloc (.cells #[.int .i64 0, .string ⟨#[]⟩, .string ⟨#[]⟩] 46)).drew) := below_drew ((Below.refl _ _).alloc (Nat.le_refl _) _)
      have hrow2 : ERow w2 b0 (.slice A ac.length c) ac := HF.out.2.row HK.row HK.clr
      have hfin : ERow ((w2.alloc (.cells #[.int .i64 0, .string ⟨#[]⟩, .string ⟨#[]⟩] 46)).drew) b0 (.slice A ac.length c) (acc ++ l) ∧ Wt ((w2.alloc (.cells #[.int .i64 0, .string ⟨#[]⟩, .string ⟨#[]⟩] 46)).drew) base s sc o ck m g T e rd cl (en || decide (N ≠ 2)) [] ∧ FrS (TkS s o g av) w ((w2.alloc (.cells #[.int .i64 0, .string ⟨#[]⟩, .string ⟨#[]⟩] 46)).drew) := by
        refine ⟨?_, HF.out.1.below al, HK.fr.trans ((HF.out.2.toS ⟨.inl rfl, .inr (.inl rfl), .inr (.inr (.inl rfl))⟩).trans (FrS.of_below al))⟩
        rw [hsp.out, List.append_nil]
        exact hrow2.below al
      have HX := Lib.hid (And.intro hfin (And.intro HK.clr HK.own))
      clear hfin hrow2 al
      go_wp2
      go_region
      go_wp2
      go_ret3
      exact ⟨_, rfl, HX.out.1.1, HX.out.2.1, HX.out.2.2, HX.out.1.2.1, HX.out.1.2.2⟩
    | cons x rest =>
      have hC := next_got wr base s sc o ck m g T e rd cl en x rest HK.wt (by simp at hkr; omega)
      have HC := Lib.hid hC
      have hrow := HK.row
      obtain ⟨A, c, hu⟩ := hrow.shape
      subst hu
      clear hC hDB hrow START hN hdn hal
      go_wp2_with fail
      refine HC.out.mono ?_
      rintro f w2 ⟨rfl, hW2, hF2⟩
      have hrow2 : ERow w2 b0 (.slice A ac.length c) ac := hF2.row HK.row HK.clr
      have al : Below w2.heap.size w2 (w2.alloc (.cells #[.int .i64 x.k, .string x.t, .string x.v] 46)) := (Below.refl _ _).alloc (Nat.le_refl _) _
      have hN3 := Blk.new w2 46 #[.int .i64 x.k, .string x.t, .string x.v]
      have hrow3 := hrow2.below al
      have hW3 := hW2.below al
      have hF3 : FrS (TkS s o g av) w (w2.alloc (.cells #[.int .i64 x.k, .string x.t, .string x.v] 46)) := HK.fr.trans ((hF2.toS ⟨.inl rfl, .inr (.inl rfl), .inr (.inr (.inl rfl))⟩).trans (FrS.of_below al))
      obtain ⟨w3, hw3⟩ : ∃ w3, w2.alloc (.cells #[.int .i64 x.k, .string x.t, .string x.v] 46) = w3 := ⟨_, rfl⟩
      rw [hw3] at hN3 hrow3 hW3 hF3
      have n0 : w3.cell? ⟨w2.heap.size, 0, none⟩ = some (.int .i64 x.k) := hN3.cell 0
      have n1 : w3.cell? ⟨w2.heap.size, 1, none⟩ = some (.string x.t) := hN3.cell 1
      have n2 : w3.cell? ⟨w2.heap.size, 2, none⟩ = some (.string x.v) := hN3.cell 2
      have hnl : w2.heap.size < w3.heap.size := hN3.lt
      have h63 : ac.length + 1 ≤ maxLen := by simp only [maxLen]; omega
      have h40 : (ac.length + 1) * 40 ≤ 140737488355328 := by omega
      have hbs3 : b0 ≤ (w3.alloc (.cells #[.int .i64 x.k, .string x.t, .string x.v] 46)).heap.size := by
        have := hF3.size
        simp
        omega
      have HW := Lib.hid (And.intro hW3 (And.intro hF3 hrow3))
      clear hW2 hF2 HC hrow2 al hN3 hW3 hF3
      simp only [evV]
      go_wp2_with (first
        | (at_builtin; refine wp_appG rfl _ _ 24 rfl b0 46 _ 3 40 Tryz.underlying24 Tryz.infoEv rfl (by decide) (.slice A ac.length c) ac.length (evcs ac) [.int .i64 x.k, .string x.t, .string x.v] rfl (by exact hrow3.alloc _) (by simp [Value.oneCell']) ⟨w3.heap.size, 0, none⟩ 1 1 rfl rfl (by exact cellsOf3 w3 _ _ _ _) h63 h40 hbs3 ?_; intro v4 w4 hown4 hg4 hnb4))
      have HX := Lib.hid (And.intro hown4 (And.intro hg4 hnb4))
      clear hown4 hg4 hnb4 hrow3 n0 n1 n2
      go_wp2
      go_roundw
      case rel =>
        obtain ⟨hown4, hg4, hnb4⟩ := HX.out
        obtain ⟨hW3, hF3, hrow3⟩ := HW.out
        have hsz3 := hF3.size
        have al4 : Below w3.heap.size w3 (w3.alloc (.cells #[.int .i64 x.k, .string x.t, .string x.v] 46)) := (Below.refl _ _).alloc (Nat.le_refl _) _
        have hz4 := al4.size
        have hnb : v4.ownBlock = (Value.slice A ac.length c).ownBlock ∨ ∃ k, v4.ownBlock = some k ∧ w3.heap.size ≤ k := by
          rcases hnb4 with h | ⟨k, h1, h2⟩
          · exact .inl h
          · exact .inr ⟨k, h1, by omega⟩
        have hclr : Clear v4 s o g := by
          rcases hnb with h | ⟨k, h1, h2⟩
          · intro k hk; exact HK.clr k (h ▸ hk)
          · intro k' hk'
            rw [h1] at hk'
            injection hk' with hk'
            omega
        have hkeep : ∀ k q, k = s ∨ k = o ∨ k = g → w3.heap[k]? = some q → w4.heap[k]? = some q := by
          intro k q hk hq
          have hkl := (Array.getElem?_eq_some_iff.1 hq).1
          refine (hg4.block k (by omega) ?_).trans ((al4.block k hkl).trans hq)
          intro hc
          have := HK.clr k hc.symm
          omega
        have hown : v4.ownBlock = av.ownBlock ∨ ∃ k, v4.ownBlock = some k ∧ w.heap.size ≤ k := by
          rcases hnb with h | ⟨k, h1, h2⟩
          · rcases HK.own with h' | ⟨k, h1, h2⟩
            · exact .inl (h.trans h')
            · exact .inr ⟨k, h.trans h1, h2⟩
          · exact .inr ⟨k, h1, by omega⟩
        refine ⟨k + 1, ac ++ [x], rest, Lib.hid (by rw [hsp.out]; simp), by simp at hkr; omega, by go_num, ⟨?_, hclr, hown, hW3.up hkeep, ?_⟩⟩
        · unfold ERow
          rw [evcs_snoc, List.length_append]
          exact hown4
        · have hGr : FrS (fun k => (Value.slice A ac.length c).ownBlock = some k) w3 w4 := (FrS.of_below al4).trans (FrS.grown hg4 fun k hk _ => hk)
          refine ⟨hGr.os.trans hF3.os, hGr.tape.trans hF3.tape, hGr.output.trans hF3.output, Nat.le_trans hF3.size hGr.size, fun k hk hn => ?_⟩
          refine (hGr.keep k (by omega) fun hc => ?_).trans (hF3.keep k hk hn)
          rcases HK.own with h' | ⟨k', h1, h2⟩
          · exact hn (.inr (.inr (.inr (h' ▸ hc))))
          · rw [hc] at h1
            injection h1 with h1
            omega
      case measure => first | (simp [intOf]; done) | (simp [intOf]; omega)
end Go.Proofs.YtfciacigamjfkabGreat
namespace Go.Proofs.YtfciacigamjfkabGreat
set_option maxRecDepth 100000
set_option linter.unusedSimpArgs false
set_option linter.unusedVariables false
set_option linter.unusedSectionVars false
variable [Tab] [Fo]

theorem tellL_pre (st : List Pt) (l : List Ev) (x : Ev) : l <+: tellL st l x := by
  unfold tellL
  split
  · exact List.prefix_append _ _
  · exact List.prefix_refl _
theorem tellCell_pre (s : Ds) (t : List UInt8) : s.l <+: (tellCellD s t).b.l := by
  have hr : s.l <+: (rowD s).b.l := by
    unfold rowD
    split
    · exact tellL_pre _ _ _
    · exact List.prefix_refl _
  unfold tellCellD
  split
  · exact hr
  · have hk : s.l <+: (keyD (rowD s).b).b.l := hr.trans (tellL_pre _ _ _)
    split
    · exact hk
    · exact hk.trans (tellL_pre _ _ _)
theorem endCell_pre (s : Ds) (last : Bool) : s.l <+: (endCellD s last).b.l := by
  unfold endCellD
  split
  · unfold addColD
    split <;> exact List.prefix_refl _
  · have h := tellCell_pre (emptyD s) s.m.c
    split
    · exact h
    · unfold countD
      split
      · exact h
      · split
        · exact h
        · exact h.trans (tellL_pre _ _ _)
theorem out_pre (s : Ds) (b : UInt8) : s.l <+: (outD s b).b.l := by
  unfold outD
  split
  · exact endCell_pre (setA s 2) false
  · split
    · exact endCell_pre (setA s 1) true
    · split
      · exact List.prefix_refl _
      · unfold addD; split <;> exact List.prefix_refl _
theorem cell_pre (s : Ds) (b : UInt8) : s.l <+: (cellD s b).b.l := by
  unfold cellD
  split
  · exact List.prefix_refl _
  · exact out_pre (setA s 3) b
theorem step_pre (s : Ds) (b : UInt8) : s.l <+: (stepD s b).b.l := by
  unfold stepD
  split
  · have h : s.l <+: (listD s).b.l := tellL_pre _ _ _
    split
    · exact h
    · exact h.trans (cell_pre _ b)
  · split
    · exact cell_pre s b
    · split
      · split
        · exact List.prefix_refl _
        · unfold addD; split <;> exact List.prefix_refl _
      · split
        · unfold addD; split <;> exact List.prefix_refl _
        · exact out_pre s b
theorem fin_pre (s : Ds) : s.l <+: (finD s).b.l := by
  have h : s.l <+: (endD s).b.l := by
    unfold endD
    split
    · exact tellL_pre _ _ _
    · split
      · exact List.prefix_refl _
      · split
        · exact List.prefix_refl _
        · exact endCell_pre s true
  unfold finD
  split
  · exact h
  · exact h.trans (tellL_pre _ _ _)
theorem feed1_pre (x : Ss dlP) (c : UInt8) : x.b.l <+: (feed1 x c).b.l := by
  unfold feed1
  split
  · exact List.prefix_refl _
  · split
    · exact step_pre x.b c
    · exact List.prefix_refl _
theorem feedG_pre : ∀ (l : List UInt8) (x : Ss dlP), x.b.l <+: (feedG x l).b.l
  | [], x => List.prefix_refl _
  | c :: l, x => (feed1_pre x c).trans (feedG_pre l (feed1 x c))
theorem close_pre (x : Ss dlP) : x.b.l <+: (closeBs x).l := by
  unfold closeBs endBs
  split
  · exact List.prefix_refl _
  · split
    · exact fin_pre x.b
    · exact List.prefix_refl _
theorem feedG_append (x : Ss dlP) (a b : List UInt8) : feedG x (a ++ b) = feedG (feedG x a) b := by unfold feedG; rw [List.foldl_append]
/-- How many bytes were read: all, or those ahead of the one with the error. -/
def RdI (x : Ss dlP) (k : Nat) : Prop := (x.e = 0 → x.rd = k) ∧ (x.e ≠ 0 → x.rd < k)
theorem rd_feed1 {x : Ss dlP} {k : Nat} (h : RdI x k) (c : UInt8) : RdI (feed1 x c) (k + 1) := by
  unfold feed1
  split
  · rename_i he; exact ⟨fun h0 => absurd h0 he, fun _ => by have := h.2 he; omega⟩
  · rename_i he
    have he' : x.e = 0 := Decidable.of_not_not he
    have hr := h.1 he'
    split
    · refine ⟨fun h0 => ?_, fun h0 => ?_⟩
      · simp only at h0 ⊢; rw [if_pos h0, hr]
      · simp only at h0 ⊢; rw [if_neg h0, hr]; omega
    · exact ⟨fun h0 => absurd (show (3 : Int) = 0 from h0) (by decide), fun _ => by simp only; omega⟩
theorem rd_feedG : ∀ (l : List UInt8) (x : Ss dlP) (k : Nat), RdI x k → RdI (feedG x l) (k + l.length)
  | [], _, _, h => h
  | c :: l, x, k, h => by
    have := rd_feedG l (feed1 x c) (k + 1) (rd_feed1 h c)
    rw [feedG_cons, List.length_cons]
    rwa [show k + (l.length + 1) = k + 1 + l.length from by omega]
theorem rd0 : RdI (ss0 dlP) 0 := ⟨fun _ => rfl, fun h => absurd rfl h⟩
/-- A text's beginning. -/
def dBeg (ts : List UInt8) (k : Nat) : Ss dlP := feedG (ss0 dlP) (ts.take k)
theorem early_facts (ts : List UInt8) (k : Nat) (hk : k ≤ ts.length) :
    (dBeg ts k).b.l <+: dEv ts ∧ (dBeg ts k).b.l.length ≤ 4 * k ∧ ((dBeg ts k).e ≠ 0 → dEr ts = (dBeg ts k).e ∧ dRd ts = (dBeg ts k).rd ∧ (dBeg ts k).rd < k) ∧ (dBeg ts k).rd ≤ k := by
  have hsp : feedG (ss0 dlP) ts = feedG (dBeg ts k) (ts.drop k) := by
    unfold dBeg
    rw [← feedG_append, List.take_append_drop]
  have hl : (ts.take k).length = k := by rw [List.length_take]; omega
  have hs := sinv_feedG (ts.take k) (ss0 dlP) 0 sinv0
  have hr := rd_feedG (ts.take k) (ss0 dlP) 0 rd0
  rw [Nat.zero_add, hl] at hs hr
  refine ⟨?_, ?_, fun he => ?_, hs.rd⟩
  · unfold dEv
    rw [hsp]
    exact (feedG_pre _ _).trans (close_pre _)
  · have := hs.ln
    show (dlP.l (dBeg ts k).b).length ≤ _
    unfold dBeg
    omega
  · have hst : feedG (dBeg ts k) (ts.drop k) = dBeg ts k := feedG_stop he _
    refine ⟨?_, ?_, hr.2 he⟩
    · unfold dEr
      rw [hsp, hst]
      unfold closeE
      rw [if_pos he]
    · unfold dRd
      rw [hsp, hst]
end Go.Proofs.YtfciacigamjfkabGreat

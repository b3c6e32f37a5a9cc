/-
  The laws of delim: takes.
  angle: what is told of the beginning of a text is told of the whole. No program is read here.
  angle: foreign blocks, others than before: what a decoder holds stays clear of blocks that are new, and lies as it lay where foreign blocks alone have turned.
-/
import Derived.Test.YtjepnddndpmnnaaGreatGsB37
import Derived.Test.YtjepnddndpmnnaaGreatGsB38
import Derived.Test.YtjepnddndpmnnaaGreatGsB35
import Derived.Test.YtjepnddndpmnnaaGreatGsB36
namespace Go.Proofs.YtjepnddndpmnnaaGreat
open Go.RowKit Go.Maps
set_option maxRecDepth 100000
set_option linter.unusedSimpArgs false
set_option linter.unusedVariables false
set_option linter.unusedSectionVars false
variable [Tab] [Fo]

/-- Nothing has turned but some blocks. -/
structure FrS (S : Nat → Prop) (w w' : World) : Prop where
  os : w'.os = w.os
  tape : w'.tape = w.tape
  output : w'.output = w.output
  size : w.heap.size ≤ w'.heap.size
  keep : ∀ k, k < w.heap.size → ¬ S k → w'.heap[k]? = w.heap[k]?
section
variable {S : Nat → Prop} {w w' w'' : World}
theorem FrS.refl (S : Nat → Prop) (w : World) : FrS S w w := ⟨rfl, rfl, rfl, Nat.le_refl _, fun _ _ _ => rfl⟩
theorem FrS.trans (h : FrS S w w') (k : FrS S w' w'') : FrS S w w'' := ⟨k.os.trans h.os, k.tape.trans h.tape, k.output.trans h.output, Nat.le_trans h.size k.size, fun i hi hn => (k.keep i (Nat.lt_of_lt_of_le hi h.size) hn).trans (h.keep i hi hn)⟩
theorem FrS.of_below (h : Below w.heap.size w w') : FrS S w w' := ⟨h.os, h.tape, h.output, h.size, fun k hk _ => h.block k hk⟩
theorem FrS.below {base : Nat} (h : FrS S w w') (hS : ∀ k, S k → base ≤ k) (hz : base ≤ w.heap.size) : Below base w w' :=
  ⟨h.os, h.tape, h.output, h.size, fun k hk => h.keep k (by omega) (fun hs => by have := hS k hs; omega)⟩
theorem Fr3.toS {a b c : Nat} (h : Fr3 a b c w w') (hS : S a ∧ S b ∧ S c) : FrS S w w' :=
  ⟨h.os, h.tape, h.output, h.size, fun k hk hn => h.keep k hk (fun e => hn (e ▸ hS.1)) (fun e => hn (e ▸ hS.2.1)) (fun e => hn (e ▸ hS.2.2))⟩
theorem FrS.wide {S' : Nat → Prop} (h : FrS S w w') (hs : ∀ k, k < w.heap.size → S k → S' k) : FrS S' w w' := ⟨h.os, h.tape, h.output, h.size, fun k hk hn => h.keep k hk (fun q => hn (hs k hk q))⟩
theorem FrS.grown {v : Value} (h : w.grownBy w' v.ownBlock) (hs : ∀ k, v.ownBlock = some k → k < w.heap.size → S k) : FrS S w w' :=
  ⟨h.os, h.tape, h.output, h.size, fun k hk hn => h.block k hk (fun e => hn (hs k e.symm hk))⟩
theorem FrS.blk {g : Nat} {t : TypeId} {cs : Array Value} (h : FrS S w w') (hB : Blk w g t cs) (hn : ¬ S g) : Blk w' g t cs := (h.keep g hB.lt hn).trans hB
theorem FrS.row {base : Nat} {e : TypeId} {size n : Nat} {v : Value} {xs : List Value} (h : FrS S w w') (hr : w.ownsRow base e size v n xs) (hn : ∀ g, v.ownBlock = some g → ¬ S g) : w'.ownsRow base e size v n xs := by
  refine ⟨hr.1, ?_⟩
  rcases hr.2 with hv | ⟨g, cap, cur, hv, hg, hh, q⟩
  · exact .inl hv
  · exact .inr ⟨g, cap, cur, hv, hg, (h.keep g (Array.getElem?_eq_some_iff.1 hh).1 (hn g (by rw [hv]; rfl))).trans hh, q⟩
end
/-- A row's block stays clear of a Stream's. -/
def Clear (v : Value) (s o g : Nat) : Prop := ∀ k, v.ownBlock = some k → k ≠ s ∧ k ≠ o ∧ k ≠ g
/-- What asking for all turns. -/
def TkS (s o g : Nat) (v : Value) (k : Nat) : Prop := k = s ∨ k = o ∨ k = g ∨ v.ownBlock = some k
theorem nxs_ne (e : Int) (cl : Bool) : NxS e cl ≠ 1 := by
  unfold NxS
  split
  · decide
  · split <;> decide

theorem Wt.up {w w' : World} {base s sc o ck m g : Nat} {T : TypeId} {e : Int} {rd : Nat} {cl en : Bool} {l : List Ev} (h : Wt w base s sc o ck m g T e rd cl en l) (hk : ∀ k q, k = s ∨ k = o ∨ k = g → w.heap[k]? = some q → w'.heap[k]? = some q) : Wt w' base s sc o ck m g T e rd cl en l := by
  obtain ⟨lv, hB, hR⟩ := h.out
  exact ⟨hk s _ (.inl rfl) h.blk, ⟨lv, hk o _ (.inr (.inl rfl)) hB, hR.frame fun q hq => hk g q (.inr (.inr rfl)) hq⟩, h.bs, h.bo, h.bg⟩
theorem Wt.below {w w' : World} {base s sc o ck m g : Nat} {T : TypeId} {e : Int} {rd : Nat} {cl en : Bool} {l : List Ev} (h : Wt w base s sc o ck m g T e rd cl en l) (hb : Below w.heap.size w w') : Wt w' base s sc o ck m g T e rd cl en l :=
  h.up fun k q _ hq => (hb.block k (Array.getElem?_eq_some_iff.1 hq).1).trans hq
structure TkH (w wr : World) (base b0 s sc o ck m g : Nat) (T : TypeId) (e : Int) (rd : Nat) (cl en : Bool) (av u : Value) (ac rest : List Ev) : Prop where
  row : ERow wr b0 u ac
  clr : Clear u s o g
  own : u.ownBlock = av.ownBlock ∨ ∃ k, u.ownBlock = some k ∧ w.heap.size ≤ k
  wt : Wt wr base s sc o ck m g T e rd cl en rest
  fr : FrS (TkS s o g av) w wr

set_option maxHeartbeats 8000000 in
theorem takes_any (w : World) (base b0 s sc o ck m g d : Nat) (T : TypeId) (e : Int) (rd : Nat) (cl en : Bool) (l : List Ev) (av : Value) (acc : List Ev) (h : Wt w base s sc o ck m g T e rd cl en l) (hd : Blk w d 37 #[.pointer (some ⟨s, 0, none⟩)])
    (ha : ERow w b0 av acc) (hc : Clear av s o g) (hb0 : b0 ≤ w.heap.size) (hl : l.length < 5000) (hal : acc.length ≤ 100000) (hsg : s < w.heap.size ∧ o < w.heap.size ∧ g < w.heap.size) (hdn : ¬ TkS s o g av d) :
    Calls Tryz.prog 15 #[.pointer (some ⟨d, 0, none⟩), av] w fun f w' => ∃ av', f = .returned (.tuple #[av', .int .i64 (NxS e cl), .bool true]) ∧ ERow w' b0 av' (acc ++ l) ∧ Clear av' s o g ∧ (av'.ownBlock = av.ownBlock ∨ ∃ k, av'.ownBlock = some k ∧ w.heap.size ≤ k) ∧
      Wt w' base s sc o ck m g T e rd cl (en || decide (NxS e cl ≠ 2)) [] ∧ FrS (TkS s o g av) w w' := by
  obtain ⟨N, hN⟩ : ∃ N, NxS e cl = N := ⟨_, rfl⟩
  have hn1 : N ≠ 1 := hN ▸ nxs_ne e cl
  have zN : (N == 1) = false := by rw [beq_eq_false_iff_ne]; exact hn1
  have zN2 : (N != 1) = true := by simp [bne, zN]
  have HP := Lib.hid (And.intro hsg (And.intro hdn (And.intro hb0 (And.intro hal hN))))
  have HD := Lib.hid hd
  have HLN := Lib.hid hl
  have start : ∃ (k : Nat) (ac rest : List Ev), Hid (acc ++ l = ac ++ rest) ∧ k + rest.length = l.length ∧ (.int .i64 0 : Value) = .int .i64 k ∧ TkH w w base b0 s sc o ck m g T e rd cl en av av ac rest :=
    ⟨0, acc, l, Lib.hid rfl, by omega, rfl, ⟨ha, hc, .inl rfl, h, FrS.refl _ _⟩⟩
  have START := Lib.hid start
  rw [hN]
  clear hN hdn hsg hb0 ha hc hd h hal start
  go_enter Tryz.func15, Tryz.ntmps15
  go_wp2
  go_loopw [1, 7] (fun u i wr => ∃ (k : Nat) (ac rest : List Ev), Hid (acc ++ l = ac ++ rest) ∧ k + rest.length = l.length ∧ i = .int .i64 k ∧ TkH w wr base b0 s sc o ck m g T e rd cl en av u ac rest) (fun _ i _ => 5000 - (intOf i).toNat)
  case atStart => exact START.out
  case round =>
    obtain ⟨k, ac, rest, hsp, hkr, rfl, HK⟩ := hrel
    have hk5 : k < 5000 := by omega
    have z5 : decide ((k : Int) < 5000) = true := by simp; omega
    obtain ⟨⟨hs1, hs2, hs3⟩, hdn, hb0, hal, hN⟩ := HP.out
    have hDB : Blk wr d 37 #[.pointer (some ⟨s, 0, none⟩)] := HK.fr.blk HD.out hdn
    have d0 : wr.cell? ⟨d, 0, none⟩ = some (.pointer (some ⟨s, 0, none⟩)) := hDB.cell 0
    have hdl := hDB.lt
    have hacl : ac.length ≤ 110000 := by
      have := congrArg List.length hsp.out
      simp only [List.length_append] at this
      have := HLN.out
      omega
    cases rest with
    | nil =>
      have hC := next_none wr base s sc o ck m g T e rd cl en HK.wt
      rw [hN] at hC
      have HC := Lib.hid hC
      have hrow := HK.row
      obtain ⟨A, c, hu⟩ := hrow.shape
      subst hu
      clear hC hDB hrow START hN hdn hal
      go_wp2_with fail
      refine HC.out.mono ?_
      rintro f w2 ⟨rfl, hW2, hF2⟩
      have HF := Lib.hid (And.intro hW2 hF2)
      clear hW2 hF2 HC
      simp only [zeroEv]
      have al : Below w2.heap.size w2 ((w2.alloc (.cells #[.int .i64 0, .string ⟨#[]⟩, .string ⟨#[]⟩] 46)).drew) := below_drew ((Below.refl _ _).alloc (Nat.le_refl _) _)
      have hrow2 : ERow w2 b0 (.slice A ac.length c) ac := HF.out.2.row HK.row HK.clr
      have hfin : ERow ((w2.alloc (.cells #[.int .i64 0, .string ⟨#[]⟩, .string ⟨#[]⟩] 46)).drew) b0 (.slice A ac.length c) (acc ++ l) ∧ Wt ((w2.alloc (.cells #[.int .i64 0, .string ⟨#[]⟩, .string ⟨#[]⟩] 46)).drew) base s sc o ck m g T e rd cl (en || decide (N ≠ 2)) [] ∧ FrS (TkS s o g av) w ((w2.alloc (.cells #[.int .i64 0, .string ⟨#[]⟩, .string ⟨#[]⟩] 46)).drew) := by
        refine ⟨?_, HF.out.1.below al, HK.fr.trans ((HF.out.2.toS ⟨.inl rfl, .inr (.inl rfl), .inr (.inr (.inl rfl))⟩).trans (FrS.of_below al))⟩
        rw [hsp.out, List.append_nil]
        exact hrow2.below al
      have HX := Lib.hid (And.intro hfin (And.intro HK.clr HK.own))
      clear hfin hrow2 al
      go_wp2
      go_region
      go_wp2
      go_ret3
      exact ⟨_, rfl, HX.out.1.1, HX.out.2.1, HX.out.2.2, HX.out.1.2.1, HX.out.1.2.2⟩
    | cons x rest =>
      have hC := next_got wr base s sc o ck m g T e rd cl en x rest HK.wt (by simp at hkr; omega)
      have HC := Lib.hid hC
      have hrow := HK.row
      obtain ⟨A, c, hu⟩ := hrow.shape
      subst hu
      clear hC hDB hrow START hN hdn hal
      go_wp2_with fail
      refine HC.out.mono ?_
      rintro f w2 ⟨rfl, hW2, hF2⟩
      have hrow2 : ERow w2 b0 (.slice A ac.length c) ac := hF2.row HK.row HK.clr
      have al : Below w2.heap.size w2 (w2.alloc (.cells #[.int .i64 x.k, .string x.t, .string x.v] 46)) := (Below.refl _ _).alloc (Nat.le_refl _) _
      have hN3 := Blk.new w2 46 #[.int .i64 x.k, .string x.t, .string x.v]
      have hrow3 := hrow2.below al
      have hW3 := hW2.below al
      have hF3 : FrS (TkS s o g av) w (w2.alloc (.cells #[.int .i64 x.k, .string x.t, .string x.v] 46)) := HK.fr.trans ((hF2.toS ⟨.inl rfl, .inr (.inl rfl), .inr (.inr (.inl rfl))⟩).trans (FrS.of_below al))
      obtain ⟨w3, hw3⟩ : ∃ w3, w2.alloc (.cells #[.int .i64 x.k, .string x.t, .string x.v] 46) = w3 := ⟨_, rfl⟩
      rw [hw3] at hN3 hrow3 hW3 hF3
      have n0 : w3.cell? ⟨w2.heap.size, 0, none⟩ = some (.int .i64 x.k) := hN3.cell 0
      have n1 : w3.cell? ⟨w2.heap.size, 1, none⟩ = some (.string x.t) := hN3.cell 1
      have n2 : w3.cell? ⟨w2.heap.size, 2, none⟩ = some (.string x.v) := hN3.cell 2
      have hnl : w2.heap.size < w3.heap.size := hN3.lt
      have h63 : ac.length + 1 ≤ maxLen := by simp only [maxLen]; omega
      have h40 : (ac.length + 1) * 40 ≤ 140737488355328 := by omega
      have hbs3 : b0 ≤ (w3.alloc (.cells #[.int .i64 x.k, .string x.t, .string x.v] 46)).heap.size := by
        have := hF3.size
        simp
        omega
      have HW := Lib.hid (And.intro hW3 (And.intro hF3 hrow3))
      clear hW2 hF2 HC hrow2 al hN3 hW3 hF3
      simp only [evV]
      go_wp2_with (first
        | (at_builtin; refine wp_appG rfl _ _ 24 rfl b0 46 _ 3 40 Tryz.underlying24 Tryz.infoEv rfl (by decide) (.slice A ac.length c) ac.length (evcs ac) [.int .i64 x.k, .string x.t, .string x.v] rfl (by exact hrow3.alloc _) (by simp [Value.oneCell']) ⟨w3.heap.size, 0, none⟩ 1 1 rfl rfl (by exact cellsOf3 w3 _ _ _ _) h63 h40 hbs3 ?_; intro v4 w4 hown4 hg4 hnb4))
      have HX := Lib.hid (And.intro hown4 (And.intro hg4 hnb4))
      clear hown4 hg4 hnb4 hrow3 n0 n1 n2
      go_wp2
      go_roundw
      case rel =>
        obtain ⟨hown4, hg4, hnb4⟩ := HX.out
        obtain ⟨hW3, hF3, hrow3⟩ := HW.out
        have hsz3 := hF3.size
        have al4 : Below w3.heap.size w3 (w3.alloc (.cells #[.int .i64 x.k, .string x.t, .string x.v] 46)) := (Below.refl _ _).alloc (Nat.le_refl _) _
        have hz4 := al4.size
        have hnb : v4.ownBlock = (Value.slice A ac.length c).ownBlock ∨ ∃ k, v4.ownBlock = some k ∧ w3.heap.size ≤ k := by
          rcases hnb4 with h | ⟨k, h1, h2⟩
          · exact .inl h
          · exact .inr ⟨k, h1, by omega⟩
        have hclr : Clear v4 s o g := by
          rcases hnb with h | ⟨k, h1, h2⟩
          · intro k hk; exact HK.clr k (h ▸ hk)
          · intro k' hk'
            rw [h1] at hk'
            injection hk' with hk'
            omega
        have hkeep : ∀ k q, k = s ∨ k = o ∨ k = g → w3.heap[k]? = some q → w4.heap[k]? = some q := by
          intro k q hk hq
          have hkl := (Array.getElem?_eq_some_iff.1 hq).1
          refine (hg4.block k (by omega) ?_).trans ((al4.block k hkl).trans hq)
          intro hc
          have := HK.clr k hc.symm
          omega
        have hown : v4.ownBlock = av.ownBlock ∨ ∃ k, v4.ownBlock = some k ∧ w.heap.size ≤ k := by
          rcases hnb with h | ⟨k, h1, h2⟩
          · rcases HK.own with h' | ⟨k, h1, h2⟩
            · exact .inl (h.trans h')
            · exact .inr ⟨k, h.trans h1, h2⟩
          · exact .inr ⟨k, h1, by omega⟩
        refine ⟨k + 1, ac ++ [x], rest, Lib.hid (by rw [hsp.out]; simp), by simp at hkr; omega, by go_num, ⟨?_, hclr, hown, hW3.up hkeep, ?_⟩⟩
        · unfold ERow
          rw [evcs_snoc, List.length_append]
          exact hown4
        · have hGr : FrS (fun k => (Value.slice A ac.length c).ownBlock = some k) w3 w4 := (FrS.of_below al4).trans (FrS.grown hg4 fun k hk _ => hk)
          refine ⟨hGr.os.trans hF3.os, hGr.tape.trans hF3.tape, hGr.output.trans hF3.output, Nat.le_trans hF3.size hGr.size, fun k hk hn => ?_⟩
          refine (hGr.keep k (by omega) fun hc => ?_).trans (hF3.keep k hk hn)
          rcases HK.own with h' | ⟨k', h1, h2⟩
          · exact hn (.inr (.inr (.inr (h' ▸ hc))))
          · rw [hc] at h1
            injection h1 with h1
            omega
      case measure => first | (simp [intOf]; done) | (simp [intOf]; omega)
end Go.Proofs.YtjepnddndpmnnaaGreat
namespace Go.Proofs.YtjepnddndpmnnaaGreat
set_option maxRecDepth 100000
set_option linter.unusedSimpArgs false
set_option linter.unusedVariables false
set_option linter.unusedSectionVars false
variable [Tab] [Fo]

theorem tellL_pre (st : List Pt) (l : List Ev) (x : Ev) : l <+: tellL st l x := by
  unfold tellL
  split
  · exact List.prefix_append _ _
  · exact List.prefix_refl _
theorem tellA_pre (s : As) (x : Ev) : s.l <+: (tellA s x).b.l := tellL_pre _ _ _
theorem tellN_pre (s : As) (el : Bool) (n : Na) (v : List UInt8) : s.l <+: (tellN s el n v).b.l := by
  unfold tellN
  cases fullA s.m.sc el n with
  | none => exact List.prefix_refl _
  | some f => exact tellA_pre _ _
theorem tellAts_pre : ∀ (l : List (Na × List UInt8)) (s : As), s.l <+: (tellAts l s).b.l
  | [], s => List.prefix_refl _
  | a :: r, s => by
    rw [tellAts]
    by_cases h1 : (bindsA a.1).isSome = true
    · rw [if_pos h1]; exact tellAts_pre r s
    · rw [if_neg h1]
      by_cases h2 : (tellN s false a.1 a.2).e ≠ 0
      · rw [if_pos h2]; exact tellN_pre _ _ _ _
      · rw [if_neg h2]; exact (tellN_pre _ _ _ _).trans (tellAts_pre r _)
theorem open_pre (s : As) : s.l <+: (openA s).b.l := by
  have ht : ∀ X : As, X.l <+: (tellElemA X).b.l := fun X => by
    unfold tellElemA
    by_cases h1 : (tellN X true X.m.el []).e ≠ 0
    · rw [if_pos h1]; exact tellN_pre _ _ _ _
    · rw [if_neg h1]
      by_cases h2 : (tellAts X.m.ats (tellN X true X.m.el []).b).e ≠ 0
      · rw [if_pos h2]; exact (tellN_pre _ _ _ _).trans (tellAts_pre _ _)
      · rw [if_neg h2]; exact (tellN_pre _ _ _ _).trans (tellAts_pre _ _)
  unfold openA
  by_cases h1 : (bindAllA s.m.ats ([] :: s.m.sc)).e ≠ 0
  · rw [if_pos h1]; exact List.prefix_refl _
  · rw [if_neg h1]; exact ht { s with m := { opened s.m with sc := (bindAllA s.m.ats ([] :: s.m.sc)).st } }
theorem endattrs_pre (s : As) (b : UInt8) : s.l <+: (endAttrsA s b).b.l := by
  unfold endAttrsA
  by_cases h1 : b.toNat = 47
  · rw [if_pos h1]; exact open_pre (setAt s 14)
  · rw [if_neg h1]
    by_cases h2 : b.toNat = 62
    · rw [if_pos h2]; exact open_pre (setAt s 15)
    · rw [if_neg h2]; exact List.prefix_refl _
theorem behind_pre (s : As) (b : UInt8) : s.l <+: (behindAttrA s b).b.l := by
  unfold behindAttrA
  by_cases h1 : blankB b = true
  · rw [if_pos h1]; exact List.prefix_refl _
  · rw [if_neg h1]; exact endattrs_pre s b
theorem inelem_pre (s : As) (b : UInt8) : s.l <+: (inElem s b).b.l := by
  unfold inElem
  by_cases h1 : goesA s.m b = true
  · rw [if_pos h1]; exact List.prefix_refl _
  · rw [if_neg h1]
    by_cases h2 : s.m.nt = []
    · rw [if_pos h2]; exact List.prefix_refl _
    · rw [if_neg h2]; exact behind_pre { s with m := { nameGone s.m with el := nameOf s.m, a := 8 } } b
theorem inattr_pre (s : As) (b : UInt8) : s.l <+: (inAttr s b).b.l := by
  unfold inAttr
  by_cases h1 : goesA s.m b = true
  · rw [if_pos h1]; exact List.prefix_refl _
  · rw [if_neg h1]
    by_cases h2 : s.m.nt = []
    · rw [if_pos h2]; exact List.prefix_refl _
    · rw [if_neg h2]; exact List.prefix_refl _
theorem endtag_pre (s : As) (b : UInt8) : s.l <+: (endTagA s b).b.l := by
  unfold endTagA
  by_cases h1 : b.toNat ≠ 62
  · rw [if_pos h1]; exact List.prefix_refl _
  · rw [if_neg h1]
    by_cases h2 : s.m.en ≠ s.m.op.getLastD ⟨[], []⟩
    · rw [if_pos h2]; exact List.prefix_refl _
    · rw [if_neg h2]; exact tellA_pre { s with m := closedA s.m } _
theorem inend_pre (s : As) (b : UInt8) : s.l <+: (inEnd s b).b.l := by
  unfold inEnd
  by_cases h1 : goesA s.m b = true
  · rw [if_pos h1]; exact List.prefix_refl _
  · rw [if_neg h1]
    by_cases h2 : s.m.nt = []
    · rw [if_pos h2]; exact List.prefix_refl _
    · rw [if_neg h2]
      unfold atEnd
      by_cases h3 : blankB b = true
      · rw [if_pos h3]; exact List.prefix_refl _
      · rw [if_neg h3]; exact endtag_pre { s with m := { nameGone s.m with en := nameOf s.m, a := 17 } } b
theorem step_pre (s : As) (b : UInt8) : s.l <+: (stepA s b).b.l := by
  unfold stepA
  by_cases hs : blankB b = true ∧ skipsA s.m.a = true
  · rw [if_pos hs]; exact List.prefix_refl _
  rw [if_neg hs]
  by_cases h0 : s.m.a = 0
  · rw [if_pos h0]
    exact List.prefix_refl _
  rw [if_neg h0]
  by_cases h1 : s.m.a = 1
  · rw [if_pos h1]
    unfold beginA
    by_cases q1 : s.m.op = [] ∧ b.toNat = 33
    · rw [if_pos q1]; exact List.prefix_refl _
    · rw [if_neg q1]
      by_cases q2 : s.m.op ≠ [] ∧ b.toNat = 47
      · rw [if_pos q2]; exact List.prefix_refl _
      · rw [if_neg q2]; exact inelem_pre (setAt s 7) b
  rw [if_neg h1]
  by_cases h2 : s.m.a = 2
  · rw [if_pos h2]
    exact List.prefix_refl _
  rw [if_neg h2]
  by_cases h3 : s.m.a = 3
  · rw [if_pos h3]
    exact List.prefix_refl _
  rw [if_neg h3]
  by_cases h4 : s.m.a = 4
  · rw [if_pos h4]
    exact List.prefix_refl _
  rw [if_neg h4]
  by_cases h5 : s.m.a = 5
  · rw [if_pos h5]
    exact List.prefix_refl _
  rw [if_neg h5]
  by_cases h6 : s.m.a = 6
  · rw [if_pos h6]
    exact List.prefix_refl _
  rw [if_neg h6]
  by_cases h7 : s.m.a = 7
  · rw [if_pos h7]
    exact inelem_pre s b
  rw [if_neg h7]
  by_cases h8 : s.m.a = 8
  · rw [if_pos h8]
    exact behind_pre s b
  rw [if_neg h8]
  by_cases h9 : s.m.a = 9
  · rw [if_pos h9]
    unfold beginAttrA
    by_cases q1 : b.toNat = 47 ∨ b.toNat = 62
    · rw [if_pos q1]; exact endattrs_pre s b
    · rw [if_neg q1]; exact inattr_pre (setAt s 10) b
  rw [if_neg h9]
  by_cases h10 : s.m.a = 10
  · rw [if_pos h10]
    exact inattr_pre s b
  rw [if_neg h10]
  by_cases h11 : s.m.a = 11
  · rw [if_pos h11]
    exact List.prefix_refl _
  rw [if_neg h11]
  by_cases h12 : s.m.a = 12
  · rw [if_pos h12]
    exact List.prefix_refl _
  rw [if_neg h12]
  by_cases h13 : s.m.a = 13
  · rw [if_pos h13]
    exact List.prefix_refl _
  rw [if_neg h13]
  by_cases h14 : s.m.a = 14
  · rw [if_pos h14]
    unfold endEmptyA
    by_cases q1 : b.toNat ≠ 62
    · rw [if_pos q1]; exact List.prefix_refl _
    · rw [if_neg q1]; exact tellA_pre { s with m := closedA s.m } _
  rw [if_neg h14]
  by_cases h15 : s.m.a = 15
  · rw [if_pos h15]
    unfold contentA
    by_cases q1 : endedA s.m b 60 = false
    · rw [if_pos q1]; exact List.prefix_refl _
    · rw [if_neg q1]
      by_cases q2 : s.m.rt = []
      · rw [if_pos q2]; exact List.prefix_refl _
      · rw [if_neg q2]; exact tellA_pre { s with m := { s.m with a := 1, rt := [] } } _
  rw [if_neg h15]
  by_cases h16 : s.m.a = 16
  · rw [if_pos h16]
    exact inend_pre s b
  rw [if_neg h16]
  by_cases h17 : s.m.a = 17
  · rw [if_pos h17]
    exact endtag_pre s b
  rw [if_neg h17]
  exact List.prefix_refl _
theorem feed1_pre (x : Ss agP) (c : UInt8) : x.b.l <+: (feed1 x c).b.l := by
  unfold feed1
  split
  · exact List.prefix_refl _
  · split
    · exact step_pre x.b c
    · exact List.prefix_refl _
theorem feedG_pre : ∀ (l : List UInt8) (x : Ss agP), x.b.l <+: (feedG x l).b.l
  | [], x => List.prefix_refl _
  | c :: l, x => (feed1_pre x c).trans (feedG_pre l (feed1 x c))
theorem close_pre (x : Ss agP) : x.b.l <+: (closeBs x).l := by
  unfold closeBs endBs
  split
  · exact List.prefix_refl _
  · split
    · exact List.prefix_refl _
    · exact List.prefix_refl _
theorem feedG_append (x : Ss agP) (a b : List UInt8) : feedG x (a ++ b) = feedG (feedG x a) b := by unfold feedG; rw [List.foldl_append]
/-- How many bytes were read: all, or those ahead of the one with the error. -/
def RdI (x : Ss agP) (k : Nat) : Prop := (x.e = 0 → x.rd = k) ∧ (x.e ≠ 0 → x.rd < k)
theorem rd_feed1 {x : Ss agP} {k : Nat} (h : RdI x k) (c : UInt8) : RdI (feed1 x c) (k + 1) := by
  unfold feed1
  split
  · rename_i he; exact ⟨fun h0 => absurd h0 he, fun _ => by have := h.2 he; omega⟩
  · rename_i he
    have he' : x.e = 0 := Decidable.of_not_not he
    have hr := h.1 he'
    split
    · refine ⟨fun h0 => ?_, fun h0 => ?_⟩
      · simp only at h0 ⊢; rw [if_pos h0, hr]
      · simp only at h0 ⊢; rw [if_neg h0, hr]; omega
    · exact ⟨fun h0 => absurd (show (3 : Int) = 0 from h0) (by decide), fun _ => by simp only; omega⟩
theorem rd_feedG : ∀ (l : List UInt8) (x : Ss agP) (k : Nat), RdI x k → RdI (feedG x l) (k + l.length)
  | [], _, _, h => h
  | c :: l, x, k, h => by
    have := rd_feedG l (feed1 x c) (k + 1) (rd_feed1 h c)
    rw [feedG_cons, List.length_cons]
    rwa [show k + (l.length + 1) = k + 1 + l.length from by omega]
theorem rd0 : RdI (ss0 agP) 0 := ⟨fun _ => rfl, fun h => absurd rfl h⟩
/-- A text's beginning. -/
def aBeg (ts : List UInt8) (k : Nat) : Ss agP := feedG (ss0 agP) (ts.take k)
theorem early_facts (ts : List UInt8) (k : Nat) (hk : k ≤ ts.length) :
    (aBeg ts k).b.l <+: aEv ts ∧ (aBeg ts k).b.l.length ≤ 4 * k ∧ ((aBeg ts k).e ≠ 0 → aEr ts = (aBeg ts k).e ∧ aRd ts = (aBeg ts k).rd ∧ (aBeg ts k).rd < k) ∧ (aBeg ts k).rd ≤ k := by
  have hsp : feedG (ss0 agP) ts = feedG (aBeg ts k) (ts.drop k) := by
    unfold aBeg
    rw [← feedG_append, List.take_append_drop]
  have hl : (ts.take k).length = k := by rw [List.length_take]; omega
  have hs := sinv_feedG (ts.take k) (ss0 agP) 0 sinv0
  have hr := rd_feedG (ts.take k) (ss0 agP) 0 rd0
  rw [Nat.zero_add, hl] at hs hr
  refine ⟨?_, ?_, fun he => ?_, hs.rd⟩
  · unfold aEv
    rw [hsp]
    exact (feedG_pre _ _).trans (close_pre _)
  · have := hs.ln
    show (agP.l (aBeg ts k).b).length ≤ _
    unfold aBeg
    omega
  · have hst : feedG (aBeg ts k) (ts.drop k) = aBeg ts k := feedG_stop he _
    refine ⟨?_, ?_, hr.2 he⟩
    · unfold aEr
      rw [hsp, hst]
      unfold closeE
      rw [if_pos he]
    · unfold aRd
      rw [hsp, hst]
end Go.Proofs.YtjepnddndpmnnaaGreat
namespace Go.Proofs.YtjepnddndpmnnaaGreat
open Go.RowKit Go.Maps
set_option maxRecDepth 100000
set_option linter.unusedSimpArgs false
set_option linter.unusedVariables false
set_option linter.unusedSectionVars false
variable [Tab]

section
variable {w w' : World} {f1 f2 : Fo}
theorem ag_mv (hF : FoS f1 f2 w) (hm : Mv f1 agO w w') (hl : f2.lim ≤ w'.heap.size) {base m e g : Nat} {M : Ag} {av ov : Value} (h : @AgAt f1 w base m M e g av ov) : @AgAt f2 w' base m M e g av ov := by
  obtain ⟨h1, h2, h3, h4, h5, h6, h7, h8⟩ := h
  exact @AgAt.mk f2 w' base m M e g av ov (hm m _ h1 (.inl rfl) h7) (row_mv hm h2 h4 (fun _ => .inr (.inl rfl))) (row_mv hm h3 h5 (fun _ => .inr (.inr rfl)))
    (fun k hk hc => h4 k hk (hF k (row_ltF h2 hk) hc)) (fun k hk hc => h5 k hk (hF k (row_ltF h3 hk) hc)) h6 (fun hc => h7 (hF m (Blk.lt h1) hc)) hl
theorem xat_mv (hF : FoS f1 f2 w) (hm : Mv f1 xK w w') (hs : w.heap.size ≤ w'.heap.size) {base e mb g : Nat} {S : Nat → Prop} {L : EnL} {told : Nat} {sc : Ns.St} (h : @XAt f1 w base S e mb g L told sc) : @XAt f2 w' base S e mb g L told sc := by
  obtain ⟨h1, h2, h3, h4, h5, h6⟩ := h
  have hk : ∀ k q, S k → w.heap[k]? = some q → w'.heap[k]? = some q := fun k q hS hq => hm k q hq ((h2 k hS).2.2 q hq) (h2 k hS).2.1
  have hsame : ∀ k, S k → w'.heap[k]? = w.heap[k]? := fun k hS => by
    obtain ⟨q, hq⟩ := heap_some (h1 k hS)
    rw [hk k q hS hq, hq]
  exact @XAt.mk f2 w' base S e mb g L told sc (fun k hS => Nat.lt_of_lt_of_le (h1 k hS) hs) (fun k hS => ⟨(h2 k hS).1, fun hc => (h2 k hS).2.1 (hF k (h1 k hS) hc), fun q hq => (h2 k hS).2.2 q (by rw [← hsame k hS]; exact hq)⟩) (h3.keep (hsame e h4) (hsame mb h5)) h4 h5 (h6.keep hs fun k q hS hq => hk k q hS.1 hq)
theorem ax_mv (hF : FoS f1 f2 w) (hk : f2.tk = f1.tk) (hm : Mv f1 axO w w') (hs : w.heap.size ≤ w'.heap.size) (hl : f2.lim ≤ w'.heap.size) {base m o ck e mb g : Nat} {s : As} (h : @AX f1 w base m o ck e mb g s) : @AX f2 w' base m o ck e mb g s := by
  obtain ⟨⟨av, ov, hM⟩, S, hx, hlim, hO⟩ := h
  have hx2 := xat_mv hF (hm.narrow fun _ h => .inl (.inr h)) hs hx
  refine @AX.mk f2 w' base m o ck e mb g s ⟨av, ov, ag_mv hF (hm.narrow fun _ h => .inr h) hl hM⟩ ⟨S, @XO.mk f2 w' base o ck e mb g s.m.L s.m.told s.m.sc s.st s.l S hx2 hl ?_⟩
  exact oat_mv (f1 := f1.pl S w.heap.size hlim (@XAt.lt f1 _ _ _ _ _ _ _ _ _ hx)) (f2 := f2.pl S w'.heap.size hl (@XAt.lt f2 _ _ _ _ _ _ _ _ _ hx2)) (fun k hk hc => hc.imp (hF k hk) id) hk (fun k q hq hp hn => hm k q hq (.inl (.inl hp)) (fun hc => hn (.inl hc))) (Nat.le_refl _) hO
theorem gsta_mv (hF : FoS f1 f2 w) (hk : f2.tk = f1.tk) (hm : Mv f1 (fun o => axO o ∨ ssObj o) w w') (hs : w.heap.size ≤ w'.heap.size) (hl : f2.lim ≤ w'.heap.size) {base B s m sc o ck : Nat} {x : Ss agP} {cl en : Bool} (h : @StA _ f1 (@agM _ f1) w base B s m sc o ck x cl en) : @StA _ f2 (@agM _ f2) w' base B s m sc o ck x cl en := by
  obtain ⟨h1, h2, h3, h4, h5⟩ := h
  obtain ⟨e, mb, g, hX⟩ : ∃ e mb g, @AX f1 w base m o ck e mb g x.b := h3
  have h2' : Blk w sc _ _ := h2
  exact @StA.mk _ f2 (@agM _ f2) w' base B s m sc o ck x cl en (hm s _ h1 (.inr (.inl rfl)) h4.1) (hm sc _ h2' (.inr (.inr rfl)) h4.2) ⟨e, mb, g, ax_mv hF hk (hm.narrow fun _ h => .inl h) hs hl hX⟩ ⟨fun hc => h4.1 (hF s (Blk.lt h1) hc), fun hc => h4.2 (hF sc h2'.lt hc)⟩ ⟨h5.sB, h5.cB, h5.bs, h5.bc, Nat.le_trans h5.hB hs, Nat.le_trans h5.hb hs⟩
theorem gsta_fo (hF : FoS f1 f2 w) (hk : f2.tk = f1.tk) (hb : Below w.heap.size w w') (hl : f2.lim ≤ w'.heap.size) {base B s m sc o ck : Nat} {x : Ss agP} {cl en : Bool} (h : @StA _ f1 (@agM _ f1) w base B s m sc o ck x cl en) : @StA _ f2 (@agM _ f2) w' base B s m sc o ck x cl en :=
  gsta_mv hF hk (Mv.of_below hb) hb.size hl h
/-- All that waited was taken. -/
theorem gsta_took {x : Ss agP} (hF : FoS f1 f2 w) (hk : f2.tk = some x.b.l.length) (hl : f2.lim ≤ w'.heap.size) {base B s m sc o ck g : Nat} {en en' : Bool} {av : Value} (h : @StA _ f1 (@agM _ f1) w base B s m sc o ck x false en)
    (hW : Wt w' base s sc o ck m g 48 x.e x.rd false en' []) (hfr : FrS (TkS s o g av) w w') (hav : ∀ k, av.ownBlock = some k → f1.F k) (hgF : ¬ f1.F g) (hgl : g < w.heap.size) (hgk : ∃ cs t fr, w.heap[g]? = some (.cells cs t fr) ∧ (t = 46 ∨ t = 75)) :
    @StA _ f2 (@agM _ f2) w' base B s m sc o ck x false en' := by
  obtain ⟨h1, h2, h3, h4, h5⟩ := h
  obtain ⟨e, mb, sg, ⟨av', ov, hM⟩, S, hx, hlim, hO⟩ : ∃ e mb g, @AX f1 w base m o ck e mb g x.b := h3
  have h2' : Blk w sc _ _ := h2
  obtain ⟨⟨lv, hB, hR, hf⟩, ⟨rb, cap, qs, hq, hC⟩, hbo, ho⟩ := hO
  obtain ⟨cs, t, fr, hg, ht⟩ := hgk
  have hlt := @XAt.lt f1 _ _ _ _ _ _ _ _ _ hx
  -- what is none of the Stream's, the Out's, the events' blocks lies as it lay
  have hm : Mv f1 (fun o => cObj o ∨ xK o ∨ agO o ∨ (∃ cs fr, o = .cells cs 142 fr)) w w' := by
    intro k q hq hp hn
    refine (hfr.keep k (Array.getElem?_eq_some_iff.1 hq).1 ?_).trans hq
    have hno : ∀ cs t fr, q = .cells cs t fr → t = 75 ∨ t = 82 ∨ t = 46 → False := by
      rintro cs t fr rfl ht
      rcases hp with hp | hp | hp | ⟨cs', fr', hp⟩
      · simp only [cObj] at hp
        rcases ht with rfl | rfl | rfl <;> exact absurd hp (by decide)
      · rcases hp with hp | hp
        · simp only [Ns.sObj] at hp
          rcases ht with rfl | rfl | rfl <;> exact absurd hp (by decide)
        · simp only [entO] at hp
          rcases ht with rfl | rfl | rfl <;> exact absurd hp (by decide)
      · simp only [agO] at hp
        rcases ht with rfl | rfl | rfl <;> exact absurd hp (by decide)
      · injection hp with _ hp
        rcases ht with rfl | rfl | rfl <;> exact absurd hp (by decide)
    rintro (rfl | rfl | rfl | hk)
    · unfold Blk at h1; rw [hq] at h1; injection h1 with h1; exact hno _ _ _ h1 (.inl rfl)
    · unfold Blk at hB; rw [hq] at hB; injection hB with hB; exact hno _ _ _ hB (.inr (.inl rfl))
    · rw [hq] at hg; injection hg with hg; exact hno _ _ _ hg (by rcases ht with h | h; exact .inr (.inr h); exact .inl h)
    · exact hn (hav k hk)
  have hgS : ¬ S g := fun hS => by
    have h9 := (@XAt.kd f1 _ _ _ _ _ _ _ _ _ hx g hS).2.2 _ hg
    rcases h9 with h9 | h9
    · simp only [Ns.sObj] at h9
      rcases ht with rfl | rfl <;> exact absurd h9 (by decide)
    · simp only [entO] at h9
      rcases ht with rfl | rfl <;> exact absurd h9 (by decide)
  obtain ⟨lv', hB', hR'⟩ := hW.out
  have hol : o < w.heap.size := Blk.lt hB
  have hx2 := xat_mv (f2 := f2) hF (hm.narrow fun _ h => .inr (.inl h)) hfr.size hx
  have hFp : FoS (f1.pl S w.heap.size hlim hlt) (f2.pl S w'.heap.size hl (@XAt.lt f2 _ _ _ _ _ _ _ _ _ hx2)) w := fun k hk hc => hc.imp (hF k hk) id
  refine @StA.mk _ f2 (@agM _ f2) w' base B s m sc o ck x false en' hW.blk (hm sc _ h2' (.inr (.inr (.inr ⟨_, _, rfl⟩))) h4.2) ⟨e, mb, sg, @AX.mk f2 w' base m o ck e mb sg x.b ⟨av', ov, ag_mv hF (hm.narrow fun _ h => .inr (.inr (.inl h))) hl hM⟩ ⟨S, @XO.mk f2 w' base o ck e mb sg _ _ _ _ _ S hx2 hl ?_⟩⟩ ⟨fun hc => h4.1 (hF s (Blk.lt h1) hc), fun hc => h4.2 (hF sc h2'.lt hc)⟩ ⟨h5.sB, h5.cB, h5.bs, h5.bc, Nat.le_trans h5.hB hfr.size, Nat.le_trans h5.hb hfr.size⟩
  refine @OAt.mk (f2.pl S w'.heap.size hl (@XAt.lt f2 _ _ _ _ _ _ _ _ _ hx2)) w' base o ck x.b.st x.b.l ⟨lv', hB', .inr ⟨_, hk, Nat.le_refl _, ?_⟩, ?_⟩ ⟨rb, cap, qs, hq, crep_mv (f1 := f1.pl S w.heap.size hlim hlt) (f2 := f2.pl S w'.heap.size hl (@XAt.lt f2 _ _ _ _ _ _ _ _ _ hx2)) hFp (fun k q hq hp hn => hm k q hq (.inl hp) (fun hc => hn (.inl hc))) (Nat.le_refl _) hC⟩ hbo fun hc => ho (hFp o hol hc)
  · rw [List.drop_length]
    rcases hR' with ⟨_, h1⟩ | ⟨d, cap, cur, h1, h2, h3, h4, h5, h6⟩
    · exact .inl ⟨h1, rfl⟩
    · exact .inr ⟨g, d, cap, cur, h1, hW.bg, h4, h2, h3, h5, h6⟩
  · intro k hkk hc
    rcases hR' with ⟨_, h1⟩ | ⟨d, cap, cur, h1, _⟩
    · rw [h1] at hkk; cases hkk
    · rw [h1] at hkk
      have e : g = k := Option.some.inj hkk
      subst e
      rcases hc with hc | hc
      · exact hgF (hF g hgl hc)
      · exact hgS hc
end
section
variable [fo : Fo] {w w' : World}
/-- Foreign blocks alone have turned. -/
structure FoT (w w' : World) : Prop where
  size : w.heap.size ≤ w'.heap.size
  keep : ∀ k o, ¬ Fo.F k → w.heap[k]? = some o → w'.heap[k]? = some o
theorem gsta_foT (h : FoT w w') {base B s m sc o ck : Nat} {x : Ss agP} {cl en : Bool} (hA : StA (M := agM) w base B s m sc o ck x cl en) : StA (M := agM) w' base B s m sc o ck x cl en :=
  gsta_mv (f1 := fo) (f2 := fo) (fun _ _ h => h) rfl (fun k o ho _ hn => h.keep k o hn ho) h.size (Nat.le_trans (by obtain ⟨e, mb, g, hX⟩ : ∃ e mb g, AX w base m o ck e mb g x.b := hA.d; obtain ⟨_, _, hM⟩ := hX.mc; exact hM.lim) h.size) hA
end
end Go.Proofs.YtjepnddndpmnnaaGreat

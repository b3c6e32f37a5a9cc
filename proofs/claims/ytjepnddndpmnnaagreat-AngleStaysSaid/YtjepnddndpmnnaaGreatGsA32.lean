/-
  angle: calls of the scopes; endElem, endEmpty, content.
  angle: endEmpty, content, endTag.
-/
import Derived.Test.YtjepnddndpmnnaaGreatGsA31
import Derived.Laws.StructEq
namespace Go.Proofs.YtjepnddndpmnnaaGreat
open Go.RowKit Go.Maps
set_option maxRecDepth 100000
set_option linter.unusedSimpArgs false
set_option linter.unusedVariables false
set_option linter.unusedSectionVars false
set_option linter.unusedSectionVars false
variable [Tab] [Fo]

section
variable {w w' : World} {base m o ck e mb g : Nat} {s : As} {M M' : Ag} {av ov : Value}
/-- Behind a call of the scopes. -/
theorem AX.scpc (h : AX w base m o ck e mb g s) {f : FuncId} {args : Array Value} {sc' : Ns.St} {E0 : Ending} (hC : ∀ S, Ns.SAt w base S g s.m.sc → Calls Tryz.prog f args w (fun E w' => E = E0 ∧ Ns.SAt w' base (Ext S w w') g sc' ∧ TS S anyO w w')) :
    Calls Tryz.prog f args w (fun E w' => E = E0 ∧ AX w' base m o ck e mb g { s with m := { s.m with sc := sc' } } ∧ Tch base axO w w') := by
  obtain ⟨av, ov, hM⟩ := h.mc
  obtain ⟨S, hX⟩ := h.xo
  refine (hC _ hX.x.scp).mono ?_
  rintro E w1 ⟨rfl, hS, ht⟩
  obtain ⟨S', hX', hT⟩ := hX.scpc hS ht
  exact ⟨rfl, ⟨⟨av, ov, (hM.of_x (hT.wide fun _ => .inr)).as rfl rfl rfl⟩, S', hX'⟩, hT.wide fun _ h => .inl (.inr h)⟩
theorem sat_ext {S : Nat → Prop} {sc : Ns.St} (h : Ns.SAt w' base S g sc) (hs : w.heap.size ≤ w'.heap.size) : Ns.SAt w' base (Ext S w w') g sc :=
  h.mono (fun k hk => by rcases hk with hk | hk; exact h.1 k hk; exact hk.2) fun _ _ _ hk _ => .inl hk
theorem AX.close (h : AX w base m o ck e mb g s) : Calls Tryz.prog 145 #[.pointer (some ⟨g, 0, none⟩)] w (fun E w' => E = .returned (.int .i64 (Ns.closeE s.m.sc)) ∧ AX w' base m o ck e mb g { s with m := { s.m with sc := Ns.closeS s.m.sc } } ∧ Tch base axO w w') :=
  h.scpc fun S hS => (Ns.close_any w base g S s.m.sc hS).mono fun E w1 ⟨h1, h2, h3⟩ => ⟨h1, sat_ext h2 h3.size, h3⟩
theorem AX.openS (h : AX w base m o ck e mb g s) (hl : s.m.sc.length ≤ 1000000) : Calls Tryz.prog 141 #[.pointer (some ⟨g, 0, none⟩)] w (fun E w' => E = .returned (.tuple #[]) ∧ AX w' base m o ck e mb g { s with m := { s.m with sc := [] :: s.m.sc } } ∧ Tch base axO w w') :=
  h.scpc fun S hS => Ns.open_any w base g S s.m.sc hS (by omega)
theorem AX.bind (h : AX w base m o ck e mb g s) (p t : List UInt8) (hp : p.length ≤ 1000) (ht : t.length ≤ 1000) : Calls Tryz.prog 144 #[.pointer (some ⟨g, 0, none⟩), .string ⟨p.toArray⟩, .string ⟨t.toArray⟩] w (fun E w' => E = .returned (.int .i64 (Ns.bindE p t s.m.sc)) ∧ AX w' base m o ck e mb g { s with m := { s.m with sc := Ns.bindS p t s.m.sc } } ∧ Tch base axO w w') :=
  h.scpc fun S hS => (Ns.bind_any w base g S s.m.sc ⟨p.toArray⟩ ⟨t.toArray⟩ hS (by rw [svSize]; omega) (by rw [svSize]; omega)).mono fun E w1 ⟨h1, h2, h3⟩ => ⟨h1, sat_ext h2 h3.size, h3⟩
theorem AX.space (h : AX w base m o ck e mb g s) (p : List UInt8) (hp : p.length ≤ 1000) : Calls Tryz.prog 158 #[.pointer (some ⟨g, 0, none⟩), .string ⟨p.toArray⟩] w (fun E w' => E = Ns.SpaceEnd p s.m.sc ∧ Below w.heap.size w w') := by
  obtain ⟨S, hX⟩ := h.xo
  exact Ns.sspace_any w base g _ s.m.sc ⟨p.toArray⟩ (by rw [svSize]; omega) hX.x.scp

theorem naCells_drop (l : List Na) {n : Nat} (hn : l.length = n + 1) : (naCells l).take (n * 2) = naCells l.dropLast := by
  have hne : l ≠ [] := by intro hc; rw [hc] at hn; cases hn
  have h1 := List.dropLast_concat_getLast hne
  have hl : l.dropLast.length = n := by rw [List.length_dropLast]; omega
  conv => lhs; rw [← h1, naCells_snoc]
  rw [List.take_append_of_le_length (by rw [naCells_len, hl]; omega), List.take_of_length_le (by rw [naCells_len, hl]; omega)]
theorem AgAt.cutOp {r n cap : Nat} (h : AgAt w base m M e g av (.slice (some ⟨r, 0, none⟩) (n + 1) cap)) (hn : M.op.length = n + 1) (hc : ∀ u, agCells M' e g av u = (agCells M e g av ov).setIfInBounds 18 u) (hc2 : M'.ats = M.ats) (ho : M'.op = M.op.dropLast) :
    AgAt (w.setCell ⟨m, 18, none⟩ (.slice (some ⟨r, 0, none⟩) n cap)) base m M' e g av (.slice (some ⟨r, 0, none⟩) n cap) ∧ Tch base agO w (w.setCell ⟨m, 18, none⟩ (.slice (some ⟨r, 0, none⟩) n cap)) := by
  have ht := h.touch 18 (.slice (some ⟨r, 0, none⟩) n cap)
  have hl : M'.op.length = n := by rw [ho, List.length_dropLast]; omega
  have h0 : w.ownsRow base 97 2 (.slice (some ⟨r, 0, none⟩) (n + 1) cap) (n + 1) (naCells M.op) := by rw [← hn]; exact hn ▸ h.opn
  have h1 := rowN_cut h0 (m := n) (by omega)
  rw [naCells_drop M.op hn, ← ho] at h1
  refine ⟨⟨?_, by rw [hc2]; exact row_tch h.ats ht (fun _ _ => by simp only [agOnly]; decide), by rw [hl]; exact row_tch h1 ht (fun _ _ => by simp only [agOnly]; decide), h.nfa, h.nfo, h.bm, h.nf, Nat.le_trans h.lim ht.size⟩, ht.wide fun _ => ag_of⟩
  rw [hc]
  have := h.blk.set_ 18 (.slice (some ⟨r, 0, none⟩) n cap)
  have e1 : (agCells M e g av ov).setIfInBounds 18 (.slice (some ⟨r, 0, none⟩) n cap) = (agCells M e g av (.slice (some ⟨r, 0, none⟩) (n + 1) cap)).setIfInBounds 18 (.slice (some ⟨r, 0, none⟩) n cap) := rfl
  rw [e1]
  exact this

set_option maxHeartbeats 4000000 in
theorem aendelem_any (h : AX w base m o ck e mb g s) (hop : s.m.op ≠ []) (hl : s.m.op.length ≤ 1000000) (hg : Good s.st) (hle : s.l.length ≤ 1000000) :
    Calls Tryz.prog 132 #[.pointer (some ⟨m, 0, none⟩), .pointer (some ⟨o, 0, none⟩)] w (APo w base m o ck e mb g (endElemA s)) := by
  have c19 : w.cell? ⟨m, 19, none⟩ = some (.pointer (some ⟨g, 0, none⟩)) := by obtain ⟨_, _, q⟩ := h.mc; exact q.cells2.2.2.2.2.2.2.2.2
  have hlt := h.lt
  have hC := Lib.hid h.close
  obtain ⟨n, hn⟩ : ∃ n, s.m.op.length = n + 1 := ⟨s.m.op.length - 1, by have := List.length_pos_iff.2 hop; omega⟩
  have HN := Lib.hid hn
  clear h hop
  go_enter Tryz.func132, Tryz.ntmps132
  go_wp2_with fail
  refine hC.out.mono ?_
  rintro E w1 ⟨rfl, h1, t1⟩
  have H1 := Lib.hid h1
  have T1 := Lib.hid t1
  obtain ⟨av, ov, hM⟩ := h1.mc
  obtain ⟨A, cap, rfl, hcap⟩ := own_shape hM.opn
  have hcm : cap ≤ 9223372036854775807 := by
    rcases hM.opn.2 with ⟨hv, _⟩ | ⟨g', c', cur, hv, _, _, _, hm, _⟩
    · injection hv with _ _ h3; rw [h3]; decide
    · injection hv with _ _ h3; rw [h3]; simpa [maxLen] using hm
  have hA : ∃ r, A = some ⟨r, 0, none⟩ := by
    rcases hM.opn.2 with ⟨hv, h0⟩ | ⟨g', c', cur, hv, _⟩
    · injection hv with _ h2; have e : s.m.op.length = 0 := h2; omega
    · injection hv with h2; exact ⟨g', h2⟩
  obtain ⟨r, rfl⟩ := hA
  change AgAt w1 base m _ e g av (.slice (some ⟨r, 0, none⟩) s.m.op.length cap) at hM
  change s.m.op.length ≤ cap at hcap
  rw [hn] at hM hcap
  have c18 : w1.cell? ⟨m, 18, none⟩ = some (.slice (some ⟨r, 0, none⟩) (n + 1) cap) := hM.cells2.2.2.2.2.2.2.2.1
  have f18 : w1.frozen? ⟨m, 18, none⟩ = false := hM.frz 18
  have c0 : w1.cell? ⟨m, 0, none⟩ = some (.int .i64 s.m.a) := hM.cells.1
  have f0 : w1.frozen? ⟨m, 0, none⟩ = false := hM.frz 0
  have hlt1 : m < w1.heap.size := hM.lt
  have hcut := hM.cutOp (ov := .slice (some ⟨r, 0, none⟩) (n + 1) cap) (M' := { s.m with sc := Ns.closeS s.m.sc, op := s.m.op.dropLast }) hn (fun _ => rfl) rfl rfl
  have h2 := h1.tchO hcut.2 ⟨_, _, hcut.1⟩ rfl rfl rfl
  have t2 := (t1.trans (hcut.2.wide fun _ h => (.inr h : axO _))).drew
  have hd : s.m.op.dropLast.length = n := by rw [List.length_dropLast]; omega
  have h3 := h2.drew.setAt 15
  have t3 := t2.trans h3.2
  have k0 := h3.1.at0
  have l0 := h3.1.frz 0
  have m0 := h3.1.lt
  by_cases hn0 : n = 0
  · subst hn0
    have h4 := h3.1.setAt 18
    have hE : (⟨{ s with m := closedA s.m }.m, s.st, s.l⟩ : As) = setAt (setAt { s with m := { s.m with sc := Ns.closeS s.m.sc, op := s.m.op.dropLast } } 15) 18 := by
      have e : s.m.op.dropLast = [] := List.eq_nil_of_length_eq_zero hd
      unfold closedA setAt
      rw [if_pos e]
    have HTell := Lib.hid (h4.1.tell (bare 12) hg (by decide) (by decide) hle)
    have HT4 := Lib.hid (t3.trans h4.2)
    have HEq := Lib.hid hE
    clear h1 t1 hM hcut h2 hn hC hd t2 h3 t3 h4 hE H1 T1
    go_wp2
    go_region
    go_wp2_with fail
    refine HTell.out.mono ?_
    rintro E w5 ⟨rfl, h5, t5⟩
    have HF : Hid (APo w base m o ck e mb g (endElemA s) (.returned (.int .i64 (stepE s.st (bare 12)))) w5) := Lib.hid ⟨rfl, by unfold endElemA; rw [show ({ s with m := closedA s.m } : As) = _ from HEq.out]; exact h5, HT4.out.trans (t5.wide fun _ h => (.inl h : axO _))⟩
    clear h5 t5
    go_wp2
    go_ret
    exact HF.out
  · have hE : (⟨{ s with m := closedA s.m }.m, s.st, s.l⟩ : As) = setAt { s with m := { s.m with sc := Ns.closeS s.m.sc, op := s.m.op.dropLast } } 15 := by
      have e : s.m.op.dropLast ≠ [] := fun hc => by rw [hc] at hd; exact hn0 hd.symm
      unfold closedA setAt
      rw [if_neg e]
    have z0 : ((n : Int) == 0) = false := by rw [beq_eq_false_iff_ne]; omega
    have HTell := Lib.hid (h3.1.tell (bare 12) hg (by decide) (by decide) hle)
    have HT4 := Lib.hid t3
    have HEq := Lib.hid hE
    clear h1 t1 hM hcut h2 hn hC hd t2 h3 t3 hE H1 T1
    go_wp2
    go_region
    go_wp2_with fail
    refine HTell.out.mono ?_
    rintro E w5 ⟨rfl, h5, t5⟩
    have HF : Hid (APo w base m o ck e mb g (endElemA s) (.returned (.int .i64 (stepE s.st (bare 12)))) w5) := Lib.hid ⟨rfl, by unfold endElemA; rw [show ({ s with m := closedA s.m } : As) = _ from HEq.out]; exact h5, HT4.out.trans (t5.wide fun _ h => (.inl h : axO _))⟩
    clear h5 t5
    go_wp2
    go_ret
    exact HF.out
end
end Go.Proofs.YtjepnddndpmnnaaGreat
namespace Go.Proofs.YtjepnddndpmnnaaGreat
open Go.RowKit Go.Maps
set_option maxRecDepth 100000
set_option linter.unusedSimpArgs false
set_option linter.unusedVariables false
set_option linter.unusedSectionVars false
set_option linter.unusedSectionVars false
variable [Tab] [Fo]

/-! Names compared. -/
theorem naF : (Tryz.prog.fieldsOf 97).map (fun f => (f.name, f.type, f.offset)) = #[("prefix", 9, 0), ("local", 9, 1)] := by kernel_rfl
theorem naU : Tryz.prog.underlying 97 = some (.struct (Tryz.prog.fieldsOf 97)) := by kernel_rfl
theorem naH : Tryz.prog.stoodInHeld 97 = false := by kernel_rfl
theorem naG : Tryz.prog.eqGuardType Tryz.prog.depth 97 = false := by kernel_rfl
theorem na_fields : ∃ f1 f2 : Field, (Tryz.prog.fieldsOf 97).toList = [f1, f2] ∧ f1.name = "prefix" ∧ f1.type = 9 ∧ f1.offset = 0 ∧ f2.name = "local" ∧ f2.type = 9 ∧ f2.offset = 1 := by
  have h := congrArg Array.toList naF
  rw [Array.toList_map] at h
  generalize (Tryz.prog.fieldsOf 97).toList = l at h ⊢
  rcases l with _ | ⟨f1, _ | ⟨f2, _ | ⟨f3, r⟩⟩⟩ <;> simp at h
  exact ⟨f1, f2, rfl, h.1.1, h.1.2.1, h.1.2.2, h.2.1, h.2.2.1, h.2.2.2⟩
theorem na_equal (w : World) (a b c d : ByteArray) (k : Nat) : (Op.equalIn (k + 2) 97 (.agg #[.string a, .string b]) (.agg #[.string c, .string d])).run Tryz.prog w = .ok ((a.toList == c.toList) && (b.toList == d.toList)) w := by
  obtain ⟨f1, f2, hF, h1, h2, h3, h4, h5, h6⟩ := na_fields
  rw [run_equalIn_agg w _ _ _ _ naU naH, hF]
  have hU : Tryz.prog.underlying 9 = some .string := Tryz.underlying9
  have hp : ∀ (xs : Array Value) (i : Nat), (part 9 xs i).run Tryz.prog w = (match xs[i]? with | some v => .ok v w | none => (part 9 xs i).run Tryz.prog w) := by
    intro xs i
    cases hx : xs[i]? with
    | none => rfl
    | some v => simp only; go_simp
  simp [Op.eqFields, h1, h2, h3, h4, h5, h6, hp, run_equalIn_string, hU]
  by_cases e1 : a.toList = c.toList
  · rw [if_pos e1]
    by_cases e2 : b.toList = d.toList
    · rw [if_pos e2, e1, e2]; simp
    · rw [if_neg e2, e1]; simp [e2]
  · rw [if_neg e1]; simp [e1]
theorem sv_toList (a : List UInt8) : (⟨a.toArray⟩ : ByteArray).toList = a := by rw [Lib.toList_data]
theorem na_eq (w : World) (x y : Na) : (Op.equalIn 10000 97 (.agg #[.string ⟨x.p.toArray⟩, .string ⟨x.l.toArray⟩]) (.agg #[.string ⟨y.p.toArray⟩, .string ⟨y.l.toArray⟩])).run Tryz.prog w = .ok (decide (x = y)) w := by
  have h := na_equal w ⟨x.p.toArray⟩ ⟨x.l.toArray⟩ ⟨y.p.toArray⟩ ⟨y.l.toArray⟩ 9998
  rw [h]
  simp only [sv_toList]
  congr 1
  obtain ⟨a, b⟩ := x
  obtain ⟨c, d⟩ := y
  simp only [Na.mk.injEq]
  by_cases e1 : a = c <;> by_cases e2 : b = d <;> simp [e1, e2]
theorem na_guard (op : BinOp) (x y : Operand) (xs ys : Array Value) (w : World) : (eqGuard op 97 x y (.agg xs) (.agg ys)).run Tryz.prog w = .ok () w := run_eqGuard_agg w op _ x y xs ys naG

section
variable {w w' : World} {base m o ck e mb g : Nat} {s : As} {M M' : Ag} {av ov : Value}
/-- What holds of the machine ahead of an end of an element. -/
structure EPre (s : As) : Prop where
  op : s.m.op ≠ []
  ol : s.m.op.length ≤ 1000000
  good : Good s.st
  ln : s.l.length ≤ 1000000

theorem aendempty_any (b : UInt8) (h : AX w base m o ck e mb g s) (hp : EPre s) :
    Calls Tryz.prog 118 #[.pointer (some ⟨m, 0, none⟩), .int .u8 (b.toNat : Int), .pointer (some ⟨o, 0, none⟩)] w (APo w base m o ck e mb g (endEmptyA s b)) := by
  have hC := Lib.hid (aendelem_any h hp.op hp.ol hp.good hp.ln)
  unfold endEmptyA
  by_cases hb : b.toNat ≠ 62
  · rw [if_pos hb]
    have z : ((b.toNat : Int) != 62) = true := by rw [bne_iff_ne]; omega
    have HF := Lib.hid (APo.of h (Tch.refl _ _ _) 2)
    clear h hp hb hC
    go_enter Tryz.func118, Tryz.ntmps118
    go_wp2
    go_ret
    exact HF.out
  · rw [if_neg hb]
    have z : ((b.toNat : Int) != 62) = false := by rw [bne_eq_false_iff_eq]; omega
    obtain ⟨R, hR⟩ : ∃ R, endElemA s = R := ⟨_, rfl⟩
    rw [hR] at hC ⊢
    clear h hp hb hR
    go_enter Tryz.func118, Tryz.ntmps118
    go_wp2_with fail
    refine hC.out.mono ?_
    intro E w3 hq
    have HF := Lib.hid hq
    have hE := hq.1
    clear hq
    subst hE
    go_wp2
    go_ret
    exact HF.out

set_option maxHeartbeats 4000000 in
theorem acontent_any (b : UInt8) (h : AX w base m o ck e mb g s) (hok : AgOk s.m) (hg : Good s.st) (hle : s.l.length ≤ 1000000) :
    Calls Tryz.prog 119 #[.pointer (some ⟨m, 0, none⟩), .int .u8 (b.toNat : Int), .pointer (some ⟨o, 0, none⟩)] w (APo w base m o ck e mb g (contentA s b)) := by
  have c0 := h.at0
  have f0 := h.frz 0
  have hlt := h.lt
  have hE := Lib.hid (aended_any b 60 h)
  unfold contentA
  cases hz : endedA s.m b 60 with
  | false =>
    rw [if_pos rfl]
    rw [hz] at hE
    have hA := Lib.hid (aadd_any b h hok)
    obtain ⟨R, hR⟩ : ∃ R, s.mr (addR s.m b) = R := ⟨_, rfl⟩
    rw [hR] at hA ⊢
    clear h hok hz hR
    go_enter Tryz.func119, Tryz.ntmps119
    go_wp2_with fail
    refine hE.out.mono ?_
    rintro E w ⟨rfl, rfl⟩
    go_wp2_with fail
    refine hA.out.mono ?_
    intro E w3 hq
    have HF := Lib.hid hq
    have hE := hq.1
    clear hq
    subst hE
    go_wp2
    go_ret
    exact HF.out
  | true =>
    rw [if_neg (by decide)]
    rw [hz] at hE
    have h1 := h.setAt 1
    have hT : Hid (Calls Tryz.prog 127 #[.pointer (some ⟨m, 5, none⟩)] (w.setCell ⟨m, 0, none⟩ (.int .i64 1)) fun E w' => E = .returned (.string ⟨s.m.rt.toArray⟩) ∧ AX w' base m o ck e mb g { s with m := { s.m with a := 1, rt := [] } } ∧ Tch base axO (w.setCell ⟨m, 0, none⟩ (.int .i64 1)) w') := Lib.hid (atake_any h1.1)
    have HT1 := Lib.hid h1.2
    have hrt := hok.rt
    by_cases hr : s.m.rt = []
    · rw [if_pos hr]
      have HR := Lib.hid hr
      clear h hz h1 hok hr
      go_enter Tryz.func119, Tryz.ntmps119
      go_wp2_with fail
      refine hE.out.mono ?_
      rintro E w ⟨rfl, rfl⟩
      go_wp2_with fail
      refine hT.out.mono ?_
      rintro E w2 ⟨rfl, h2, t2⟩
      have e1 : (⟨s.m.rt.toArray⟩ : ByteArray) = ⟨#[]⟩ := by rw [HR.out]
      rw [e1]
      have e2 : ({ s with m := { s.m with a := 1, rt := [] } } : As) = setAt s 1 := by
        have := HR.out
        obtain ⟨⟨⟩, _, _⟩ := s
        simp only [setAt] at this ⊢
        subst this
        rfl
      have HF : Hid (APo w base m o ck e mb g ⟨setAt s 1, 0⟩ (.returned (.int .i64 0)) w2) := Lib.hid ⟨rfl, by rw [← e2]; exact h2, HT1.out.trans t2⟩
      clear h2 t2 e1 e2
      go_wp2
      go_ret
      exact HF.out
    · rw [if_neg hr]
      have hz2 := strEmp hr
      have hz3 : s.m.rt.isEmpty = false := by cases hq : s.m.rt with | nil => exact absurd hq hr | cons _ _ => rfl
      clear h hz h1 hok hr
      go_enter Tryz.func119, Tryz.ntmps119
      go_wp2_with fail
      refine hE.out.mono ?_
      rintro E w ⟨rfl, rfl⟩
      go_wp2_with fail
      refine hT.out.mono ?_
      rintro E w2 ⟨rfl, h2, t2⟩
      change AX w2 base m o ck e mb g { s with m := { s.m with a := 1, rt := [] } } at h2
      have hTl := Lib.hid (h2.tell ⟨4, bs s.m.rt, ⟨#[]⟩⟩ hg (by show (4 : Int) ≠ 3; decide) (by show s.m.rt.toArray.size ≤ _; simp; omega) hle)
      have HT2 := Lib.hid (HT1.out.trans t2)
      clear h2 t2
      obtain ⟨k, hk⟩ : ∃ k, stepE s.st ⟨4, bs s.m.rt, ⟨#[]⟩⟩ = k := ⟨_, rfl⟩
      have HK := Lib.hid hk
      clear hk
      go_wp2_with fail
      refine hTl.out.mono ?_
      rintro E w3 ⟨rfl, h3, t3⟩
      have HF : Hid (APo w base m o ck e mb g (tellA { s with m := { s.m with a := 1, rt := [] } } ⟨4, bs s.m.rt, ⟨#[]⟩⟩) (.returned (.int .i64 (stepE s.st ⟨4, bs s.m.rt, ⟨#[]⟩⟩))) w3) := Lib.hid ⟨rfl, h3, HT2.out.trans (t3.wide fun _ h => (.inl h : axO _))⟩
      clear h3 t3
      go_wp2
      go_ret
      exact HF.out

end
end Go.Proofs.YtjepnddndpmnnaaGreat

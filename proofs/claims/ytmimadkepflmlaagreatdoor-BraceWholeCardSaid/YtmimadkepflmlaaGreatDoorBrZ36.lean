/-
  The brace syntax: what was told is a run of the events' machine; when the end is OK it is a document.
  The walk of BraceWhole.
  What every row of this seat's laws shares: the variables that are listed, a world that holds them, what the walks lean on out of them; (stage 7).
-/
import Derived.Test.YtmimadkepflmlaaGreatDoorBrZ35
import Derived.Test.YtmimadkepflmlaaGreatDoorBrZ34
import Derived.Test.YtmimadkepflmlaaGreatDoorRows
import Derived.Test.YtmimadkepflmlaaGreatDoorCards
import Derived.Test.YtmimadkepflmlaaGreatDoorTie
import Derived.Test.YtmimadkepflmlaaGreatDoorBrZ20
import Derived.Deep.Slices
import Derived.Deep.Fields
import Derived.ChangeSame
import Derived.SizedLaws
import Derived.ProofKit
import Derived.OpenShut
import Derived.ShutString
import Derived.Deep.DeepHandedRow
import Derived.Lib.LaidTab
import Derived.Lay
import Derived.Stop.LaidErr
import Derived.SevenTiedAt
namespace Go.Proofs.YtmimadkepflmlaaGreatDoor
set_option maxRecDepth 100000
set_option linter.unusedSimpArgs false
set_option linter.unusedVariables false
set_option linter.unusedSectionVars false
variable [Tab] [Fo]

/-- What was told is a run. -/
structure Tk (s : Bs) : Prop where
  ok : allOk [topP] s.l
  run : s.st = runS [topP] s.l
  sz : ∀ x ∈ s.l, okE x
structure PI (s : Bs) : Prop where
  tk : Tk s
  ln : s.st.length = s.m.op.length + 1
  ls : s.m.a = 5 → ∀ p r, s.st = p :: r → p.last ≠ 0
  k6 : s.m.a = 6 → s.m.ek = 1 ∨ s.m.ek = 2
  k8 : s.m.a = 8 → s.m.ek = 4 ∨ s.m.ek = 8
  ev : s.m.ev.size = 0
def PO (r : Br) : Prop := Tk r.b ∧ (r.e = 0 → PI r.b)
theorem okE_of {x : Ev} (hk : 0 ≤ x.k ∧ x.k ≤ 12) (ht : x.t.size ≤ 48) (hv : x.v.size = 0) : okE x := ⟨by omega, by omega, by omega, by omega⟩
theorem tk_tell {s : Bs} (h : Tk s) (M : Mc) {x : Ev} (hx : okE x) : Tk (tellB M s.st s.l x).b := by
  obtain ⟨m, st, l⟩ := s
  obtain ⟨h1, h2, h3⟩ := h
  simp only at h1 h2 h3
  subst h2
  unfold tellB tellL
  by_cases hz : stepE (runS [topP] l) x = 0
  · simp only [if_pos hz]
    refine ⟨(allOk_snoc _ _ _).2 ⟨h1, hz⟩, (runS_snoc _ _ _).symm, fun y hy => ?_⟩
    rcases List.mem_append.1 hy with hy | hy
    · exact h3 y hy
    · rw [List.mem_singleton.1 hy]; exact hx
  · simp only [if_neg hz]
    refine ⟨h1, ?_, h3⟩
    simp only [stepS, if_neg hz]
theorem stepS_scalar {st : List Pt} {x : Ev} (hz : stepE st x = 0) (hk : x.k = 1 ∨ x.k = 2 ∨ x.k = 3 ∨ x.k = 4 ∨ x.k = 8) : (stepS st x).length = st.length ∧ ∀ p r, stepS st x = p :: r → p.last ≠ 0 := by
  unfold stepS
  rw [if_pos hz]
  cases st with
  | nil => simp [stepE] at hz
  | cons p r =>
    have he : endsK x.k = false := by unfold endsK; rw [decide_eq_false_iff_not]; omega
    have ho : opensK x.k = false := by unfold opensK; rw [decide_eq_false_iff_not]; omega
    simp only [goS, he, ho, if_false, Bool.false_eq_true]
    split
    · refine ⟨by simp, fun p' r' h => ?_⟩
      injection h with h _
      rw [← h]
      simp only
      omega
    · refine ⟨by simp, fun p' r' h => ?_⟩
      injection h with h _
      rw [← h]
      simp only
      omega
theorem stepS_open {st : List Pt} {x : Ev} (hz : stepE st x = 0) (hk : x.k = 5 ∨ x.k = 7) : (stepS st x).length = st.length + 1 := by
  unfold stepS
  rw [if_pos hz]
  cases st with
  | nil => simp [stepE] at hz
  | cons p r =>
    have he : endsK x.k = false := by unfold endsK; rw [decide_eq_false_iff_not]; omega
    have ho : opensK x.k = true := by unfold opensK; rw [decide_eq_true_iff]; omega
    simp [goS, he, ho]
theorem stepS_end {st : List Pt} {x : Ev} (hg : Good st) (hz : stepE st x = 0) (hk : x.k = 6 ∨ x.k = 9) : (stepS st x).length + 1 = st.length ∧ ∀ p r, stepS st x = p :: r → p.last ≠ 0 := by
  obtain ⟨p, r, rfl⟩ := hg.ne
  obtain ⟨hf, hc⟩ := cont_of hz
  have he : endsK x.k = true := by unfold endsK; rw [decide_eq_true_iff]; omega
  unfold stepS
  rw [if_pos hz]
  simp only [goS, he, if_true]
  refine ⟨by simp, fun q r' h => ?_⟩
  subst h
  have := hg.1.2.1
  unfold opensK at this
  rw [decide_eq_true_iff] at this
  omega
section
variable {s : Bs} {n : Nat}
theorem po_err (h : Tk s) {e : Int} (he : e ≠ 0) : PO ⟨s, e⟩ := ⟨h, fun h0 => absurd h0 he⟩
/-- The machine turns, and nothing is told. -/
theorem po_turn (h : PI s) {r : Br} (hst : r.b.st = s.st) (hl : r.b.l = s.l) (hop : r.b.m.op = s.m.op) (ha : r.b.m.a = 5 → s.m.a = 5) (h6 : r.b.m.a = 6 → r.b.m.ek = 1 ∨ r.b.m.ek = 2) (h8 : r.b.m.a = 8 → r.b.m.ek = 4 ∨ r.b.m.ek = 8) (hv : r.b.m.ev.size = 0) : PO r := by
  have ht : Tk r.b := ⟨by rw [hl]; exact h.tk.ok, by rw [hst, hl]; exact h.tk.run, by rw [hl]; exact h.tk.sz⟩
  exact ⟨ht, fun _ => ⟨ht, by rw [hst, hop]; exact h.ln, fun h5 => by rw [hst]; exact h.ls (ha h5), h6, h8, hv⟩⟩
theorem po_scalar (h : PI s) (M : Mc) (x : Ev) (hop : M.op = s.m.op) (ha : M.a = 4 ∨ M.a = 5) (hv : M.ev.size = 0) (hk : x.k = 1 ∨ x.k = 2 ∨ x.k = 3 ∨ x.k = 4 ∨ x.k = 8) (ht : x.t.size ≤ 48) (hxv : x.v.size = 0) : PO (tellB M s.st s.l x) := by
  have htk := tk_tell h.tk M (okE_of (x := x) (by omega) ht hxv)
  refine ⟨htk, fun hz => ?_⟩
  obtain ⟨h1, h2⟩ := stepS_scalar (show stepE s.st x = 0 from hz) hk
  exact ⟨htk, by show (stepS s.st x).length = M.op.length + 1; rw [h1, hop]; exact h.ln, fun _ => h2, fun h6 => by have h6' : M.a = 6 := h6; omega, fun h8 => by have h8' : M.a = 8 := h8; omega, hv⟩
theorem po_finish (h : PI s) (hg : Good s.st) (hne : s.m.op ≠ []) : PO (finishB s) := by
  have htk : Tk (finishB s).b := tk_tell h.tk _ (okE_of (by simp only [bare]; split <;> omega) (by simp [bare, ByteArray.size]) (by simp [bare, ByteArray.size]))
  refine ⟨htk, fun hz => ?_⟩
  obtain ⟨h1, h2⟩ := stepS_end hg (show stepE s.st (bare (if (topB s.m.op).toNat = 125 then 9 else 6)) = 0 from hz) (by simp only [bare]; split <;> omega)
  refine ⟨htk, ?_, fun _ => h2, fun h6 => absurd h6 (by simp [finishB, tellB]), fun h8 => absurd h8 (by simp [finishB, tellB]), h.ev⟩
  show (stepS s.st _).length = s.m.op.dropLast.length + 1
  have := h.ln
  have hp : 0 < s.m.op.length := List.length_pos_iff.2 hne
  rw [List.length_dropLast]
  omega
theorem po_begin (h : PI s) (k : Int) (c : UInt8) (a : Int) (hk : k = 5 ∨ k = 7) (ha : a = 1 ∨ a = 2) : PO (beginB s k c a) := by
  have htk : Tk (beginB s k c a).b := tk_tell h.tk _ (okE_of (by simp only [bare]; omega) (by simp [bare, ByteArray.size]) (by simp [bare, ByteArray.size]))
  refine ⟨htk, fun hz => ?_⟩
  have h1 := stepS_open (show stepE s.st (bare k) = 0 from hz) hk
  refine ⟨htk, ?_, fun h5 => ?_, fun h6 => ?_, fun h8 => ?_, h.ev⟩
  · show (stepS s.st (bare k)).length = (s.m.op ++ [c]).length + 1
    rw [h1, h.ln]; simp
  all_goals
    first
      | (have h5' : a = 5 := h5; omega)
      | (have h6' : a = 6 := h6; omega)
      | (have h8' : a = 8 := h8; omega)
theorem po_letter (h : PI s) (hi : BInv s n) (h6 : s.m.a = 6) (b : UInt8) : PO (letterB s b) := by
  unfold letterB
  split
  · split
    · exact po_scalar h _ _ rfl (.inr rfl) h.ev (by rcases h.k6 h6 with e | e <;> simp only [e] <;> decide) hi.etl h.ev
    · exact po_turn h rfl rfl rfl (fun e => e) h.k6 h.k8 h.ev
  · exact po_err h.tk (by decide)
theorem po_char (h : PI s) (hi : BInv s n) (h8 : s.m.a = 8) (b : UInt8) : PO (charB s b) := by
  have hq := (Qt.qInv_step (b := (b.toNat : Int)) hi.qi).1
  unfold charB
  simp only
  split
  · exact po_turn h rfl rfl rfl (fun e => e) h.k6 h.k8 h.ev
  · refine po_scalar h _ _ rfl ?_ h.ev (by rcases h.k8 h8 with e | e <;> simp only [e] <;> decide) (by simpa [ByteArray.size] using hq) h.ev
    simp only
    split
    · exact .inl rfl
    · exact .inr rfl
theorem po_endNum (h : PI s) (hi : BInv s n) : PO (endNumB s) := by
  unfold endNumB
  split
  · rename_i hne
    exact ⟨⟨h.tk.ok, h.tk.run, h.tk.sz⟩, fun h0 => absurd h0 hne⟩
  · exact po_scalar h _ _ rfl (.inr rfl) h.ev (by simp) (endS_lim _) (by simp [ByteArray.size])
theorem po_digit (h : PI s) (b : UInt8) : PO (digitB s b) := by
  unfold digitB
  split
  · exact po_err h.tk (by decide)
  · exact po_turn h rfl rfl rfl (fun e => e) h.k6 h.k8 h.ev
theorem po_word (h : PI s) (k : Int) (t r : ByteArray) (hk : k = 1 ∨ k = 2) : PO (wordB s k t r) := po_turn h rfl rfl rfl (by simp [wordB]) (fun _ => hk) (by simp [wordB]) rfl
theorem po_string (h : PI s) (k : Int) (hk : k = 4 ∨ k = 8) : PO (stringB s k) := po_turn h rfl rfl rfl (by simp [stringB]) (by simp [stringB]) (fun _ => hk) rfl
theorem po_value (h : PI s) (b : UInt8) : PO (valueB s b) := by
  unfold valueB
  repeat' split
  · exact po_begin h 5 93 1 (.inl rfl) (.inl rfl)
  · exact po_begin h 7 125 2 (.inr rfl) (.inr rfl)
  · exact po_string h 4 (.inl rfl)
  · exact po_word h 1 _ _ (.inl rfl)
  · exact po_word h 2 _ _ (.inr rfl)
  · exact po_word h 2 _ _ (.inr rfl)
  · exact po_err h.tk (by decide)
  · exact po_digit (s := { s with m := { s.m with a := 7 } }) ⟨⟨h.tk.ok, h.tk.run, h.tk.sz⟩, h.ln, fun e => absurd e (by simp), fun e => absurd e (by simp), fun e => absurd e (by simp), h.ev⟩ b
theorem po_a (h : PI s) (a : Int) (ha : a = 0 ∨ a = 3) : PO ⟨{ s with m := { s.m with a := a } }, 0⟩ :=
  po_turn h rfl rfl rfl (fun e => by have e' : a = 5 := e; omega) (fun e => by have e' : a = 6 := e; omega) (fun e => by have e' : a = 8 := e; omega) h.ev
theorem po_behind (h : PI s) (hi : BInv s n) (b : UInt8) : PO (behindB s b) := by
  unfold behindB
  split
  · exact po_err h.tk (by decide)
  · rename_i hne
    repeat' split
    · exact po_finish h hi.good hne
    · exact po_err h.tk (by decide)
    · exact po_a h 3 (.inr rfl)
    · exact po_a h 0 (.inl rfl)
theorem po_mark (h : PI s) (hi : BInv s n) (b : UInt8) : PO (markB s b) := by
  unfold markB
  split
  · exact po_a h 0 (.inl rfl)
  · split
    · rename_i hc
      exact po_finish h hi.good (hi.op1 (by omega))
    · repeat' split
      · exact po_string h 8 (.inr rfl)
      · exact po_value h b
      · exact po_behind h hi b
      · exact po_err h.tk (by decide)
theorem po_plain (h : PI s) (hi : BInv s n) (b : UInt8) : PO (plainB s b) := by
  unfold plainB
  split
  · exact ⟨h.tk, fun _ => h⟩
  · exact po_mark h hi b
theorem po_step (h : PI s) (hi : BInv s n) (b : UInt8) : PO (stepB s b) := by
  unfold stepB
  split
  · rename_i h6; exact po_letter h hi h6 b
  · split
    · rename_i h8; exact po_char h hi h8 b
    · split
      · split
        · exact po_digit h b
        · have hn := po_endNum h hi
          split
          · exact hn
          · rename_i he
            exact po_plain (hn.2 (by simpa using he)) (binv_endNum hi) b
      · exact po_plain h hi b
theorem end_done (h : PI s) (h5 : s.m.a = 5) (hop : s.m.op = []) : doneB s.st = true := by
  have hl := h.ln
  rw [hop] at hl
  match hst : s.st, hl with
  | [p], _ => simpa [doneB] using h.ls h5 p [] hst
theorem po_end (h : PI s) (hi : BInv s n) : Tk (endB s).b ∧ ((endB s).e = 0 → doneB (endB s).b.st = true) := by
  have hr : PO (if s.m.a = 7 then endNumB s else ⟨s, 0⟩) := by
    split
    · exact po_endNum h hi
    · exact ⟨h.tk, fun _ => h⟩
  unfold endB
  generalize (if s.m.a = 7 then endNumB s else ⟨s, 0⟩ : Br) = r at *
  simp only
  split
  · rename_i he
    exact ⟨hr.1, fun h0 => absurd h0 he⟩
  · rename_i he
    split
    · exact ⟨hr.1, fun h0 => absurd (show (2 : Int) = 0 from h0) (by decide)⟩
    · rename_i hc
      rw [not_or, Classical.not_not, Classical.not_not] at hc
      exact ⟨hr.1, fun _ => end_done (hr.2 (by simpa using he)) hc.1 hc.2⟩
end
theorem pi0 : PI ⟨mc0, [topP], []⟩ := ⟨⟨trivial, rfl, fun x h => by cases h⟩, rfl, fun h => absurd h (by decide), fun h => absurd h (by decide), fun h => absurd h (by decide), rfl⟩
theorem end_len {s : Bs} {n : Nat} (hi : BInv s n) : (endB s).b.l.length ≤ 2 * (n + 1) := by
  have h : ∀ r : Br, BInv r.b (n + 1) → (if r.e ≠ 0 then r else if r.b.m.a ≠ 5 ∨ r.b.m.op ≠ [] then ⟨r.b, 2⟩ else ⟨r.b, 0⟩ : Br).b.l.length ≤ 2 * (n + 1) := by
    intro r hr
    split
    · exact hr.ln
    · split <;> exact hr.ln
  unfold endB
  simp only
  refine h _ ?_
  split
  · exact binv_endNum hi
  · exact binv_mono hi (by omega)
def brW : MachW brM where
  PI := PI
  tk := fun h => ⟨h.tk.ok, h.tk.run, h.tk.sz⟩
  pi0 := pi0
  step := fun b h hi => by
    have := po_step h hi b
    exact ⟨⟨this.1.ok, this.1.run, this.1.sz⟩, this.2⟩
  fin := fun h hi => by
    have := po_end h hi
    exact ⟨⟨this.1.ok, this.1.run, this.1.sz⟩, this.2⟩
  len := fun hi => end_len hi
end Go.Proofs.YtmimadkepflmlaaGreatDoor
namespace Go.Proofs.YtmimadkepflmlaaGreatDoor
open Go.RowKit Go.Maps
set_option maxRecDepth 100000
set_option linter.unusedSimpArgs false
set_option linter.unusedVariables false
set_option linter.unusedSectionVars false
variable [Tab] [Fo]

set_option maxHeartbeats 4000000 in
theorem walk_BraceWhole (v0 : Value) (bs : List UInt8) (_hlen : bs.length ≤ 140737488355328) (hcap : ∀ A n c, v0 = .slice A n c → n ≤ c) (w : World) (hw : Nm.StdW w) (hfl : Fo.lim ≤ w.heap.size) (h0 : BRead w v0 bs) :
    Calls Tryz.prog 3 #[v0] w fun e w' => e = .returned (.bool true) ∧ Below w.heap.size w w' := by
  obtain ⟨A, c, rfl, hA⟩ := h0
  have hF := few_B w A c bs ⟨A, c, rfl, hA⟩ (hcap _ _ _ rfl)
  clear hA
  go_enter Tryz.func3, Tryz.ntmps3
  go_wp2_with fail
  refine hF.mono ?_
  rintro e w' ⟨rfl, hR, rfl⟩
  have hts : (bs.take 600).length ≤ 600 := by rw [List.length_take]; omega
  generalize bs.take 600 = ts at *
  have hD := bdecode_any w _ ts (by omega) hR hw hfl
  obtain ⟨f0, f1, f2, f3, f4, f5⟩ := text_facts brW ts
  change (bEv ts).length ≤ 4 * ts.length + 2 at f0
  have HF0 := Lib.hid (show (bEv ts).length ≤ 4611686018427387904 by omega)
  clear f0
  change bRd ts ≤ ts.length at f1
  change bEr ts = 0 → bRd ts = ts.length at f2
  change ∀ x ∈ bEv ts, okE x at f3
  change wholeGo 0 [topP] (bEv ts) = ((bEv ts).length, if doneB (brM.st (closeBs (feedG (ss0 brM) ts))) then 0 else 19) at f4
  change bEr ts = 0 → doneB (brM.st (closeBs (feedG (ss0 brM) ts))) = true at f5
  generalize bEr ts = E at *
  generalize bRd ts = R at *
  generalize bEv ts = Zl at *
  generalize doneB (brM.st (closeBs (feedG (ss0 brM) ts))) = Zd at *
  have HF3 := Lib.hid f3
  have HF4 := Lib.hid f4
  have HD := Lib.hid hD
  clear hF f3 f4 hD
  obtain ⟨Lt, hLt⟩ : ∃ Lt, ts.length = Lt := ⟨_, rfl⟩
  obtain ⟨Ll, hLl⟩ : ∃ Ll, Zl.length = Ll := ⟨_, rfl⟩
  rw [hLt] at f1 f2 ⊢
  have HF1 := Lib.hid f1
  have HLl := Lib.hid hLl
  have HLt := Lib.hid hLt
  clear hLt hLl hts
  have hdd := HD.out
  rw [HLt.out] at hdd
  have HDD := Lib.hid hdd
  clear hdd HD
  go_wp2_with fail
  refine HDD.out.mono ?_
  rintro e w1 ⟨lv, rfl, hRow, hb1⟩
  have hRd := hRow.read
  have hW := ewhole_any w1 lv Zl hRd HF3.out (hw.below hb1) HF0.out (Nat.le_trans hfl hb1.size)
  rw [HF4.out, HLl.out] at hW
  unfold WEnd at hW
  obtain ⟨A2, c2, hlv, _, _, _⟩ := hRd
  rw [HLl.out] at hlv
  subst hlv
  have HB1 := Lib.hid hb1
  clear hRow hb1 HDD
  by_cases hE : E = 0
  · subst hE
    have hd : (if Zd then (0 : Int) else 19) = 0 := by rw [f5 rfl]; rfl
    have hr : R = Lt := f2 rfl
    subst hr
    simp only [hd] at hW
    have HW := Lib.hid hW
    clear hd hW f1 f2 f5
    go_wp2_with fail
    refine HW.out.mono ?_
    rintro e w3 ⟨rfl, hb3⟩
    have HB3 := Lib.hid (HB1.out.trans (hb3.mono HB1.out.size))
    have HL := Lib.hid (lives_B w3 (hw.below HB3.out) (Nat.le_trans hfl HB3.out.size))
    clear hb3 HW
    go_wp2_with fail
    refine HL.out.mono ?_
    rintro e w4 ⟨rfl, hb4⟩
    have HB4 := Lib.hid (HB3.out.trans (hb4.mono HB3.out.size))
    clear hb4
    go_wp2
    go_ret
    exact ⟨rfl, HB4.out⟩
  · have e0 : (E == 0) = false := by rw [beq_eq_false_iff_ne]; exact hE
    generalize (if Zd then (0 : Int) else 19) = D at *
    have HW := Lib.hid hW
    clear hW f1 f2 f5 hE
    go_wp2_with fail
    refine HW.out.mono ?_
    rintro e w3 ⟨rfl, hb3⟩
    have HB3 := Lib.hid (HB1.out.trans (hb3.mono HB1.out.size))
    have HL := Lib.hid (lives_B w3 (hw.below HB3.out) (Nat.le_trans hfl HB3.out.size))
    clear hb3 HW
    go_wp2_with fail
    refine HL.out.mono ?_
    rintro e w4 ⟨rfl, hb4⟩
    have HB4 := Lib.hid (HB3.out.trans (hb4.mono HB3.out.size))
    clear hb4
    go_wp2
    go_ret
    · exact ⟨rfl, HB4.out⟩
    all_goals exact absurd HF1.out (by assumption)
end Go.Proofs.YtmimadkepflmlaaGreatDoor
namespace Go.Proofs.YtmimadkepflmlaaGreatDoor
open Go.RowKit Go.ChangeShapes Go.WideShapes Go.Deep
set_option maxRecDepth 100000

theorem own : ownKnob Tryz.prog.godebug = none := by kernel_rfl
theorem laidOut : laidOutB Tryz.prog = true := by kernel_rfl
def laidL : List (String × DataW Unit) := Rows.braceWholeRow.laid
theorem laidL_eq : laidL = [("math/bits.deBruijn32tab", Rows.laid_math_bits_deBruijn32tab), ("math/bits.deBruijn64tab", Rows.laid_math_bits_deBruijn64tab), ("internal/strconv.uint64pow10", Rows.laid_internal_strconv_uint64pow10), ("unicode/utf8.acceptRanges", Rows.laid_unicode_utf8_acceptRanges), ("strconv.ErrRange", Rows.laid_strconv_ErrRange), ("strconv.ErrSyntax", Rows.laid_strconv_ErrSyntax), ("unicode/utf8.first", Rows.laid_unicode_utf8_first)] := rfl

theorem laid_met (os : Os) (args : Array Value) : laidMetH Tryz.prog laidL ((World.laidAll Tryz.prog os laidL).forCall (fun _ _ => 0) ⟨#[], args, []⟩).memory := by
  rw [MakeChecks.laidMetH_plain _ _ _ (by kernel_rfl)]
  exact laidMet_laidAll _ (by kernel_rfl) (by kernel_rfl)
theorem shapedW (os : Os) (args : Array Value) : ((World.laidAll Tryz.prog os laidL).forCall (fun _ _ => 0) ⟨#[], args, []⟩).Shaped Tryz.prog :=
  World.shaped_of_ZipB (by kernel_rfl) (by kernel_rfl)

theorem pow_data : (Rows.laid_internal_strconv_uint64pow10 : DataW Unit) = Lib.tabData .u64 Lib.pow10Tab := by kernel_rfl
theorem tPow : (Tryz.prog.globals[5]?).map (·.type) = some 164 := by kernel_rfl
theorem tRange : (Tryz.prog.globals[2]?).map (·.type) = some 129 := by kernel_rfl
theorem star : "*" ++ "errors.errorString" = "*errors.errorString" := by decide
theorem row_err (u : TypeId) (h : Tryz.prog.typeName? 3 u = some "*errors.errorString") : u = 168 :=
  typeName_ptr_named (nm := "errors.errorString") (by rw [star]; kernel_rfl) (by kernel_rfl) (by decide) u (by rw [star]; exact h)
/-- The table that the program's text lays. -/
@[reducible] def tab0 : Tab := ⟨Lib.pow10Tab, by unfold okTab; decide +kernel⟩
theorem std_of {W : World} (hL : laidMetH Tryz.prog laidL W) (hsh : W.ShapedOpen Tryz.prog) : @Nm.StdW tab0 W := by
  rw [MakeChecks.laidMetH_plain _ _ _ (by kernel_rfl), laidL_eq] at hL
  refine @Nm.StdW.mk tab0 W (Tryz.laysM145.s1_3 W hsh) ?_ ?_
  · have h5 := hL.tail.tail.tail.tail
    unfold Rows.laid_strconv_ErrRange at h5
    obtain ⟨a, s, h, _⟩ := laid_sentinel h5 Nm.gRange tRange Tryz.underlying129 row_err Tryz.underlying168 Tryz.underlying170 rfl rfl Tryz.underlying9 (by kernel_rfl) (by kernel_rfl)
    have hc := World.var?_cell Nm.gRange h 0
    exact ⟨_, by simpa using hc, .inr ⟨_, _, rfl⟩⟩
  · have h3 := hL.tail.tail
    rw [pow_data] at h3
    exact Lib.tabIs_of_head Nm.gPow tPow Tryz.underlying164 Tryz.underlying140 (by kernel_rfl) (by kernel_rfl) h3
end Go.Proofs.YtmimadkepflmlaaGreatDoor

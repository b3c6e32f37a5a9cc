/-
  The brace syntax: what was told is a run of the events' machine; when the end is OK it is a document. No program is read here.
  The laws of brace: lives, few.
-/
import Derived.Test.YthhhmgkkklopfaaGreatDoorBrZ34
import Derived.Test.YthhhmgkkklopfaaGreatDoorBrZ19
import Derived.Lib.SlBytesConst
namespace Go.Proofs.YthhhmgkkklopfaaGreatDoor
set_option maxRecDepth 100000
set_option linter.unusedSimpArgs false
set_option linter.unusedVariables false

/-- What was told is a run. -/
structure Tk (s : Bs) : Prop where
  ok : allOk [topP] s.l
  run : s.st = runS [topP] s.l
  sz : ∀ x ∈ s.l, okE x
structure PI (s : Bs) : Prop where
  tk : Tk s
  ln : s.st.length = s.m.op.length + 1
  ls : s.m.a = 5 → ∀ p r, s.st = p :: r → p.last ≠ 0
  k6 : s.m.a = 6 → s.m.ek = 1 ∨ s.m.ek = 2
  k8 : s.m.a = 8 → s.m.ek = 4 ∨ s.m.ek = 8
  ev : s.m.ev.size = 0
def PO (r : Br) : Prop := Tk r.b ∧ (r.e = 0 → PI r.b)
theorem okE_of {x : Ev} (hk : 0 ≤ x.k ∧ x.k ≤ 12) (ht : x.t.size ≤ 48) (hv : x.v.size = 0) : okE x := ⟨by omega, by omega, by omega, by omega⟩
theorem tk_tell {s : Bs} (h : Tk s) (M : Mc) {x : Ev} (hx : okE x) : Tk (tellB M s.st s.l x).b := by
  obtain ⟨m, st, l⟩ := s
  obtain ⟨h1, h2, h3⟩ := h
  simp only at h1 h2 h3
  subst h2
  unfold tellB tellL
  by_cases hz : stepE (runS [topP] l) x = 0
  · simp only [if_pos hz]
    refine ⟨(allOk_snoc _ _ _).2 ⟨h1, hz⟩, (runS_snoc _ _ _).symm, fun y hy => ?_⟩
    rcases List.mem_append.1 hy with hy | hy
    · exact h3 y hy
    · rw [List.mem_singleton.1 hy]; exact hx
  · simp only [if_neg hz]
    refine ⟨h1, ?_, h3⟩
    simp only [stepS, if_neg hz]
theorem stepS_scalar {st : List Pt} {x : Ev} (hz : stepE st x = 0) (hk : x.k = 1 ∨ x.k = 2 ∨ x.k = 3 ∨ x.k = 4 ∨ x.k = 8) : (stepS st x).length = st.length ∧ ∀ p r, stepS st x = p :: r → p.last ≠ 0 := by
  unfold stepS
  rw [if_pos hz]
  cases st with
  | nil => simp [stepE] at hz
  | cons p r =>
    have he : endsK x.k = false := by unfold endsK; rw [decide_eq_false_iff_not]; omega
    have ho : opensK x.k = false := by unfold opensK; rw [decide_eq_false_iff_not]; omega
    simp only [goS, he, ho, if_false, Bool.false_eq_true]
    split
    · refine ⟨by simp, fun p' r' h => ?_⟩
      injection h with h _
      rw [← h]
      simp only
      omega
    · refine ⟨by simp, fun p' r' h => ?_⟩
      injection h with h _
      rw [← h]
      simp only
      omega
theorem stepS_open {st : List Pt} {x : Ev} (hz : stepE st x = 0) (hk : x.k = 5 ∨ x.k = 7) : (stepS st x).length = st.length + 1 := by
  unfold stepS
  rw [if_pos hz]
  cases st with
  | nil => simp [stepE] at hz
  | cons p r =>
    have he : endsK x.k = false := by unfold endsK; rw [decide_eq_false_iff_not]; omega
    have ho : opensK x.k = true := by unfold opensK; rw [decide_eq_true_iff]; omega
    simp [goS, he, ho]
theorem stepS_end {st : List Pt} {x : Ev} (hg : Good st) (hz : stepE st x = 0) (hk : x.k = 6 ∨ x.k = 9) : (stepS st x).length + 1 = st.length ∧ ∀ p r, stepS st x = p :: r → p.last ≠ 0 := by
  obtain ⟨p, r, rfl⟩ := hg.ne
  obtain ⟨hf, hc⟩ := cont_of hz
  have he : endsK x.k = true := by unfold endsK; rw [decide_eq_true_iff]; omega
  unfold stepS
  rw [if_pos hz]
  simp only [goS, he, if_true]
  refine ⟨by simp, fun q r' h => ?_⟩
  subst h
  have := hg.1.2.1
  unfold opensK at this
  rw [decide_eq_true_iff] at this
  omega
section
variable {s : Bs} {n : Nat}
theorem po_err (h : Tk s) {e : Int} (he : e ≠ 0) : PO ⟨s, e⟩ := ⟨h, fun h0 => absurd h0 he⟩
/-- The machine turns, and nothing is told. -/
theorem po_turn (h : PI s) {r : Br} (hst : r.b.st = s.st) (hl : r.b.l = s.l) (hop : r.b.m.op = s.m.op) (ha : r.b.m.a = 5 → s.m.a = 5) (h6 : r.b.m.a = 6 → r.b.m.ek = 1 ∨ r.b.m.ek = 2) (h8 : r.b.m.a = 8 → r.b.m.ek = 4 ∨ r.b.m.ek = 8) (hv : r.b.m.ev.size = 0) : PO r := by
  have ht : Tk r.b := ⟨by rw [hl]; exact h.tk.ok, by rw [hst, hl]; exact h.tk.run, by rw [hl]; exact h.tk.sz⟩
  exact ⟨ht, fun _ => ⟨ht, by rw [hst, hop]; exact h.ln, fun h5 => by rw [hst]; exact h.ls (ha h5), h6, h8, hv⟩⟩
theorem po_scalar (h : PI s) (M : Mc) (x : Ev) (hop : M.op = s.m.op) (ha : M.a = 4 ∨ M.a = 5) (hv : M.ev.size = 0) (hk : x.k = 1 ∨ x.k = 2 ∨ x.k = 3 ∨ x.k = 4 ∨ x.k = 8) (ht : x.t.size ≤ 48) (hxv : x.v.size = 0) : PO (tellB M s.st s.l x) := by
  have htk := tk_tell h.tk M (okE_of (x := x) (by omega) ht hxv)
  refine ⟨htk, fun hz => ?_⟩
  obtain ⟨h1, h2⟩ := stepS_scalar (show stepE s.st x = 0 from hz) hk
  exact ⟨htk, by show (stepS s.st x).length = M.op.length + 1; rw [h1, hop]; exact h.ln, fun _ => h2, fun h6 => by have h6' : M.a = 6 := h6; omega, fun h8 => by have h8' : M.a = 8 := h8; omega, hv⟩
theorem po_finish (h : PI s) (hg : Good s.st) (hne : s.m.op ≠ []) : PO (finishB s) := by
  have htk : Tk (finishB s).b := tk_tell h.tk _ (okE_of (by simp only [bare]; split <;> omega) (by simp [bare, ByteArray.size]) (by simp [bare, ByteArray.size]))
  refine ⟨htk, fun hz => ?_⟩
  obtain ⟨h1, h2⟩ := stepS_end hg (show stepE s.st (bare (if (topB s.m.op).toNat = 125 then 9 else 6)) = 0 from hz) (by simp only [bare]; split <;> omega)
  refine ⟨htk, ?_, fun _ => h2, fun h6 => absurd h6 (by simp [finishB, tellB]), fun h8 => absurd h8 (by simp [finishB, tellB]), h.ev⟩
  show (stepS s.st _).length = s.m.op.dropLast.length + 1
  have := h.ln
  have hp : 0 < s.m.op.length := List.length_pos_iff.2 hne
  rw [List.length_dropLast]
  omega
theorem po_begin (h : PI s) (k : Int) (c : UInt8) (a : Int) (hk : k = 5 ∨ k = 7) (ha : a = 1 ∨ a = 2) : PO (beginB s k c a) := by
  have htk : Tk (beginB s k c a).b := tk_tell h.tk _ (okE_of (by simp only [bare]; omega) (by simp [bare, ByteArray.size]) (by simp [bare, ByteArray.size]))
  refine ⟨htk, fun hz => ?_⟩
  have h1 := stepS_open (show stepE s.st (bare k) = 0 from hz) hk
  refine ⟨htk, ?_, fun h5 => ?_, fun h6 => ?_, fun h8 => ?_, h.ev⟩
  · show (stepS s.st (bare k)).length = (s.m.op ++ [c]).length + 1
    rw [h1, h.ln]; simp
  all_goals
    first
      | (have h5' : a = 5 := h5; omega)
      | (have h6' : a = 6 := h6; omega)
      | (have h8' : a = 8 := h8; omega)
theorem po_letter (h : PI s) (hi : BInv s n) (h6 : s.m.a = 6) (b : UInt8) : PO (letterB s b) := by
  unfold letterB
  split
  · split
    · exact po_scalar h _ _ rfl (.inr rfl) h.ev (by rcases h.k6 h6 with e | e <;> simp only [e] <;> decide) hi.etl h.ev
    · exact po_turn h rfl rfl rfl (fun e => e) h.k6 h.k8 h.ev
  · exact po_err h.tk (by decide)
theorem po_char (h : PI s) (hi : BInv s n) (h8 : s.m.a = 8) (b : UInt8) : PO (charB s b) := by
  have hq := (Qt.qInv_step (b := (b.toNat : Int)) hi.qi).1
  unfold charB
  simp only
  split
  · exact po_turn h rfl rfl rfl (fun e => e) h.k6 h.k8 h.ev
  · refine po_scalar h _ _ rfl ?_ h.ev (by rcases h.k8 h8 with e | e <;> simp only [e] <;> decide) (by simpa [ByteArray.size] using hq) h.ev
    simp only
    split
    · exact .inl rfl
    · exact .inr rfl
theorem po_endNum (h : PI s) (hi : BInv s n) : PO (endNumB s) := by
  unfold endNumB
  split
  · exact po_err h.tk (by decide)
  · split
    · rename_i hne
      exact po_err h.tk hne
    · exact po_scalar h _ _ rfl (.inr rfl) h.ev (by simp) (readS_lim _) (by simp [ByteArray.size])
theorem po_word (h : PI s) (k : Int) (t r : ByteArray) (hk : k = 1 ∨ k = 2) : PO (wordB s k t r) := po_turn h rfl rfl rfl (by simp [wordB]) (fun _ => hk) (by simp [wordB]) rfl
theorem po_string (h : PI s) (k : Int) (hk : k = 4 ∨ k = 8) : PO (stringB s k) := po_turn h rfl rfl rfl (by simp [stringB]) (by simp [stringB]) (fun _ => hk) rfl
theorem po_value (h : PI s) (b : UInt8) : PO (valueB s b) := by
  unfold valueB
  repeat' split
  · exact po_begin h 5 93 1 (.inl rfl) (.inl rfl)
  · exact po_begin h 7 125 2 (.inr rfl) (.inr rfl)
  · exact po_string h 4 (.inl rfl)
  · exact po_word h 1 _ _ (.inl rfl)
  · exact po_word h 2 _ _ (.inr rfl)
  · exact po_word h 2 _ _ (.inr rfl)
  · exact po_err h.tk (by decide)
  · exact po_turn h rfl rfl rfl (by simp) (by simp) (by simp) h.ev
theorem po_a (h : PI s) (a : Int) (ha : a = 0 ∨ a = 3) : PO ⟨{ s with m := { s.m with a := a } }, 0⟩ :=
  po_turn h rfl rfl rfl (fun e => by have e' : a = 5 := e; omega) (fun e => by have e' : a = 6 := e; omega) (fun e => by have e' : a = 8 := e; omega) h.ev
theorem po_behind (h : PI s) (hi : BInv s n) (b : UInt8) : PO (behindB s b) := by
  unfold behindB
  split
  · exact po_err h.tk (by decide)
  · rename_i hne
    repeat' split
    · exact po_finish h hi.good hne
    · exact po_err h.tk (by decide)
    · exact po_a h 3 (.inr rfl)
    · exact po_a h 0 (.inl rfl)
theorem po_mark (h : PI s) (hi : BInv s n) (b : UInt8) : PO (markB s b) := by
  unfold markB
  split
  · exact po_a h 0 (.inl rfl)
  · split
    · rename_i hc
      exact po_finish h hi.good (hi.op1 (by omega))
    · repeat' split
      · exact po_string h 8 (.inr rfl)
      · exact po_value h b
      · exact po_behind h hi b
      · exact po_err h.tk (by decide)
theorem po_plain (h : PI s) (hi : BInv s n) (b : UInt8) : PO (plainB s b) := by
  unfold plainB
  split
  · exact ⟨h.tk, fun _ => h⟩
  · exact po_mark h hi b
theorem po_step (h : PI s) (hi : BInv s n) (b : UInt8) : PO (stepB s b) := by
  unfold stepB
  split
  · rename_i h6; exact po_letter h hi h6 b
  · split
    · rename_i h8; exact po_char h hi h8 b
    · split
      · split
        · unfold digitB
          split
          · exact po_err h.tk (by decide)
          · exact po_turn h rfl rfl rfl (fun e => e) h.k6 h.k8 h.ev
        · have hn := po_endNum h hi
          split
          · exact hn
          · rename_i he
            exact po_plain (hn.2 (by simpa using he)) (binv_endNum hi) b
      · exact po_plain h hi b
theorem end_done (h : PI s) (h5 : s.m.a = 5) (hop : s.m.op = []) : doneB s.st = true := by
  have hl := h.ln
  rw [hop] at hl
  match hst : s.st, hl with
  | [p], _ => simpa [doneB] using h.ls h5 p [] hst
theorem po_end (h : PI s) (hi : BInv s n) : Tk (endB s).b ∧ ((endB s).e = 0 → doneB (endB s).b.st = true) := by
  have hr : PO (if s.m.a = 7 then endNumB s else ⟨s, 0⟩) := by
    split
    · exact po_endNum h hi
    · exact ⟨h.tk, fun _ => h⟩
  unfold endB
  generalize (if s.m.a = 7 then endNumB s else ⟨s, 0⟩ : Br) = r at *
  simp only
  split
  · rename_i he
    exact ⟨hr.1, fun h0 => absurd h0 he⟩
  · rename_i he
    split
    · exact ⟨hr.1, fun h0 => absurd (show (2 : Int) = 0 from h0) (by decide)⟩
    · rename_i hc
      rw [not_or, Classical.not_not, Classical.not_not] at hc
      exact ⟨hr.1, fun _ => end_done (hr.2 (by simpa using he)) hc.1 hc.2⟩
end
theorem pi0 : PI ⟨mc0, [topP], []⟩ := ⟨⟨trivial, rfl, fun x h => by cases h⟩, rfl, fun h => absurd h (by decide), fun h => absurd h (by decide), fun h => absurd h (by decide), rfl⟩
structure FI (x : Ss) (k : Nat) : Prop where
  tk : Tk x.b
  pi : x.e = 0 → PI x.b
  rd : x.e = 0 → x.rd = k
theorem fi_feed1 {x : Ss} {k : Nat} (h : FI x k) (hi : SInv x k) (c : UInt8) : FI (feed1 x c) (k + 1) := by
  unfold feed1
  split
  · rename_i he; exact ⟨h.tk, fun h0 => absurd h0 he, fun h0 => absurd h0 he⟩
  · rename_i he
    have he' : x.e = 0 := by simpa using he
    split
    · have hp := po_step (h.pi he') hi.b c
      exact ⟨hp.1, hp.2, fun h0 => by have h0' : (stepB x.b c).e = 0 := h0; simp only [if_pos h0']; rw [h.rd he']⟩
    · exact ⟨h.tk, fun h0 => absurd (show (3 : Int) = 0 from h0) (by decide), fun h0 => absurd (show (3 : Int) = 0 from h0) (by decide)⟩
theorem fi_feedG : ∀ (l : List UInt8) (x : Ss) (k : Nat), FI x k → SInv x k → FI (feedG x l) (k + l.length)
  | [], _, _, h, _ => h
  | c :: l, x, k, h, hi => by
    have := fi_feedG l (feed1 x c) (k + 1) (fi_feed1 h hi c) (sinv_feed1 hi c)
    rw [feedG_cons, List.length_cons]
    rwa [show k + (l.length + 1) = k + 1 + l.length from by omega]
theorem fi0 : FI ss0 0 := ⟨pi0.tk, fun _ => pi0, fun _ => rfl⟩
theorem end_len {s : Bs} {n : Nat} (hi : BInv s n) : (endB s).b.l.length ≤ 2 * (n + 1) := by
  have h : ∀ r : Br, BInv r.b (n + 1) → (if r.e ≠ 0 then r else if r.b.m.a ≠ 5 ∨ r.b.m.op ≠ [] then ⟨r.b, 2⟩ else ⟨r.b, 0⟩ : Br).b.l.length ≤ 2 * (n + 1) := by
    intro r hr
    split
    · exact hr.ln
    · split <;> exact hr.ln
  unfold endB
  simp only
  refine h _ ?_
  split
  · exact binv_endNum hi
  · exact binv_mono hi (by omega)
/-- All of a text. -/
theorem text_facts (bs : List UInt8) : (closeBs (feedG ss0 bs)).l.length ≤ 4 * bs.length + 2 ∧ (feedG ss0 bs).rd ≤ bs.length ∧ (closeE (feedG ss0 bs) = 0 → (feedG ss0 bs).rd = bs.length)
    ∧ (∀ x ∈ (closeBs (feedG ss0 bs)).l, okE x)
    ∧ wholeGo 0 [topP] (closeBs (feedG ss0 bs)).l = ((closeBs (feedG ss0 bs)).l.length, if doneB (closeBs (feedG ss0 bs)).st then 0 else 19)
    ∧ (closeE (feedG ss0 bs) = 0 → doneB (closeBs (feedG ss0 bs)).st = true) := by
  have hf := fi_feedG bs ss0 0 fi0 sinv0
  have hs := sinv_feedG bs ss0 0 sinv0
  rw [Nat.zero_add] at hf hs
  generalize feedG ss0 bs = y at *
  have hE : Tk (closeBs y) ∧ (closeE y = 0 → y.e = 0 ∧ doneB (closeBs y).st = true) := by
    unfold closeE closeBs endE endBs
    by_cases he : y.e = 0
    · by_cases hz : y.sl = 0
      · simp only [he, hz, ne_eq, not_true_eq_false, if_false, if_true, true_and]
        have := po_end (hf.pi he) hs.b
        exact ⟨this.1, fun h => this.2 h⟩
      · simp only [he, hz, ne_eq, not_true_eq_false, if_false, true_and]
        exact ⟨hf.tk, fun h => absurd h (by decide)⟩
    · simp only [he, ne_eq, not_false_eq_true, if_true, false_and]
      exact ⟨hf.tk, fun h => h⟩
  have hlen : (closeBs y).l.length ≤ 4 * bs.length + 2 := by
    have h1 := end_len hs.b
    have h2 := hs.b.ln
    unfold closeBs endBs
    split
    · omega
    · split <;> omega
  refine ⟨hlen, hs.rd, fun h => hf.rd (hE.2 h).1, hE.1.sz, ?_, fun h => (hE.2 h).2⟩
  rw [whole_of hE.1.ok, ← hE.1.run]
end Go.Proofs.YthhhmgkkklopfaaGreatDoor
namespace Go.Proofs.YthhhmgkkklopfaaGreatDoor
open Go.RowKit Go.Maps
set_option maxRecDepth 100000
set_option linter.unusedSimpArgs false
set_option linter.unusedVariables false

def liveT : List UInt8 := [91, 49, 44, 32, 34, 97, 34, 93]
def liveL : List Ev := [⟨5, ⟨#[]⟩, ⟨#[]⟩⟩, ⟨3, ⟨#[49]⟩, ⟨#[]⟩⟩, ⟨4, ⟨#[97]⟩, ⟨#[]⟩⟩, ⟨6, ⟨#[]⟩, ⟨#[]⟩⟩]
theorem live_e : closeE (feedG ss0 liveT) = 0 := by kernel_rfl
theorem live_rd : (feedG ss0 liveT).rd = 8 := by kernel_rfl
theorem live_l : (closeBs (feedG ss0 liveT)).l = liveL := by kernel_rfl

set_option maxHeartbeats 4000000 in
theorem blives_any (w : World) (hw : Nm.StdW w) : Calls Tryz.prog 7 #[] w fun e w' => e = .returned (.bool true) ∧ Below w.heap.size w w' := by
  have al : Below w.heap.size w (w.alloc (.cells #[.int .u8 91, .int .u8 49, .int .u8 44, .int .u8 32, .int .u8 34, .int .u8 97, .int .u8 34, .int .u8 93] 5 (8, 9))) := (Below.refl _ _).alloc (Nat.le_refl _) _
  have hR : BRead (w.alloc (.cells #[.int .u8 91, .int .u8 49, .int .u8 44, .int .u8 32, .int .u8 34, .int .u8 97, .int .u8 34, .int .u8 93] 5 (8, 9))) (.slice (some ⟨w.heap.size, 0, none⟩) 8 8) liveT := by
    refine ⟨_, _, rfl, fun _ => ⟨_, rfl, fun j hj => ?_⟩⟩
    rw [addr_add0, World.cell?_alloc_mark]
    have hj' : j < 8 := hj
    match j, hj' with
    | 0, _ => rfl
    | 1, _ => rfl
    | 2, _ => rfl
    | 3, _ => rfl
    | 4, _ => rfl
    | 5, _ => rfl
    | 6, _ => rfl
    | 7, _ => rfl
  have hC := bdecode_any _ _ liveT (by decide) hR (hw.below al)
  unfold DEnd at hC
  rw [live_e, live_rd, live_l] at hC
  have hcv := Lib.run_convert_bytes_const (P := Tryz.prog) w 22 5 #[.int .u8 91, .int .u8 49, .int .u8 44, .int .u8 32, .int .u8 34, .int .u8 97, .int .u8 34, .int .u8 93] 8 8 Tryz.underlying22 Tryz.underlying5
  simp only [List.size_toArray, List.length_cons, List.length_nil, Nat.zero_add, Nat.reduceAdd] at hcv
  clear hR
  have HAL := Lib.hid al
  clear al
  go_enter Tryz.func7, Tryz.ntmps7
  go_wp2_with fail
  refine hC.mono ?_
  rintro e w1 ⟨lv, rfl, hRow, hb1⟩
  have HB := Lib.hid (HAL.out.trans (hb1.mono HAL.out.size))
  obtain ⟨A, c, hlv, _, _, hr⟩ := hRow.read
  obtain ⟨b, o, rfl, hcell⟩ := hr (by decide)
  have hlv' : lv = .slice (some ⟨b, o, none⟩) 4 c := hlv
  subst hlv'
  obtain ⟨x0, x1, x2⟩ := hcell 1 (by decide)
  obtain ⟨y0, y1, y2⟩ := hcell 2 (by decide)
  have x0' : w1.cell? ⟨b, o + 3, none⟩ = some (.int .i64 3) := x0
  have x1' : w1.cell? ⟨b, o + 4, none⟩ = some (.string ⟨#[49]⟩) := x1
  have x2' : w1.cell? ⟨b, o + 5, none⟩ = some (.string ⟨#[]⟩) := x2
  have y0' : w1.cell? ⟨b, o + 6, none⟩ = some (.int .i64 4) := y0
  have y1' : w1.cell? ⟨b, o + 7, none⟩ = some (.string ⟨#[97]⟩) := y1
  have y2' : w1.cell? ⟨b, o + 8, none⟩ = some (.string ⟨#[]⟩) := y2
  clear hRow hb1 hr hcell hlv x0 x1 x2 y0 y1 y2 hC hcv
  go_wp2
  go_ret
  exact ⟨rfl, HB.out⟩

theorem few_any (w : World) (A : Option Addr) (c : Nat) (bs : List UInt8) (hv : BRead w (.slice A bs.length c) bs) (hc : bs.length ≤ c) :
    Calls Tryz.prog 4 #[.slice A bs.length c] w fun e w' => ∃ v', e = .returned v' ∧ BRead w v' (bs.take 600) ∧ w = w' := by
  by_cases h6 : 600 < bs.length
  · obtain ⟨A', c', he, hr⟩ := hv
    injection he with e1 _ e3
    subst e1 e3
    obtain ⟨ad, rfl, hcell⟩ := hr (by omega)
    have hz : decide ((600 : Int) < (bs.length : Int)) = true := by simp; omega
    have hle : 600 ≤ c := by omega
    have HV : BRead w (.slice (some ad) 600 c) (bs.take 600) := by
      have hl : (bs.take 600).length = 600 := by rw [List.length_take]; omega
      refine ⟨some ad, c, by rw [hl], fun _ => ⟨ad, rfl, fun j hj => ?_⟩⟩
      rw [List.getElem_take]
      exact hcell j (by omega)
    have HR := Lib.hid HV
    clear hcell hr HV
    generalize bs.take 600 = ts at *
    go_enter Tryz.func4, Tryz.ntmps4
    go_wp2
    go_ret
    exact ⟨_, rfl, HR.out, rfl⟩
  · have hz : decide ((600 : Int) < (bs.length : Int)) = false := by simp; omega
    rw [List.take_of_length_le (by omega)]
    have HV := Lib.hid hv
    clear hv
    go_enter Tryz.func4, Tryz.ntmps4
    go_wp2
    go_ret
    exact ⟨_, rfl, HV.out, rfl⟩
end Go.Proofs.YthhhmgkkklopfaaGreatDoor

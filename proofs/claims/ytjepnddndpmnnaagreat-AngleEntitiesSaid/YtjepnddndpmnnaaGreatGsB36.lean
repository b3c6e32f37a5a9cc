/-
  angle: its machine as one that a Stream drives; Decode.
  Put's contract: the bytes of a character, or none.
  Quoted strings as plain functions on bytes: the machine of steps, its run, what is printed, and that it is read again. No program is read here.
  quote: the values of digits and letters, the map of escapes; a Quote is a block of four cells, and add, Text, endEscape turn it.
-/
import Derived.Test.YtjepnddndpmnnaaGreatGsB35
import Derived.Test.YtjepnddndpmnnaaGreatGsB18
import Derived.Test.YtjepnddndpmnnaaGreatGsB08
import Derived.Test.YtjepnddndpmnnaaGreatGsB01
import Derived.Test.YtjepnddndpmnnaaGreatGsB05
import Derived.Test.YtjepnddndpmnnaaGreatGsB11
import Derived.Maps.OwnSet
import Derived.Maps.OwnOps
namespace Go.Proofs.YtjepnddndpmnnaaGreat
open Go.RowKit Go.Maps
set_option maxRecDepth 100000
set_option linter.unusedSimpArgs false
set_option linter.unusedVariables false
set_option linter.unusedSectionVars false
set_option linter.unusedSectionVars false
variable [Tab] [Fo]

theorem ocrep_dn {w : World} {b b' g rb cap : Nat} {qs : List PQ} (h : CRep w b' g rb cap qs) (hb : b ≤ b') : CRep w b g rb cap qs := by
  refine ⟨Nat.le_trans hb h.hg, h.blk, ⟨h.row.1, ?_⟩, ?_, h.nf⟩
  · rcases h.row.2 with hn | ⟨g', cap', cur, hv, hg', hh, q⟩
    · exact .inl hn
    · exact .inr ⟨g', cap', cur, hv, Nat.le_trans hb hg', hh, q⟩
  · have : ∀ l : List PQ, MapsOk w b' l → MapsOk w b l := by
      intro l
      induction l with
      | nil => intro h; exact h
      | cons q r ih => intro h; exact ⟨fun c hc => ⟨⟨Nat.le_trans hb (h.1 c hc).1.1, (h.1 c hc).1.2⟩, (h.1 c hc).2⟩, h.2.1, ih h.2.2⟩
    exact this qs h.maps
theorem ooat_dn {w : World} {base b o ck : Nat} {st : List Pt} {l : List Ev} (h : OAt w b o ck st l) (hb : base ≤ b) : OAt w base o ck st l := by
  obtain ⟨⟨lv, hB, hR, hf⟩, ⟨rb, cap, qs, hq, hC⟩, hbo, ho⟩ := h
  exact ⟨⟨lv, hB, hR.low hb, hf⟩, ⟨rb, cap, qs, hq, ocrep_dn hC hb⟩, Nat.le_trans hb hbo, ho⟩
theorem maps_hi {fo f2 : Fo} {w : World} {b : Nat} (hT : ∀ k, b ≤ k → f2.F k → fo.F k) : ∀ {l : List PQ}, @MapsOk fo w b l → @MapsOk f2 w b l
  | [], _ => trivial
  | q :: r, h => ⟨fun k hk => ⟨⟨(h.1 k hk).1.1, fun hc => (h.1 k hk).1.2 (hT k (h.1 k hk).1.1 hc)⟩, (h.1 k hk).2⟩, h.2.1, maps_hi hT h.2.2⟩
/-- Where the new foreign blocks lie below. -/
theorem oat_hi {fo f2 : Fo} {w : World} {b o ck : Nat} {st : List Pt} {l : List Ev} (hT : ∀ k, b ≤ k → f2.F k → fo.F k) (hk : f2.tk = fo.tk) (hl : f2.lim ≤ w.heap.size) (h : @OAt fo w b o ck st l) : @OAt f2 w b o ck st l := by
  obtain ⟨⟨lv, hB, hR, hf⟩, ⟨rb, cap, qs, hq, hC⟩, hbo, ho⟩ := h
  obtain ⟨h1, h2, h3, h4, h5, h6, h7⟩ := hC
  have hrb : b ≤ rb := (World.ownsRow.lt h3 rb rfl).1
  exact @OAt.mk f2 w b o ck st l ⟨lv, hB, rowt_mv (f1 := fo) (f2 := f2) hk (fun k r hr _ _ => hr) hR hf, fun g hg hc => hf g hg (hT g (@RowT.lt _ fo _ _ _ _ hR g hg).1 hc)⟩ ⟨rb, cap, qs, hq, @CRep.mk f2 w b ck rb cap qs h1 h2 h3 (maps_hi hT h4) ⟨fun hc => h5 (hT ck h1 hc), fun hc => h6 (hT rb hrb hc), hl⟩⟩ hbo (fun hc => ho (hT o hbo hc))

theorem ss_no (r : Obj) (h : axO r) : ¬ ssObj r := by
  intro hc
  cases r with
  | cells cs t fr =>
    simp only [ssObj] at hc
    rcases h with (h | h | h) | h
    · simp only [tObj] at h; rcases hc with rfl | rfl <;> exact absurd h (by decide)
    · simp only [Ns.sObj] at h; rcases hc with rfl | rfl <;> exact absurd h (by decide)
    · simp only [entO] at h; rcases hc with rfl | rfl <;> exact absurd h (by decide)
    · simp only [agO] at h; rcases hc with rfl | rfl <;> exact absurd h (by decide)
  | map es c => exact hc
  | _ => exact hc
theorem AX.start [fo : Fo] {w0 w : World} {base b2 m o ck : Nat} (h : araw w0 base m) (hb0 : base ≤ w0.heap.size) (hb : Below w0.heap.size w0 w) (h1 : w0.heap.size ≤ b2) (ho : OAt w b2 o ck [topP] []) : ∃ e mb g, AX w base m o ck e mb g as0 := by
  obtain ⟨e, mb, g, av, ov, S, k1, k2⟩ := h
  have hz := hb.size
  have hA := k2.keep (w' := w) hz fun k q _ hq => (hb.block k (heap_lt hq)).trans hq
  have hlim : fo.lim ≤ w.heap.size := Nat.le_trans k1.lim hz
  refine ⟨e, mb, g, ⟨av, ov, k1.below hb⟩, S, ⟨hA, hlim, @ooat_dn _ (fo.pl S w.heap.size hlim hA.lt) _ _ _ _ _ _ _ (oat_hi (fo := fo) (f2 := fo.pl S w.heap.size hlim hA.lt) (fun k hk hc => ?_) rfl (Nat.le_refl _) ho) (Nat.le_trans hb0 h1)⟩⟩
  rcases hc with hc | hc
  · exact hc
  · have := k2.lt k hc; omega
theorem AX.out [fo : Fo] {w : World} {base m o ck e mb g : Nat} {s : As} (h : AX w base m o ck e mb g s) : OAt w base o ck s.st s.l := by
  obtain ⟨S, hX⟩ := h.xo
  exact oat_fo (f1 := fo.pl S w.heap.size hX.lim hX.x.lt) (f2 := fo) (fun k _ hc => .inl hc) rfl (Below.refl _ _) hX.lim hX.out
theorem AX.ssT {w w' : World} {base m o ck e mb g : Nat} {s : As} (h : AX w base m o ck e mb g s) (ht : Tch base ssObj w w') : AX w' base m o ck e mb g s := by
  obtain ⟨av, ov, hM⟩ := h.mc
  obtain ⟨S, hX⟩ := h.xo
  exact ⟨⟨av, ov, hM.tch ht (fun cs t fr hh hc => ss_no (.cells cs t fr) (.inr (by simpa only [agO] using hh)) hc)⟩, S, hX.tch ht (fun r hr => ss_no r (.inl hr))⟩
theorem APo.fr {w w' : World} {base B m o ck e mb g : Nat} {r : Ar} {E : Ending} (h : APo w base m o ck e mb g r E w') (hb : base ≤ w.heap.size) : E = .returned (.int .i64 r.e) ∧ AX w' base m o ck e mb g r.b ∧ FrG axO base B w w' :=
  ⟨h.1, h.2.1, FrG.of_tch h.2.2 hb⟩
@[reducible] def agM : Mach where
  toMachP := agP
  T := 48
  fs := 103
  fe := 102
  hms := fun a w => by kernel_rfl
  hme := fun a w => by kernel_rfl
  efs := fun args w => enters_of Tryz.func103 (by kernel_rfl) rfl args w
  efe := fun args w => enters_of Tryz.func102 (by kernel_rfl) rfl args w
  num := False
  raw := araw
  At := fun w base _ m o ck s => ∃ e mb g, AX w base m o ck e mb g s
  obj := axO
  nss := fun cs t fr h hc => ss_no _ hc (by simpa only [ssObj] using h)
  raw_below := fun h hb => h.below hb
  raw_lim := fun h => by obtain ⟨_, _, _, _, _, _, h1, _⟩ := h; exact h1.lim
  start := fun h hb0 hb h1 h2 ho => AX.start h hb0 hb h1 ho
  out := fun h => by obtain ⟨_, _, _, h⟩ := h; exact h.out
  ss := fun h ht _ => by obtain ⟨e, mb, g, h⟩ := h; exact ⟨e, mb, g, h.ssT ht⟩
  step_any := fun w base B m o ck s b n h hi hn _ hw hb => by
    obtain ⟨e, mb, g, h⟩ := h
    refine (astep_any b h (hi.pre hn) hi.m.a0).mono fun E w' hp => ?_
    obtain ⟨h1, h2, h3⟩ := APo.fr (B := B) hp hb
    exact ⟨h1, ⟨e, mb, g, h2⟩, h3⟩
  end_any := fun w base B m o ck s n h hi hn hw hb => by
    obtain ⟨e, mb, g, h⟩ := h
    refine (amend_any h).mono fun E w' hp => ?_
    obtain ⟨h1, h2, h3⟩ := APo.fr (B := B) hp hb
    exact ⟨h1, h2.out, h3⟩

set_option maxHeartbeats 4000000 in
theorem adecode_any0 (w : World) (v : Value) (bs : List UInt8) (hn : bs.length ≤ 50000) (hv : BRead w v bs) (hfl : Fo.lim ≤ w.heap.size) (htk : Fo.tk = none) :
    Calls Tryz.prog 9 #[v] w fun e w' => ∃ lv, e = .returned (.tuple #[lv, .int .i64 (aEr bs), .int .i64 (aRd bs : Int)]) ∧ ERow w' w.heap.size lv (aEv bs) ∧ Below w.heap.size w w' := by
  have hC : ∀ w1 m, araw w1 w.heap.size m → Below w.heap.size w w1 → Calls Tryz.prog 18 #[.iface 48 (.pointer (some ⟨m, 0, none⟩)), v] w1 fun e w' => ∃ lv, e = .returned (.tuple #[lv, .int .i64 (aEr bs), .int .i64 (aRd bs : Int)]) ∧ ERow w' w.heap.size lv (aEv bs) ∧ Below w.heap.size w1 w' := fun w1 m hM hb =>
    sdecode_any (M := agM) w1 w.heap.size m v bs hM htk hb.size hn (fun w' h => hv.below (hb.trans h)) (fun h => h.elim)
  have hP := agnew_any w hfl
  generalize aEr bs = E at *
  obtain ⟨R, hR⟩ : ∃ R, (aRd bs : Int) = R := ⟨_, rfl⟩
  rw [hR] at hC ⊢
  generalize aEv bs = L at *
  have HC := Lib.hid hC
  clear hC hv hR
  go_enter Tryz.func9, Tryz.ntmps9
  go_wp2_with fail
  refine hP.mono ?_
  rintro e w0 ⟨m, rfl, hM, hb0⟩
  have HD := Lib.hid (HC.out w0 m hM hb0)
  have HB0 := Lib.hid hb0
  clear hM hb0 HC hP
  go_wp2_with fail
  refine HD.out.mono ?_
  rintro e w1 ⟨lv, rfl, hRow, hb1⟩
  have HR := Lib.hid hRow
  have HB := Lib.hid (HB0.out.trans hb1)
  clear hRow hb1 HD HB0
  go_wp2
  go_ret3
  exact ⟨lv, rfl, HR.out, HB.out⟩
theorem adecode_any (w : World) (v : Value) (bs : List UInt8) (hn : bs.length ≤ 50000) (hv : BRead w v bs) (hfl : Fo.lim ≤ w.heap.size) :
    Calls Tryz.prog 9 #[v] w fun e w' => ∃ lv, e = .returned (.tuple #[lv, .int .i64 (aEr bs), .int .i64 (aRd bs : Int)]) ∧ ERow w' w.heap.size lv (aEv bs) ∧ Below w.heap.size w w' :=
  @adecode_any0 _ (Fo.nt inferInstance) w v bs hn hv hfl rfl
end Go.Proofs.YtjepnddndpmnnaaGreat
namespace Go.Proofs.YtjepnddndpmnnaaGreat
open Go.RowKit
set_option maxRecDepth 100000
theorem bV_b8 (n : Int) (h0 : 0 ≤ n) (h1 : n < 256) : bV (b8 n) = .int .u8 n := (bV_of n h0 h1).symm
theorem put_str {w : World} {base : Nat} {v : Value} (l : List UInt8) (h : ORow w base 5 v (l.map bV)) : (convert 22 9 v).run Tryz.prog w = .ok (.string ⟨l.toArray⟩) w :=
  run_string_of_row _ _ l Tryz.underlying22 Tryz.underlying5 Tryz.underlying9 h

def putS (r : Int) : ByteArray := if mayB r then ⟨(putL r).toArray⟩ else ⟨#[]⟩
end Go.Proofs.YtjepnddndpmnnaaGreat
namespace Go.Proofs.YtjepnddndpmnnaaGreat.Qt
set_option maxRecDepth 8000

/-- What was said so far; what the next byte may be (0: anything, 1: behind a stroke, 2: a digit, 3: nothing); of digits how many there were, and their number. -/
structure QS where
  xs : List UInt8
  st : Int
  d : Int
  n : Int
structure QR where
  done : Bool
  e : Int
  q : QS

def escI (b : Int) : Int := if b = 34 ∨ b = 92 ∨ b = 47 then b else if b = 110 then 10 else if b = 116 then 9 else if b = 114 then 13 else if b = 98 then 8 else if b = 102 then 12 else -1
def hexI (b : Int) : Int := if 48 ≤ b ∧ b ≤ 57 then b - 48 else if 97 ≤ b ∧ b ≤ 102 then b - 97 + 10 else if 65 ≤ b ∧ b ≤ 70 then b - 65 + 10 else -1
def plainQ (xs : List UInt8) : QS := ⟨xs, 0, 0, 0⟩
def qAdd (q : QS) (ch : List UInt8) : QR := if 48 < q.xs.length + ch.length then ⟨false, 4, q⟩ else ⟨false, 0, plainQ (q.xs ++ ch)⟩
def qLetter (q : QS) (b : Int) : QR := if b = 117 then ⟨false, 0, ⟨q.xs, 2, 0, 0⟩⟩ else if escI b < 0 then ⟨false, 9, q⟩ else qAdd q [b8 (escI b)]
def qDigit (q : QS) (b : Int) : QR :=
  if hexI b < 0 then ⟨false, 9, q⟩ else if q.d < 3 then ⟨false, 0, ⟨q.xs, 2, q.d + 1, q.n * 16 + hexI b⟩⟩
  else if mayB (q.n * 16 + hexI b) = true then qAdd q (putL (q.n * 16 + hexI b)) else ⟨false, 9, q⟩
def qPlain (q : QS) (b : Int) : QR :=
  if b < 32 then ⟨false, 2, q⟩ else if b = 34 then ⟨true, 0, ⟨q.xs, 3, 0, 0⟩⟩ else if b = 92 then ⟨false, 0, ⟨q.xs, 1, 0, 0⟩⟩ else qAdd q [b8 b]
def qStep (q : QS) (b : Int) : QR := if q.st = 1 then qLetter q b else if q.st = 2 then qDigit q b else if q.st = 3 then ⟨false, 2, q⟩ else qPlain q b

def QInv (q : QS) : Prop := q.xs.length ≤ 48 ∧ (q.st = 0 ∨ q.st = 1 ∨ q.st = 3 ∨ (q.st = 2 ∧ 0 ≤ q.n ∧ ((q.d = 0 ∧ q.n = 0) ∨ (q.d = 1 ∧ q.n < 16) ∨ (q.d = 2 ∧ q.n < 256) ∨ (q.d = 3 ∧ q.n < 4096))))

theorem hexI_lt (b : Int) : hexI b < 16 := by unfold hexI; repeat' split <;> omega
theorem escI_lt (b : Int) : escI b < 256 := by unfold escI; repeat' split <;> omega
theorem qInv0 : QInv (plainQ []) := ⟨by simp [plainQ], .inl rfl⟩
theorem qInv_plain {xs : List UInt8} (h : xs.length ≤ 48) : QInv (plainQ xs) := ⟨h, .inl rfl⟩
theorem qInv_add {q : QS} {ch : List UInt8} (h : QInv q) : QInv (qAdd q ch).q := by
  unfold qAdd
  split
  · exact h
  · exact qInv_plain (by simp; omega)
theorem qInv_step {q : QS} {b : Int} (h : QInv q) : QInv (qStep q b).q := by
  unfold qStep
  split
  · unfold qLetter
    split
    · exact ⟨h.1, .inr (.inr (.inr ⟨rfl, by simp, .inl ⟨rfl, rfl⟩⟩))⟩
    · split
      · exact h
      · exact qInv_add h
  · split
    · unfold qDigit
      have := hexI_lt b
      rename_i h2
      obtain ⟨hl, hs⟩ := h
      split
      · exact ⟨hl, hs⟩
      · split
        · refine ⟨hl, .inr (.inr (.inr ⟨rfl, ?_⟩))⟩
          simp only
          omega
        · split
          · exact qInv_add ⟨hl, hs⟩
          · exact ⟨hl, hs⟩
    · split
      · exact h
      · unfold qPlain
        split
        · exact h
        · split
          · exact ⟨h.1, .inr (.inr (.inl rfl))⟩
          · split
            · exact ⟨h.1, .inr (.inl rfl)⟩
            · exact qInv_add h

/-- How a run ends: what was said, how many bytes were taken, whether the last was the last quote, an error. -/
structure QE where
  text : List UInt8
  n : Nat
  done : Bool
  e : Int

def qRun : QS → Nat → List UInt8 → QE
  | q, i, [] => ⟨q.xs, i, false, 0⟩
  | q, i, b :: t => if (qStep q (b.toNat : Int)).done = true ∨ (qStep q (b.toNat : Int)).e ≠ 0 then ⟨(qStep q (b.toNat : Int)).q.xs, i, (qStep q (b.toNat : Int)).done, (qStep q (b.toNat : Int)).e⟩ else qRun (qStep q (b.toNat : Int)).q (i + 1) t
def qAll (l : List UInt8) : QE := qRun (plainQ []) 0 l

theorem qRun_on {q q' : QS} {i : Nat} {b : UInt8} {t : List UInt8} (h : qStep q (b.toNat : Int) = ⟨false, 0, q'⟩) : qRun q i (b :: t) = qRun q' (i + 1) t := by
  rw [qRun, h]; simp
theorem qRun_done {q q' : QS} {i : Nat} {b : UInt8} {t : List UInt8} (h : qStep q (b.toNat : Int) = ⟨true, 0, q'⟩) : qRun q i (b :: t) = ⟨q'.xs, i, true, 0⟩ := by
  rw [qRun, h]; simp
theorem qRun_err {q q' : QS} {i : Nat} {b : UInt8} {t : List UInt8} {d : Bool} {e : Int} (h : qStep q (b.toNat : Int) = ⟨d, e, q'⟩) (he : e ≠ 0) : qRun q i (b :: t) = ⟨q'.xs, i, d, e⟩ := by
  rw [qRun, h]; simp [he]

theorem qAdd_ok {q : QS} {ch : List UInt8} (h : q.xs.length + ch.length ≤ 48) : qAdd q ch = ⟨false, 0, plainQ (q.xs ++ ch)⟩ := by unfold qAdd; rw [if_neg (by omega)]

/-! What is printed. -/
def hexD (n : Int) : Int := if n < 10 then 48 + n else 87 + n
def prB (b : UInt8) : List UInt8 :=
  if (b.toNat : Int) = 34 ∨ (b.toNat : Int) = 92 then [92, b] else if (b.toNat : Int) = 10 then [92, 110] else if (b.toNat : Int) = 9 then [92, 116] else if (b.toNat : Int) = 13 then [92, 114]
  else if (b.toNat : Int) < 32 then [92, 117, 48, 48, b8 (hexD (b.toNat / 16)), b8 (hexD (b.toNat % 16))] else [b]
def prAll (l : List UInt8) : List UInt8 := l.flatMap prB
def printL (l : List UInt8) : List UInt8 := 34 :: (prAll l ++ [34])

theorem hexI_hexD (n : Int) (h0 : 0 ≤ n) (h1 : n < 16) : hexI (hexD n) = n := by
  unfold hexD
  split
  · unfold hexI; rw [if_pos (by omega)]; omega
  · unfold hexI; rw [if_neg (by omega), if_pos (by omega)]; omega
theorem hexD_rg (n : Int) (h0 : 0 ≤ n) (h1 : n < 16) : 0 ≤ hexD n ∧ hexD n < 256 := by unfold hexD; split <;> omega

theorem b8_of (b : UInt8) : b8 (b.toNat : Int) = b := by unfold b8; simp
theorem prB_len (b : UInt8) : 1 ≤ (prB b).length ∧ (prB b).length ≤ 6 := by
  unfold prB
  repeat' split
  all_goals simp

theorem step_stroke (xs : List UInt8) : qStep (plainQ xs) 92 = ⟨false, 0, ⟨xs, 1, 0, 0⟩⟩ := rfl
theorem step_u (xs : List UInt8) : qStep ⟨xs, 1, 0, 0⟩ 117 = ⟨false, 0, ⟨xs, 2, 0, 0⟩⟩ := rfl
theorem step_letter (xs : List UInt8) (b : Int) (h : b ≠ 117) (he : 0 ≤ escI b) (hl : xs.length + 1 ≤ 48) : qStep ⟨xs, 1, 0, 0⟩ b = ⟨false, 0, plainQ (xs ++ [b8 (escI b)])⟩ := by
  show qLetter _ b = _
  unfold qLetter
  rw [if_neg h, if_neg (by omega)]
  exact qAdd_ok (by simpa using hl)
theorem step_digit (xs : List UInt8) (d n v : Int) (h0 : 0 ≤ v) (h1 : v < 16) (hd : d < 3) : qStep ⟨xs, 2, d, n⟩ (hexD v) = ⟨false, 0, ⟨xs, 2, d + 1, n * 16 + v⟩⟩ := by
  show qDigit _ _ = _
  unfold qDigit
  rw [hexI_hexD v h0 h1, if_neg (by omega), if_pos hd]
theorem step_last (xs : List UInt8) (n v : Int) (h0 : 0 ≤ v) (h1 : v < 16) (hm : mayB (n * 16 + v) = true) (hl : xs.length + (putL (n * 16 + v)).length ≤ 48) : qStep ⟨xs, 2, 3, n⟩ (hexD v) = ⟨false, 0, plainQ (xs ++ putL (n * 16 + v))⟩ := by
  show qDigit _ _ = _
  unfold qDigit
  rw [hexI_hexD v h0 h1, if_neg (by omega), if_neg (show ¬ (3 : Int) < 3 by omega), if_pos hm]
  exact qAdd_ok hl
theorem step_char (xs : List UInt8) (b : Int) (h : 32 ≤ b) (h1 : b ≠ 34) (h2 : b ≠ 92) (hl : xs.length + 1 ≤ 48) : qStep (plainQ xs) b = ⟨false, 0, plainQ (xs ++ [b8 b])⟩ := by
  show qPlain _ b = _
  unfold qPlain
  rw [if_neg (by omega), if_neg h1, if_neg h2]
  exact qAdd_ok (by simpa [plainQ] using hl)

theorem run_pr (xs : List UInt8) (b : UInt8) (i : Nat) (rest : List UInt8) (hl : xs.length + 1 ≤ 48) : qRun (plainQ xs) i (prB b ++ rest) = qRun (plainQ (xs ++ [b])) (i + (prB b).length) rest := by
  have hb := byte_le b
  unfold prB
  split
  · rename_i h
    have e : escI (b.toNat : Int) = b.toNat := by unfold escI; rw [if_pos (by omega)]
    have s2 := step_letter xs (b.toNat : Int) (by omega) (by omega) hl
    rw [e, b8_of] at s2
    simp only [List.cons_append, List.nil_append]
    rw [qRun_on (b := 92) (step_stroke xs), qRun_on s2]
    rfl
  · split
    · rename_i h
      have s2 := step_letter xs 110 (by decide) (by decide) hl
      rw [show escI 110 = (b.toNat : Int) from by rw [h]; rfl, b8_of] at s2
      simp only [List.cons_append, List.nil_append]
      rw [qRun_on (b := 92) (step_stroke xs), qRun_on (b := 110) s2]
      rfl
    · split
      · rename_i h
        have s2 := step_letter xs 116 (by decide) (by decide) hl
        rw [show escI 116 = (b.toNat : Int) from by rw [h]; rfl, b8_of] at s2
        simp only [List.cons_append, List.nil_append]
        rw [qRun_on (b := 92) (step_stroke xs), qRun_on (b := 116) s2]
        rfl
      · split
        · rename_i h
          have s2 := step_letter xs 114 (by decide) (by decide) hl
          rw [show escI 114 = (b.toNat : Int) from by rw [h]; rfl, b8_of] at s2
          simp only [List.cons_append, List.nil_append]
          rw [qRun_on (b := 92) (step_stroke xs), qRun_on (b := 114) s2]
          rfl
        · split
          · rename_i h
            have q0 : 0 ≤ (b.toNat : Int) / 16 ∧ (b.toNat : Int) / 16 < 16 := by omega
            have q1 : 0 ≤ (b.toNat : Int) % 16 ∧ (b.toNat : Int) % 16 < 16 := by omega
            have r0 := hexD_rg _ q0.1 q0.2
            have r1 := hexD_rg _ q1.1 q1.2
            have s3 : qStep ⟨xs, 2, 0, 0⟩ 48 = ⟨false, 0, ⟨xs, 2, 1, 0⟩⟩ := step_digit xs 0 0 0 (by decide) (by decide) (by decide)
            have s4 : qStep ⟨xs, 2, 1, 0⟩ 48 = ⟨false, 0, ⟨xs, 2, 2, 0⟩⟩ := step_digit xs 1 0 0 (by decide) (by decide) (by decide)
            have s5 : qStep ⟨xs, 2, 2, 0⟩ (hexD ((b.toNat : Int) / 16)) = ⟨false, 0, ⟨xs, 2, 3, 0 * 16 + (b.toNat : Int) / 16⟩⟩ := step_digit xs 2 0 _ q0.1 q0.2 (by decide)
            have hv : (0 * 16 + (b.toNat : Int) / 16) * 16 + (b.toNat : Int) % 16 = b.toNat := by omega
            have hp : putL (b.toNat : Int) = [b] := by unfold putL; rw [if_pos (by omega), b8_of]
            have s6 := step_last xs (0 * 16 + (b.toNat : Int) / 16) _ q1.1 q1.2 (by rw [hv]; unfold mayB; rw [decide_eq_true_iff]; omega) (by rw [hv, hp]; exact hl)
            rw [hv, hp] at s6
            rw [← b8_nat _ r0.1 r0.2] at s5
            rw [← b8_nat _ r1.1 r1.2] at s6
            simp only [List.cons_append, List.nil_append]
            rw [qRun_on (b := 92) (step_stroke xs), qRun_on (b := 117) (step_u xs), qRun_on (b := 48) s3, qRun_on (b := 48) s4, qRun_on s5, qRun_on s6]
            rfl
          · have s1 := step_char xs (b.toNat : Int) (by omega) (by omega) (by omega) hl
            rw [b8_of] at s1
            simp only [List.cons_append, List.nil_append]
            rw [qRun_on s1]
            rfl

theorem run_prAll (l : List UInt8) : ∀ (xs : List UInt8) (i : Nat) (rest : List UInt8), xs.length + l.length ≤ 48 → qRun (plainQ xs) i (prAll l ++ rest) = qRun (plainQ (xs ++ l)) (i + (prAll l).length) rest := by
  induction l with
  | nil => intro xs i rest _; simp [prAll]
  | cons b t ih =>
    intro xs i rest h
    simp only [List.length_cons] at h
    have e : prAll (b :: t) = prB b ++ prAll t := by simp [prAll]
    rw [e, List.append_assoc, run_pr xs b i _ (by omega), ih (xs ++ [b]) _ rest (by simp; omega)]
    simp only [List.append_assoc, List.cons_append, List.nil_append, List.length_append, Nat.add_assoc]

theorem quote_step (xs : List UInt8) : qStep (plainQ xs) 34 = ⟨true, 0, ⟨xs, 3, 0, 0⟩⟩ := rfl
/-- What is printed says what it was made of, and ends just at its last byte. -/
theorem all_print (l : List UInt8) (h : l.length ≤ 48) : qAll ((printL l).drop 1) = ⟨l, (printL l).length - 2, true, 0⟩ := by
  unfold qAll printL
  rw [List.drop_succ_cons, List.drop_zero, run_prAll l [] 0 [34] (by simpa using h)]
  rw [qRun_done (b := 34) (quote_step _)]
  simp
theorem print_inj {a b : List UInt8} (ha : a.length ≤ 48) (hb : b.length ≤ 48) (h : printL a = printL b) : a = b := by
  have e1 := all_print a ha
  have e2 := all_print b hb
  rw [h, e2] at e1
  injection e1 with e1
  exact e1.symm
theorem prAll_len (l : List UInt8) : l.length ≤ (prAll l).length ∧ (prAll l).length ≤ 6 * l.length := by
  induction l with
  | nil => simp [prAll]
  | cons b t ih =>
    have e : prAll (b :: t) = prB b ++ prAll t := by simp [prAll]
    have := prB_len b
    rw [e, List.length_append, List.length_cons]
    omega
theorem prAll_snoc (l : List UInt8) (b : UInt8) : prAll (l ++ [b]) = prAll l ++ prB b := by simp [prAll]
theorem printL_len (l : List UInt8) : (printL l).length = (prAll l).length + 2 := by simp [printL]
end Go.Proofs.YtjepnddndpmnnaaGreat.Qt
namespace Go.Proofs.YtjepnddndpmnnaaGreat.Qt
open Go.RowKit Go.Maps
set_option maxRecDepth 100000
set_option linter.unusedSectionVars false
variable [Fo]

section
variable {P : Program} {w : World}
/-- Elements appended that lie somewhere. -/
theorem wp_appS {ops : Array Oper} {rest : List Oper} {o : Oper} {a : Act} {Q : Exit → Act → World → Prop} (hgd : o.guard = none) (s x : Operand) (t : TypeId)
    (ho : o.op = .call { callee := .builtin .append, args := #[s, x], argTypes := #[t, t] })
    (base : Nat) (e : TypeId) (z : Value) (bytes : Nat) (ht : P.underlying t = some (.slice e)) (hinfo : (P.info? e).map (fun i => (i.zero, i.size, i.bytes)) = some (some z, 1, bytes)) (hz1 : z.cells.size = 1)
    (v : Value) (xs news : List Value) (hs : a.eval s = v) (hown : ORow w base e v xs) (hu : ∀ u ∈ news, u.oneCell' = true)
    (A : Addr) (m c : Nat) (hm : news.length = m) (hx : a.eval x = .slice (some A) m c) (hc : ∀ j u, news[j]? = some u → w.cell? (A.add j) = some u)
    (h63 : xs.length + m ≤ maxLen) (hbytes : (xs.length + m) * bytes ≤ 140737488355328) (hbase : base ≤ w.heap.size)
    (h : ∀ v' w', ORow w' base e v' (xs ++ news) → Below base w w' → wpList P ops Q rest (a.put o.dst v') w') :
    wpList P ops Q (o :: rest) a w := by
  obtain ⟨i, hi, hz, hsize, hby⟩ := info_parts hinfo
  refine wpList_plain hgd fun K hK => ?_
  obtain ⟨v', w', hrun, h2, h3, _, h5⟩ := run_append_own_at (P := P) w base t o.type e i z 1 bytes ht hi hz hsize hby hz1 (by decide) v xs.length xs hown
    A m c news (by simp [hm]) hc hu h63 hbytes hbase
  unfold Oper.wp execOp
  simp only [ho, resolve, invoke, builtin, Sem.run_bind, Sem.run_pure, Result.andThen_ok, List.map_toArray, List.map_cons, List.map_nil, hs, hx, hrun]
  refine hK _ _ (h v' w' ?_ ?_)
  · unfold ORow
    rw [List.length_append, hm]
    exact h2
  · refine ⟨h3.os, h3.tape, h3.output, h3.size, fun k hk => h3.block k (by omega) fun hcc => ?_⟩
    have := World.ownsRow.lt hown k hcc.symm
    omega
end
section
variable {P : Program} {w : World}
/-- Elements appended that lie somewhere: which block has turned, and where the row lies then. -/
theorem wp_appSg {ops : Array Oper} {rest : List Oper} {o : Oper} {a : Act} {Q : Exit → Act → World → Prop} (hgd : o.guard = none) (s x : Operand) (t : TypeId)
    (ho : o.op = .call { callee := .builtin .append, args := #[s, x], argTypes := #[t, t] })
    (base : Nat) (e : TypeId) (z : Value) (bytes : Nat) (ht : P.underlying t = some (.slice e)) (hinfo : (P.info? e).map (fun i => (i.zero, i.size, i.bytes)) = some (some z, 1, bytes)) (hz1 : z.cells.size = 1)
    (v : Value) (xs news : List Value) (hs : a.eval s = v) (hown : ORow w base e v xs) (hu : ∀ u ∈ news, u.oneCell' = true)
    (A : Addr) (m c : Nat) (hm : news.length = m) (hx : a.eval x = .slice (some A) m c) (hc : ∀ j u, news[j]? = some u → w.cell? (A.add j) = some u)
    (h63 : xs.length + m ≤ maxLen) (hbytes : (xs.length + m) * bytes ≤ 140737488355328) (hbase : base ≤ w.heap.size)
    (h : ∀ v' w', ORow w' base e v' (xs ++ news) → w.grownBy w' v.ownBlock → NB w v v' → wpList P ops Q rest (a.put o.dst v') w') :
    wpList P ops Q (o :: rest) a w := by
  obtain ⟨i, hi, hz, hsize, hby⟩ := info_parts hinfo
  refine wpList_plain hgd fun K hK => ?_
  obtain ⟨v', w', hrun, h2, h3, _, h5⟩ := run_append_own_at (P := P) w base t o.type e i z 1 bytes ht hi hz hsize hby hz1 (by decide) v xs.length xs hown
    A m c news (by simp [hm]) hc hu h63 hbytes hbase
  unfold Oper.wp execOp
  simp only [ho, resolve, invoke, builtin, Sem.run_bind, Sem.run_pure, Result.andThen_ok, List.map_toArray, List.map_cons, List.map_nil, hs, hx, hrun]
  refine hK _ _ (h v' w' ?_ h3 (h5.imp id fun e => ⟨_, e, Nat.le_refl _⟩))
  unfold ORow
  rw [List.length_append, hm]
  exact h2
end
theorem _root_.Go.Proofs.YtjepnddndpmnnaaGreat.ORow.set_far {w : World} {base : Nat} {e : TypeId} {v : Value} {xs : List Value} (h : ORow w base e v xs) {p : Addr} (hp : p.block < base) (u : Value) : ORow (w.setCell p u) base e v xs := by
  refine ⟨h.1, ?_⟩
  rcases h.2 with hn | ⟨g, cap, cur, hv, hg, hh, r⟩
  · exact .inl hn
  · exact .inr ⟨g, cap, cur, hv, hg, (Below.heap_setCell w p u g (by omega)).trans hh, r⟩

theorem ret_pair {a b : Int} {x y : Bool} (h : a = b) (h' : x = y) : Ending.returned (.tuple #[.int .i64 a, .bool x]) = .returned (.tuple #[.int .i64 b, .bool y]) := by rw [h, h']
theorem ret_pair8 {a b : Int} {x y : Bool} (h : a = b) (h' : x = y) : Ending.returned (.tuple #[.int .u8 a, .bool x]) = .returned (.tuple #[.int .u8 b, .bool y]) := by rw [h, h']

def hexV (b : Int) : Int := if hexI b < 0 then 0 else hexI b
def escV (b : Int) : Int := if escI b < 0 then 0 else escI b

/-! The map of escapes. -/
def denPairs : List (Int × Int) := [(34, 34), (92, 92), (47, 47), (110, 10), (116, 9), (114, 13), (98, 8), (102, 12)]
def denD : DataW Unit := denPairs.foldl (fun m p => m.put (.int .u8 p.1) (.lit (.int .u8 p.2))) (.map [])
theorem keyLaw : Keyed Tryz.prog 5 := int_keyed Tryz.underlying5
theorem zeroB (w : World) : (zeroValue 5).run Tryz.prog w = .ok (.int .u8 0) w := by kernel_rfl
theorem wf_b {b : Int} (h0 : 0 ≤ b) (h1 : b ≤ 255) : (Lit.int .u8 b).wf = true := by simp [Lit.wf, IntKind.min, IntKind.max, IntKind.signed, IntKind.bits]; omega
theorem has_put1 (D : DataW Unit) (hD : IsMap D) (a k : Int) (d : DataW Unit) : Maps.has (D.put (.int .u8 a) d) (.int .u8 k) = if k = a then true else Maps.has D (.int .u8 k) := by
  split
  · rename_i h
    subst h
    exact has_put_same hD (by simp [WideAt.IsKeyLit]) d
  · rename_i h
    exact has_put_other (by intro hc; injection hc with _ hc; exact h hc) d
theorem at_put1 (D : DataW Unit) (hD : IsMap D) (a k : Int) (d z : DataW Unit) : (D.put (.int .u8 a) d).atKey (.int .u8 k) z = if k = a then d else D.atKey (.int .u8 k) z := by
  split
  · rename_i h
    subst h
    exact atKey_put_same hD (by simp [WideAt.IsKeyLit]) d z
  · rename_i h
    exact atKey_put_other (by intro hc; injection hc with _ hc; exact h hc) d z
theorem den_has (b : Int) : Maps.has denD (.int .u8 b) = decide (0 ≤ escI b) := by
  have hm := isMap_empty (H := Unit)
  simp only [denD, denPairs, List.foldl_cons, List.foldl_nil]
  repeat rw [has_put1 _ (by repeat (first | exact hm | apply IsMap.put))]
  unfold escI
  repeat' split
  all_goals first | rfl | (exfalso; omega) | simp_all
theorem den_at (b : Int) (h : 0 ≤ escI b) : denD.atKey (.int .u8 b) (.lit (.int .u8 0)) = .lit (.int .u8 (escI b)) := by
  have hm := isMap_empty (H := Unit)
  simp only [denD, denPairs, List.foldl_cons, List.foldl_nil]
  repeat rw [at_put1 _ (by repeat (first | exact hm | apply IsMap.put))]
  unfold escI at h ⊢
  repeat' split
  all_goals first | rfl | (exfalso; omega) | simp_all
end Go.Proofs.YtjepnddndpmnnaaGreat.Qt

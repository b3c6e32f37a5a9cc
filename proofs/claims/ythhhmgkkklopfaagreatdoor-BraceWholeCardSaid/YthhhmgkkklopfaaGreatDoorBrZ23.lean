/-
  quote: digit and Step: what a byte does is the machine's step.
  quote: Step is the machine's step; the steps of a text.
  The brace syntax as a plain function on bytes: the machine, its step, its end. No program is read here.
-/
import Derived.Test.YthhhmgkkklopfaaGreatDoorBrZ22
import Derived.Lib.Strings
import Derived.Test.YthhhmgkkklopfaaGreatDoorBrZ04
import Derived.Test.YthhhmgkkklopfaaGreatDoorBrZ12
import Derived.Test.YthhhmgkkklopfaaGreatDoorBrZ21
namespace Go.Proofs.YthhhmgkkklopfaaGreatDoor.Qt
open Go.RowKit Go.Maps
set_option maxRecDepth 100000

/-- '[]byte(s)': a new row of its bytes. -/
theorem bytes_of (w : World) (l : List UInt8) :
    ∃ c w', (convert 9 22 (.string ⟨l.toArray⟩)).run Tryz.prog w = .ok (.slice (some ⟨w.heap.size, 0, none⟩) l.length c) w' ∧
      (∀ j u, (l.map bV)[j]? = some u → w'.cell? ((⟨w.heap.size, 0, none⟩ : Addr).add j) = some u) ∧ Below w.heap.size w w' := by
  have h := run_bytes_of_string (P := Tryz.prog) w 9 22 5 ⟨l.toArray⟩ Tryz.underlying9 Tryz.underlying22 Tryz.underlying5
  have hs : (ByteArray.mk l.toArray).size = l.length := by simp [ByteArray.size]
  rw [hs] at h
  refine ⟨_, _, h, ?_, ?_⟩
  · intro j u hj
    rw [addr_add0]
    have hjl : j < l.length := by
      rcases Nat.lt_or_ge j l.length with h | h
      · exact h
      · rw [List.getElem?_eq_none (by simpa using h)] at hj; cases hj
    have hc := World.cell?_alloc_mark w.drew (bytesRow ⟨l.toArray⟩ (grownCap w l.length 0 5)) 5 ((bytesRow ⟨l.toArray⟩ (grownCap w l.length 0 5)).size, (bytesRow ⟨l.toArray⟩ (grownCap w l.length 0 5)).size + 1) j
    have hh : w.drew.heap.size = w.heap.size := rfl
    rw [hh] at hc
    rw [hc, bytesRow_at _ _ _ (by simpa using hjl)]
    rw [List.getElem?_map, List.getElem?_eq_getElem hjl] at hj
    simpa [bV] using hj
  · exact (below_drew (Below.refl _ _)).alloc (Nat.le_refl _) _

theorem digit_any (w : World) (g : Nat) (q : QS) (b : Int) (h0 : 0 ≤ b) (h1 : b ≤ 255) (hq : QAt w g q) (hst : q.st = 2) (hinv : QInv q) :
    Calls Tryz.prog 144 #[.pointer (some ⟨g, 0, none⟩), .int .u8 b] w fun e w' => e = .returned (.int .i64 (qDigit q b).e) ∧ Stepd w g (qDigit q b) w' := by
  obtain ⟨d, n, hq, h2⟩ := hq
  obtain ⟨rfl, rfl⟩ := h2 hst
  obtain ⟨hl, hs⟩ := hinv
  have hn : 0 ≤ q.n ∧ q.n < 4096 ∧ 0 ≤ q.d ∧ q.d ≤ 3 := by rcases hs with h | h | h | h <;> omega
  obtain ⟨hn0, hn1, hd0, hd1⟩ := hn
  clear hs
  have hlt := hq.lt
  have hx := hexI_lt b
  by_cases hneg : hexI b < 0
  · have hr : qDigit q b = ⟨false, 9, q⟩ := by unfold qDigit; rw [if_pos hneg]
    have hdec : decide (0 ≤ hexI b) = false := by simp; omega
    rw [hr]
    have HD := Lib.hid hdec
    clear hr hdec hneg
    go_enter Tryz.func144, Tryz.ntmps144
    go_wp2_with (first
      | (go_at_call 151; refine (dig_any b h0 h1 _).mono ?_; rintro e w' ⟨rfl, rfl⟩; rw [HD.out]))
    go_ret
    exact ⟨rfl, ⟨_, _, hq, fun _ => ⟨rfl, rfl⟩⟩, Below.refl _ _⟩
  have hv : hexV b = hexI b := by unfold hexV; rw [if_neg hneg]
  have hdec : decide (0 ≤ hexI b) = true := by simp; omega
  have hj : bits .or .i64 (q.n * 16) (hexI b) = q.n * 16 + hexI b := bits_join .i64 63 (by decide) (fun n a b => by rw [IntKind.wrap_i64]; omega) 4 (q.n * 16) (hexI b) (by omega) (by omega) (by omega) (by omega) (by omega) (by omega)
  have HD := Lib.hid hdec
  have HJ := Lib.hid hj
  have HV := Lib.hid hv
  have hq' := hq
  obtain ⟨v, hk, _⟩ := hq'
  have c2 : w.cell? ⟨g, 2, none⟩ = some (.int .i64 q.d) := hk.cell 2
  have c3 : w.cell? ⟨g, 3, none⟩ = some (.int .i64 q.n) := hk.cell 3
  have f2 := hk.frozen 2
  have f3 := hk.frozen 3
  clear hk hdec hj hv
  by_cases hd : q.d < 3
  · have hr : qDigit q b = ⟨false, 0, ⟨q.xs, 2, q.d + 1, q.n * 16 + hexI b⟩⟩ := by unfold qDigit; rw [if_neg hneg, if_pos hd]
    rw [hr]
    clear hr
    go_enter Tryz.func144, Tryz.ntmps144
    go_wp2_with (first
      | (go_at_call 151; refine (dig_any b h0 h1 _).mono ?_; rintro e w' ⟨rfl, rfl⟩; rw [HD.out, HV.out]))
    go_ret
    rw [HJ.out]
    have hq2 := (hq.set2 (q.d + 1)).set3 (q.n * 16 + hexI b)
    rw [hst] at hq2
    exact ⟨rfl, ⟨_, _, hq2, fun _ => ⟨rfl, rfl⟩⟩, (((Below.refl g w).setCell (Nat.le_refl g) _).setCell (Nat.le_refl g) _)⟩
  have hnd : ¬ (q.d < 3) := hd
  by_cases hm : mayB (q.n * 16 + hexI b) = true
  · have hr : qDigit q b = qAdd q (putL (q.n * 16 + hexI b)) := by unfold qDigit; rw [if_neg hneg, if_neg hd, if_pos hm]
    have hput : putS (q.n * 16 + hexI b) = ⟨(putL (q.n * 16 + hexI b)).toArray⟩ := by unfold putS; rw [if_pos hm]
    have hlen : (putL (q.n * 16 + hexI b)).length ≤ 4 := by
      unfold putL
      repeat' split
      all_goals simp
    rw [hr]
    have e0 : (qAdd q (putL (q.n * 16 + hexI b))).e = addE q.xs (putL (q.n * 16 + hexI b)) := by rw [qadd_eq]
    rw [e0]
    have HM := Lib.hid hm
    have HP := Lib.hid hput
    clear hr hput e0 hm
    go_enter Tryz.func144, Tryz.ntmps144
    go_wp2_with (first
      | (go_at_call 151; refine (dig_any b h0 h1 _).mono ?_; rintro e w' ⟨rfl, rfl⟩; rw [HD.out, HV.out]))
    rw [HJ.out]
    refine (put_any _ _).mono ?_
    rintro e w1 ⟨rfl, hb1⟩
    rw [HM.out, HP.out]
    obtain ⟨c, w2, hrun, hcells, hb2⟩ := bytes_of w1 (putL (q.n * 16 + hexI b))
    have hs1 := hb1.size
    go_wp2_with fail
    refine (end_any _ g q.xs q.st q.d q.n ((hq.below hb1).below hb2) hl ⟨w1.heap.size, 0, none⟩ _ c hlen hcells).mono ?_
    rintro e w3 ⟨rfl, hq3, hb3⟩
    go_wp2
    go_ret
    exact ⟨rfl, qat_add (fun _ => ⟨rfl, rfl⟩) hq3, ((hb1.mono (by omega)).trans (hb2.mono (by omega))).trans hb3⟩
  · have hr : qDigit q b = ⟨false, 9, q⟩ := by unfold qDigit; rw [if_neg hneg, if_neg hd, if_neg hm]
    have hmf : mayB (q.n * 16 + hexI b) = false := by simpa using hm
    rw [hr]
    have HM := Lib.hid hmf
    clear hr hm hmf
    go_enter Tryz.func144, Tryz.ntmps144
    go_wp2_with (first
      | (go_at_call 151; refine (dig_any b h0 h1 _).mono ?_; rintro e w' ⟨rfl, rfl⟩; rw [HD.out, HV.out]))
    rw [HJ.out]
    refine (put_any _ _).mono ?_
    rintro e w1 ⟨rfl, hb1⟩
    rw [HM.out]
    go_wp2
    go_ret
    exact ⟨rfl, ⟨_, _, hq.below hb1, fun _ => ⟨rfl, rfl⟩⟩, hb1.mono (by omega)⟩
end Go.Proofs.YthhhmgkkklopfaaGreatDoor.Qt
namespace Go.Proofs.YthhhmgkkklopfaaGreatDoor.Qt
open Go.RowKit Go.Maps
set_option maxRecDepth 100000

def StepEnd (r : QR) : Ending := .returned (.tuple #[.bool r.done, .int .i64 r.e])

theorem qstep_any (w : World) (g : Nat) (q : QS) (b : Int) (h0 : 0 ≤ b) (h1 : b ≤ 255) (hq : QAt w g q) (hinv : QInv q) :
    Calls Tryz.prog 137 #[.pointer (some ⟨g, 0, none⟩), .int .u8 b] w fun e w' => e = StepEnd (qStep q b) ∧ Stepd w g (qStep q b) w' := by
  have hlt := hq.lt
  have hq' := hq
  obtain ⟨d, n, hr, h2⟩ := hq'
  have hr' := hr
  obtain ⟨v, hk, _⟩ := hr'
  have c1 : w.cell? ⟨g, 1, none⟩ = some (.int .i64 q.st) := hk.cell 1
  have f1 := hk.frozen 1
  clear hk
  obtain ⟨hl, hs⟩ := hinv
  by_cases s1 : q.st = 1
  · have e : qStep q b = qLetter q b := by unfold qStep; rw [if_pos s1]
    rw [e]
    rw [s1] at c1
    have hd : (qLetter q b).done = false := by
      unfold qLetter qAdd
      repeat' split
      all_goals rfl
    unfold StepEnd
    rw [hd]
    clear s1 e hd hr h2 hs
    go_enter Tryz.func137, Tryz.ntmps137
    go_wp2_with (first
      | (go_at_call 143; refine (letter_any _ g q b h0 h1 hq hl).mono ?_; rintro e w1 ⟨rfl, hs1⟩))
    go_ret2
    exact ⟨rfl, hs1⟩
  by_cases s2 : q.st = 2
  · have e : qStep q b = qDigit q b := by unfold qStep; rw [if_neg s1, if_pos s2]
    rw [e]
    rw [s2] at c1
    have hd : (qDigit q b).done = false := by
      unfold qDigit qAdd
      repeat' split
      all_goals rfl
    unfold StepEnd
    rw [hd]
    have HS := Lib.hid s2
    have HI := Lib.hid (show QInv q from ⟨hl, hs⟩)
    clear s1 s2 e hd hr h2 hs
    go_enter Tryz.func137, Tryz.ntmps137
    go_wp2_with (first
      | (go_at_call 144; refine (digit_any _ g q b h0 h1 hq HS.out HI.out).mono ?_; rintro e w1 ⟨rfl, hs1⟩))
    go_ret2
    exact ⟨rfl, hs1⟩
  by_cases s3 : q.st = 3
  · have e : qStep q b = ⟨false, 2, q⟩ := by unfold qStep; rw [if_neg s1, if_neg s2, if_pos s3]
    rw [e]
    rw [s3] at c1
    clear s1 s2 s3 e hr h2 hs
    go_enter Tryz.func137, Tryz.ntmps137
    go_wp2
    go_ret2
    exact ⟨rfl, hq, Below.refl _ _⟩
  have s0 : q.st = 0 := by omega
  have e : qStep q b = qPlain q b := by unfold qStep; rw [if_neg s1, if_neg s2, if_neg s3]
  rw [e]
  rw [s0] at c1
  clear e hs s1 s2 s3
  by_cases b1 : b < 32
  · have e : qPlain q b = ⟨false, 2, q⟩ := by unfold qPlain; rw [if_pos b1]
    rw [e]
    clear e
    go_enter Tryz.func137, Tryz.ntmps137
    go_wp2
    go_ret2
    exact ⟨rfl, hq, Below.refl _ _⟩
  by_cases b2 : b = 34
  · have e : qPlain q b = ⟨true, 0, ⟨q.xs, 3, 0, 0⟩⟩ := by unfold qPlain; rw [if_neg b1, if_pos b2]
    rw [e]
    clear e b1
    subst b2
    go_enter Tryz.func137, Tryz.ntmps137
    go_wp2
    go_ret2
    exact ⟨rfl, ⟨_, _, hr.set 3, fun h => by cases h⟩, (Below.refl g w).setCell (Nat.le_refl g) _⟩
  by_cases b3 : b = 92
  · have e : qPlain q b = ⟨false, 0, ⟨q.xs, 1, 0, 0⟩⟩ := by unfold qPlain; rw [if_neg b1, if_neg b2, if_pos b3]
    rw [e]
    clear e b1 b2
    subst b3
    go_enter Tryz.func137, Tryz.ntmps137
    go_wp2
    go_ret2
    exact ⟨rfl, ⟨_, _, hr.set 1, fun h => by cases h⟩, (Below.refl g w).setCell (Nat.le_refl g) _⟩
  have e : qPlain q b = qAdd q [b8 b] := by unfold qPlain; rw [if_neg b1, if_neg b2, if_neg b3]
  have e0 : (qAdd q [b8 b]).e = addE q.xs [b8 b] := by rw [qadd_eq]
  have e1 : (qAdd q [b8 b]).done = false := by rw [qadd_eq]
  have n2 : (b == 34) = false := beq_eq_false_iff_ne.2 b2
  have n3 : (b == 92) = false := beq_eq_false_iff_ne.2 b3
  have hra : QRaw (w.alloc (.cells #[.int .u8 b] 5)) g q.xs q.st d n := hr.below ((Below.refl _ _).alloc (Nat.le_refl _) _)
  rw [e]
  unfold StepEnd
  rw [e0, e1]
  have H0 := Lib.hid s0
  clear e e0 e1 b2 b3 s0 h2
  go_enter Tryz.func137, Tryz.ntmps137
  go_wp2_with fail
  refine (add_any _ g q.xs q.st d n hra hl ⟨w.heap.size, 0, none⟩ [b8 b] 1 (by simp) ?_).mono ?_
  · have := cell_one_new w (.int .u8 b) 5
    simp only [List.map_cons, List.map_nil]
    rw [bV_b8 _ (by omega) (by omega)]
    exact this
  rintro e w1 ⟨rfl, hq1, hb1⟩
  go_wp2
  go_ret2
  refine ⟨rfl, qat_add (d := d) (n := n) (fun h => absurd h (by rw [H0.out]; decide)) ?_, ((Below.refl g w).alloc (by omega) _).trans hb1⟩
  rw [H0.out] at hq1 ⊢
  simpa using hq1
end Go.Proofs.YthhhmgkkklopfaaGreatDoor.Qt
namespace Go.Proofs.YthhhmgkkklopfaaGreatDoor
set_option maxRecDepth 100000

/-- The machine: where the next byte stands; the brackets that are to close what is open; the event of the open word or string; what the open word lacks; the open number; the open string. -/
structure Mc where
  a : Int
  op : List UInt8
  ek : Int
  et : ByteArray
  ev : ByteArray
  rs : ByteArray
  nm : ByteArray
  q : Qt.QS
def emp : ByteArray := ⟨#[]⟩
def mc0 : Mc := ⟨0, [], 0, ⟨#[]⟩, ⟨#[]⟩, ⟨#[]⟩, ⟨#[]⟩, Qt.plainQ []⟩
/-- The machine, the Check and the events told; with an error, or 0. -/
structure Bs where
  m : Mc
  st : List Pt
  l : List Ev
structure Br where
  b : Bs
  e : Int
def tellL (st : List Pt) (l : List Ev) (x : Ev) : List Ev := if stepE st x = 0 then l ++ [x] else l
def tellB (m : Mc) (st : List Pt) (l : List Ev) (x : Ev) : Br := ⟨⟨m, stepS st x, tellL st l x⟩, stepE st x⟩
def bare (k : Int) : Ev := ⟨k, ⟨#[]⟩, ⟨#[]⟩⟩
def topB (op : List UInt8) : UInt8 := op.getLastD 0
def finishB (s : Bs) : Br := tellB { s.m with op := s.m.op.dropLast, a := 5 } s.st s.l (bare (if (topB s.m.op).toNat = 125 then 9 else 6))
def beginB (s : Bs) (k : Int) (c : UInt8) (a : Int) : Br := tellB { s.m with op := s.m.op ++ [c], a := a } s.st s.l (bare k)
def letterB (s : Bs) (b : UInt8) : Br :=
  if s.m.rs.data.toList.head? = some b then
    (if s.m.rs.size = 1 then tellB { s.m with rs := s.m.rs.extract 1 s.m.rs.size, a := 5 } s.st s.l ⟨s.m.ek, s.m.et, s.m.ev⟩
      else ⟨{ s with m := { s.m with rs := s.m.rs.extract 1 s.m.rs.size } }, 0⟩)
  else ⟨s, 2⟩
def wordB (s : Bs) (k : Int) (t r : ByteArray) : Br := ⟨{ s with m := { s.m with a := 6, ek := k, et := t, ev := ⟨#[]⟩, rs := r } }, 0⟩
def stringB (s : Bs) (k : Int) : Br := ⟨{ s with m := { s.m with a := 8, ek := k, et := ⟨#[]⟩, ev := ⟨#[]⟩, q := Qt.plainQ [] } }, 0⟩
def charB (s : Bs) (b : UInt8) : Br :=
  let r := Qt.qStep s.m.q (b.toNat : Int)
  if r.e ≠ 0 ∨ r.done = false then ⟨{ s with m := { s.m with q := r.q } }, r.e⟩
  else tellB { s.m with q := r.q, a := if s.m.ek = 8 then 4 else 5, et := ⟨r.q.xs.toArray⟩ } s.st s.l ⟨s.m.ek, ⟨r.q.xs.toArray⟩, s.m.ev⟩
def digitB (s : Bs) (b : UInt8) : Br := if 30 ≤ s.m.nm.size then ⟨s, 4⟩ else ⟨{ s with m := { s.m with nm := s.m.nm ++ ⟨#[b]⟩ } }, 0⟩
def endNumB (s : Bs) : Br :=
  if Nm.isB s.m.nm.data.toList = false then ⟨s, 2⟩
  else if Nm.readC s.m.nm.data.toList ≠ 0 then ⟨s, Nm.readC s.m.nm.data.toList⟩
  else tellB { s.m with a := 5 } s.st s.l ⟨3, Nm.readS s.m.nm.data.toList, ⟨#[]⟩⟩
def mayB1 (nm : ByteArray) (b : UInt8) : Bool := Nm.begB (nm.data.toList ++ [b])
def valueB (s : Bs) (b : UInt8) : Br :=
  if b.toNat = 91 then beginB s 5 93 1 else if b.toNat = 123 then beginB s 7 125 2 else if b.toNat = 34 then stringB s 4
  else if b.toNat = 110 then wordB s 1 ⟨#[]⟩ ⟨#[117, 108, 108]⟩ else if b.toNat = 116 then wordB s 2 ⟨#[116, 114, 117, 101]⟩ ⟨#[114, 117, 101]⟩
  else if b.toNat = 102 then wordB s 2 ⟨#[102, 97, 108, 115, 101]⟩ ⟨#[97, 108, 115, 101]⟩
  else if mayB1 ⟨#[]⟩ b = false then ⟨s, 2⟩ else ⟨{ s with m := { s.m with a := 7, nm := ⟨#[b]⟩ } }, 0⟩
def behindB (s : Bs) (b : UInt8) : Br :=
  if s.m.op = [] then ⟨s, 2⟩ else if b = topB s.m.op then finishB s else if b.toNat ≠ 44 then ⟨s, 2⟩
  else if (topB s.m.op).toNat = 125 then ⟨{ s with m := { s.m with a := 3 } }, 0⟩ else ⟨{ s with m := { s.m with a := 0 } }, 0⟩
def markB (s : Bs) (b : UInt8) : Br :=
  if s.m.a = 4 ∧ b.toNat = 58 then ⟨{ s with m := { s.m with a := 0 } }, 0⟩
  else if (s.m.a = 1 ∧ b.toNat = 93) ∨ (s.m.a = 2 ∧ b.toNat = 125) then finishB s
  else if (s.m.a = 2 ∨ s.m.a = 3) ∧ b.toNat = 34 then stringB s 8
  else if s.m.a = 0 ∨ s.m.a = 1 then valueB s b else if s.m.a = 5 then behindB s b else ⟨s, 2⟩
def blankB (b : UInt8) : Bool := decide (b.toNat = 32 ∨ b.toNat = 9 ∨ b.toNat = 10 ∨ b.toNat = 13)
def plainB (s : Bs) (b : UInt8) : Br := if blankB b = true then ⟨s, 0⟩ else markB s b
def stepB (s : Bs) (b : UInt8) : Br :=
  if s.m.a = 6 then letterB s b else if s.m.a = 8 then charB s b
  else if s.m.a = 7 then (if mayB1 s.m.nm b = true then digitB s b else if (endNumB s).e ≠ 0 then endNumB s else plainB (endNumB s).b b)
  else plainB s b
def endB (s : Bs) : Br :=
  let r := if s.m.a = 7 then endNumB s else ⟨s, 0⟩
  if r.e ≠ 0 then r else if r.b.m.a ≠ 5 ∨ r.b.m.op ≠ [] then ⟨r.b, 2⟩ else ⟨r.b, 0⟩

/-- What holds ahead of each byte. -/
structure BInv (s : Bs) (n : Nat) : Prop where
  good : Good s.st
  ln : s.l.length ≤ 2 * n
  opn : s.m.op.length ≤ n
  op1 : s.m.a = 1 ∨ s.m.a = 2 ∨ s.m.a = 3 → s.m.op ≠ []
  rsn : s.m.a = 6 → 0 < s.m.rs.size
  rsl : s.m.rs.size ≤ 4
  nml : s.m.nm.size ≤ 30
  etl : s.m.et.size ≤ 48
  qi : Qt.QInv s.m.q
  rng : 0 ≤ s.m.a ∧ s.m.a ≤ 8
end Go.Proofs.YthhhmgkkklopfaaGreatDoor

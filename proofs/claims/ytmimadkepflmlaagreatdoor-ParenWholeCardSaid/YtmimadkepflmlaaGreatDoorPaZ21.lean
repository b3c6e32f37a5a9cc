/-
  quote: digit and Step: what a byte does is the machine's step.
  quote: Step is the machine's step; the steps of a text.
  stream: what a machine has to be, for a Stream to drive it: how it lies, what its calls do and leave.
-/
import Derived.Test.YtmimadkepflmlaaGreatDoorPaZ20
import Derived.Lib.Strings
import Derived.Test.YtmimadkepflmlaaGreatDoorPaZ19
namespace Go.Proofs.YtmimadkepflmlaaGreatDoor.Qt
open Go.RowKit Go.Maps
set_option maxRecDepth 100000
set_option linter.unusedSectionVars false
variable [Fo]

/-- '[]byte(s)': a new row of its bytes. -/
theorem bytes_of (w : World) (l : List UInt8) :
    ∃ c w', (convert 9 22 (.string ⟨l.toArray⟩)).run Tryz.prog w = .ok (.slice (some ⟨w.heap.size, 0, none⟩) l.length c) w' ∧
      (∀ j u, (l.map bV)[j]? = some u → w'.cell? ((⟨w.heap.size, 0, none⟩ : Addr).add j) = some u) ∧ Below w.heap.size w w' := by
  have h := run_bytes_of_string (P := Tryz.prog) w 9 22 5 ⟨l.toArray⟩ Tryz.underlying9 Tryz.underlying22 Tryz.underlying5
  have hs : (ByteArray.mk l.toArray).size = l.length := by simp [ByteArray.size]
  rw [hs] at h
  refine ⟨_, _, h, ?_, ?_⟩
  · intro j u hj
    rw [addr_add0]
    have hjl : j < l.length := by
      rcases Nat.lt_or_ge j l.length with h | h
      · exact h
      · rw [List.getElem?_eq_none (by simpa using h)] at hj; cases hj
    have hc := World.cell?_alloc_mark w.drew (bytesRow ⟨l.toArray⟩ (grownCap w l.length 0 5)) 5 ((bytesRow ⟨l.toArray⟩ (grownCap w l.length 0 5)).size, (bytesRow ⟨l.toArray⟩ (grownCap w l.length 0 5)).size + 1) j
    have hh : w.drew.heap.size = w.heap.size := rfl
    rw [hh] at hc
    rw [hc, bytesRow_at _ _ _ (by simpa using hjl)]
    rw [List.getElem?_map, List.getElem?_eq_getElem hjl] at hj
    simpa [bV] using hj
  · exact (below_drew (Below.refl _ _)).alloc (Nat.le_refl _) _

theorem digit_any (w : World) (g : Nat) (q : QS) (b : Int) (h0 : 0 ≤ b) (h1 : b ≤ 255) (hq : QAt w g q) (hst : q.st = 2) (hinv : QInv q) :
    Calls Tryz.prog 151 #[.pointer (some ⟨g, 0, none⟩), .int .u8 b] w fun e w' => e = .returned (.int .i64 (qDigit q b).e) ∧ Stepd w g (qDigit q b) w' := by
  obtain ⟨d, n, hq, h2⟩ := hq
  obtain ⟨rfl, rfl⟩ := h2 hst
  obtain ⟨hl, hs⟩ := hinv
  have hn : 0 ≤ q.n ∧ q.n < 4096 ∧ 0 ≤ q.d ∧ q.d ≤ 3 := by rcases hs with h | h | h | h <;> omega
  obtain ⟨hn0, hn1, hd0, hd1⟩ := hn
  clear hs
  have hlt := hq.lt
  have hx := hexI_lt b
  by_cases hneg : hexI b < 0
  · have hr : qDigit q b = ⟨false, 9, q⟩ := by unfold qDigit; rw [if_pos hneg]
    have hdec : decide (0 ≤ hexI b) = false := by simp; omega
    rw [hr]
    have HD := Lib.hid hdec
    clear hr hdec hneg
    go_enter Tryz.func151, Tryz.ntmps151
    go_wp2_with (first
      | (go_at_call 158; refine (dig_any b h0 h1 _).mono ?_; rintro e w' ⟨rfl, rfl⟩; rw [HD.out]))
    go_ret
    exact ⟨rfl, ⟨_, _, hq, fun _ => ⟨rfl, rfl⟩⟩, Tch.refl _ _ _⟩
  have hv : hexV b = hexI b := by unfold hexV; rw [if_neg hneg]
  have hdec : decide (0 ≤ hexI b) = true := by simp; omega
  have hj : bits .or .i64 (q.n * 16) (hexI b) = q.n * 16 + hexI b := bits_join .i64 63 (by decide) (fun n a b => by rw [IntKind.wrap_i64]; omega) 4 (q.n * 16) (hexI b) (by omega) (by omega) (by omega) (by omega) (by omega) (by omega)
  have HD := Lib.hid hdec
  have HJ := Lib.hid hj
  have HV := Lib.hid hv
  have hq' := hq
  obtain ⟨v, hk, _⟩ := hq'
  have c2 : w.cell? ⟨g, 2, none⟩ = some (.int .i64 q.d) := hk.cell 2
  have c3 : w.cell? ⟨g, 3, none⟩ = some (.int .i64 q.n) := hk.cell 3
  have f2 := hk.frozen 2
  have f3 := hk.frozen 3
  clear hk hdec hj hv
  by_cases hd : q.d < 3
  · have hr : qDigit q b = ⟨false, 0, ⟨q.xs, 2, q.d + 1, q.n * 16 + hexI b⟩⟩ := by unfold qDigit; rw [if_neg hneg, if_pos hd]
    rw [hr]
    clear hr
    go_enter Tryz.func151, Tryz.ntmps151
    go_wp2_with (first
      | (go_at_call 158; refine (dig_any b h0 h1 _).mono ?_; rintro e w' ⟨rfl, rfl⟩; rw [HD.out, HV.out]))
    go_ret
    rw [HJ.out]
    have hq2 := (hq.set2 (q.d + 1)).set3 (q.n * 16 + hexI b)
    rw [hst] at hq2
    exact ⟨rfl, ⟨_, _, hq2, fun _ => ⟨rfl, rfl⟩⟩, ((hq.touch 2 _).trans ((hq.set2 (q.d + 1)).touch 3 _))⟩
  have hnd : ¬ (q.d < 3) := hd
  by_cases hm : mayB (q.n * 16 + hexI b) = true
  · have hr : qDigit q b = qAdd q (putL (q.n * 16 + hexI b)) := by unfold qDigit; rw [if_neg hneg, if_neg hd, if_pos hm]
    have hput : putS (q.n * 16 + hexI b) = ⟨(putL (q.n * 16 + hexI b)).toArray⟩ := by unfold putS; rw [if_pos hm]
    have hlen : (putL (q.n * 16 + hexI b)).length ≤ 4 := by
      unfold putL
      repeat' split
      all_goals simp
    rw [hr]
    have e0 : (qAdd q (putL (q.n * 16 + hexI b))).e = addE q.xs (putL (q.n * 16 + hexI b)) := by rw [qadd_eq]
    rw [e0]
    have HM := Lib.hid hm
    have HP := Lib.hid hput
    clear hr hput e0 hm
    go_enter Tryz.func151, Tryz.ntmps151
    go_wp2_with (first
      | (go_at_call 158; refine (dig_any b h0 h1 _).mono ?_; rintro e w' ⟨rfl, rfl⟩; rw [HD.out, HV.out]))
    rw [HJ.out]
    refine (put_any _ _).mono ?_
    rintro e w1 ⟨rfl, hb1⟩
    rw [HM.out, HP.out]
    obtain ⟨c, w2, hrun, hcells, hb2⟩ := bytes_of w1 (putL (q.n * 16 + hexI b))
    have hs1 := hb1.size
    go_wp2_with fail
    refine (end_any _ g q.xs q.st q.d q.n ((hq.below hb1).below hb2) hl ⟨w1.heap.size, 0, none⟩ _ c hlen hcells).mono ?_
    rintro e w3 ⟨rfl, hq3, hb3⟩
    go_wp2
    go_ret
    exact ⟨rfl, qat_add (fun _ => ⟨rfl, rfl⟩) hq3, ((Tch.of_below hb1).trans (Tch.of_below hb2)).trans hb3⟩
  · have hr : qDigit q b = ⟨false, 9, q⟩ := by unfold qDigit; rw [if_neg hneg, if_neg hd, if_neg hm]
    have hmf : mayB (q.n * 16 + hexI b) = false := by simpa using hm
    rw [hr]
    have HM := Lib.hid hmf
    clear hr hm hmf
    go_enter Tryz.func151, Tryz.ntmps151
    go_wp2_with (first
      | (go_at_call 158; refine (dig_any b h0 h1 _).mono ?_; rintro e w' ⟨rfl, rfl⟩; rw [HD.out, HV.out]))
    rw [HJ.out]
    refine (put_any _ _).mono ?_
    rintro e w1 ⟨rfl, hb1⟩
    rw [HM.out]
    go_wp2
    go_ret
    exact ⟨rfl, ⟨_, _, hq.below hb1, fun _ => ⟨rfl, rfl⟩⟩, Tch.of_below hb1⟩
end Go.Proofs.YtmimadkepflmlaaGreatDoor.Qt
namespace Go.Proofs.YtmimadkepflmlaaGreatDoor.Qt
open Go.RowKit Go.Maps
set_option maxRecDepth 100000
set_option linter.unusedSectionVars false
variable [Fo]

def StepEnd (r : QR) : Ending := .returned (.tuple #[.bool r.done, .int .i64 r.e])

theorem qstep_any (w : World) (g : Nat) (q : QS) (b : Int) (h0 : 0 ≤ b) (h1 : b ≤ 255) (hq : QAt w g q) (hinv : QInv q) :
    Calls Tryz.prog 144 #[.pointer (some ⟨g, 0, none⟩), .int .u8 b] w fun e w' => e = StepEnd (qStep q b) ∧ Stepd w g (qStep q b) w' := by
  have hlt := hq.lt
  have hq' := hq
  obtain ⟨d, n, hr, h2⟩ := hq'
  have hr' := hr
  obtain ⟨v, hk, _⟩ := hr'
  have c1 : w.cell? ⟨g, 1, none⟩ = some (.int .i64 q.st) := hk.cell 1
  have f1 := hk.frozen 1
  clear hk
  obtain ⟨hl, hs⟩ := hinv
  by_cases s1 : q.st = 1
  · have e : qStep q b = qLetter q b := by unfold qStep; rw [if_pos s1]
    rw [e]
    rw [s1] at c1
    have hd : (qLetter q b).done = false := by
      unfold qLetter qAdd
      repeat' split
      all_goals rfl
    unfold StepEnd
    rw [hd]
    clear s1 e hd hr h2 hs
    go_enter Tryz.func144, Tryz.ntmps144
    go_wp2_with (first
      | (go_at_call 150; refine (letter_any _ g q b h0 h1 hq hl).mono ?_; rintro e w1 ⟨rfl, hs1⟩))
    go_ret2
    exact ⟨rfl, hs1⟩
  by_cases s2 : q.st = 2
  · have e : qStep q b = qDigit q b := by unfold qStep; rw [if_neg s1, if_pos s2]
    rw [e]
    rw [s2] at c1
    have hd : (qDigit q b).done = false := by
      unfold qDigit qAdd
      repeat' split
      all_goals rfl
    unfold StepEnd
    rw [hd]
    have HS := Lib.hid s2
    have HI := Lib.hid (show QInv q from ⟨hl, hs⟩)
    clear s1 s2 e hd hr h2 hs
    go_enter Tryz.func144, Tryz.ntmps144
    go_wp2_with (first
      | (go_at_call 151; refine (digit_any _ g q b h0 h1 hq HS.out HI.out).mono ?_; rintro e w1 ⟨rfl, hs1⟩))
    go_ret2
    exact ⟨rfl, hs1⟩
  by_cases s3 : q.st = 3
  · have e : qStep q b = ⟨false, 2, q⟩ := by unfold qStep; rw [if_neg s1, if_neg s2, if_pos s3]
    rw [e]
    rw [s3] at c1
    clear s1 s2 s3 e hr h2 hs
    go_enter Tryz.func144, Tryz.ntmps144
    go_wp2
    go_ret2
    exact ⟨rfl, hq, Tch.refl _ _ _⟩
  have s0 : q.st = 0 := by omega
  have e : qStep q b = qPlain q b := by unfold qStep; rw [if_neg s1, if_neg s2, if_neg s3]
  rw [e]
  rw [s0] at c1
  clear e hs s1 s2 s3
  by_cases b1 : b < 32
  · have e : qPlain q b = ⟨false, 2, q⟩ := by unfold qPlain; rw [if_pos b1]
    rw [e]
    clear e
    go_enter Tryz.func144, Tryz.ntmps144
    go_wp2
    go_ret2
    exact ⟨rfl, hq, Tch.refl _ _ _⟩
  by_cases b2 : b = 34
  · have e : qPlain q b = ⟨true, 0, ⟨q.xs, 3, 0, 0⟩⟩ := by unfold qPlain; rw [if_neg b1, if_pos b2]
    rw [e]
    clear e b1
    subst b2
    go_enter Tryz.func144, Tryz.ntmps144
    go_wp2
    go_ret2
    exact ⟨rfl, ⟨_, _, hr.set 3, fun h => by cases h⟩, hr.touch 1 _⟩
  by_cases b3 : b = 92
  · have e : qPlain q b = ⟨false, 0, ⟨q.xs, 1, 0, 0⟩⟩ := by unfold qPlain; rw [if_neg b1, if_neg b2, if_pos b3]
    rw [e]
    clear e b1 b2
    subst b3
    go_enter Tryz.func144, Tryz.ntmps144
    go_wp2
    go_ret2
    exact ⟨rfl, ⟨_, _, hr.set 1, fun h => by cases h⟩, hr.touch 1 _⟩
  have e : qPlain q b = qAdd q [b8 b] := by unfold qPlain; rw [if_neg b1, if_neg b2, if_neg b3]
  have e0 : (qAdd q [b8 b]).e = addE q.xs [b8 b] := by rw [qadd_eq]
  have e1 : (qAdd q [b8 b]).done = false := by rw [qadd_eq]
  have n2 : (b == 34) = false := beq_eq_false_iff_ne.2 b2
  have n3 : (b == 92) = false := beq_eq_false_iff_ne.2 b3
  have hra : QRaw (w.alloc (.cells #[.int .u8 b] 5)) g q.xs q.st d n := hr.below ((Below.refl _ _).alloc (Nat.le_refl _) _)
  rw [e]
  unfold StepEnd
  rw [e0, e1]
  have H0 := Lib.hid s0
  clear e e0 e1 b2 b3 s0 h2
  go_enter Tryz.func144, Tryz.ntmps144
  go_wp2_with fail
  refine (add_any _ g q.xs q.st d n hra hl ⟨w.heap.size, 0, none⟩ [b8 b] 1 (by simp) ?_).mono ?_
  · have := cell_one_new w (.int .u8 b) 5
    simp only [List.map_cons, List.map_nil]
    rw [bV_b8 _ (by omega) (by omega)]
    exact this
  rintro e w1 ⟨rfl, hq1, hb1⟩
  go_wp2
  go_ret2
  refine ⟨rfl, qat_add (d := d) (n := n) (fun h => absurd h (by rw [H0.out]; decide)) ?_, ((Tch.refl g qObj w).alloc _).trans hb1⟩
  rw [H0.out] at hq1 ⊢
  simpa using hq1
end Go.Proofs.YtmimadkepflmlaaGreatDoor.Qt
namespace Go.Proofs.YtmimadkepflmlaaGreatDoor
open Go.RowKit Go.Maps
set_option maxRecDepth 100000
set_option linter.unusedSimpArgs false
set_option linter.unusedVariables false
set_option linter.unusedSectionVars false
variable [Tab] [Fo]

/-- The variables of the library, below base. -/
def SW (base : Nat) (w : World) : Prop := ∃ w0, Nm.StdW w0 ∧ w0.heap.size ≤ base ∧ Below w0.heap.size w0 w
theorem SW.std {base : Nat} {w : World} (h : SW base w) : Nm.StdW w := by obtain ⟨w0, h1, _, h3⟩ := h; exact h1.below h3
theorem SW.below {base : Nat} {w w' : World} (h : SW base w) (hb : Below base w w') : SW base w' := by
  obtain ⟨w0, h1, h2, h3⟩ := h
  exact ⟨w0, h1, h2, h3.trans (hb.mono h2)⟩
theorem SW.tch {base : Nat} {w w' : World} {p : Obj → Prop} (h : SW base w) (ht : Tch base p w w') (hb : base ≤ w.heap.size) : SW base w' := h.below (ht.below hb)

def ssObj : Obj → Prop
  | .cells _ t _ => t = 56 ∨ t = 88
  | _ => False
/-- What a step leaves of what it does not know. -/
structure FrG (obj : Obj → Prop) (base B : Nat) (w w' : World) : Prop where
  low : Below base w w'
  keep : ∀ k o, w.heap[k]? = some o → k < B → ¬ obj o → w'.heap[k]? = some o
  fo : ∀ k o, w.heap[k]? = some o → Fo.F k → w'.heap[k]? = some o
theorem FrG.refl (obj : Obj → Prop) (base B : Nat) (w : World) : FrG obj base B w w := ⟨Below.refl _ _, fun k o h _ _ => h, fun k o h _ => h⟩
section
variable {obj : Obj → Prop} {base B : Nat} {w w' w'' : World}
theorem FrG.trans (h : FrG obj base B w w') (k : FrG obj base B w' w'') : FrG obj base B w w'' := ⟨h.low.trans k.low, fun i o ho hi hn => k.keep i o (h.keep i o ho hi hn) hi hn, fun i o ho hf => k.fo i o (h.fo i o ho hf) hf⟩
theorem FrG.of_tch (h : Tch base obj w w') (hb : base ≤ w.heap.size) : FrG obj base B w w' := ⟨h.below hb, fun k o ho _ hn => h.block k o ho (.inr (.inl hn)), fun k o ho hf => h.block k o ho (.inr (.inr hf))⟩
theorem FrG.of_q {g : Nat} (h : Tch g Qt.qObj w w') (hb : base ≤ g) (hB : B ≤ g) (hg : g ≤ w.heap.size) : FrG obj base B w w' := ⟨(h.below hg).mono hb, fun k o ho hk _ => h.block k o ho (.inl (by omega)), fun k o ho hf => h.block k o ho (.inr (.inr hf))⟩
end
/-- Below base, and of the foreign blocks, nothing has turned. -/
structure LowF (base : Nat) (w w' : World) : Prop where
  low : Below base w w'
  fo : ∀ k o, w.heap[k]? = some o → Fo.F k → w'.heap[k]? = some o
section
variable {obj : Obj → Prop} {base B : Nat} {w w' w'' : World}
theorem LowF.refl (base : Nat) (w : World) : LowF base w w := ⟨Below.refl _ _, fun k o h _ => h⟩
theorem LowF.trans (h : LowF base w w') (k : LowF base w' w'') : LowF base w w'' := ⟨h.low.trans k.low, fun i o ho hf => k.fo i o (h.fo i o ho hf) hf⟩
theorem LowF.of_tch {p : Obj → Prop} (h : Tch base p w w') (hb : base ≤ w.heap.size) : LowF base w w' := ⟨h.below hb, fun k o ho hf => h.block k o ho (.inr (.inr hf))⟩
theorem LowF.of_below (h : Below w.heap.size w w') (hb : base ≤ w.heap.size) : LowF base w w' := ⟨h.mono hb, fun k o ho _ => (h.block k (Array.getElem?_eq_some_iff.1 ho).1).trans ho⟩
theorem LowF.drew (base : Nat) (w : World) : LowF base w w.drew := ⟨below_drew (Below.refl _ _), fun k o h _ => h⟩
theorem FrG.lowF (h : FrG obj base B w w') : LowF base w w' := ⟨h.low, h.fo⟩
end
/-- A row, a Check, events that wait: they lie as they lay where no block of theirs has turned. -/
theorem row_up {w w' : World} {b : Nat} {e : TypeId} {size n : Nat} {v : Value} {xs : List Value} (h : w.ownsRow b e size v n xs) (hk : ∀ k o, b ≤ k → w.heap[k]? = some o → w'.heap[k]? = some o) : w'.ownsRow b e size v n xs := by
  refine ⟨h.1, ?_⟩
  rcases h.2 with hn | ⟨g, cap, cur, hv, hg, hh, r⟩
  · exact .inl hn
  · exact .inr ⟨g, cap, cur, hv, hg, hk _ _ hg hh, r⟩
theorem qat_up {w w' : World} {g : Nat} {q : Qt.QS} (h : Qt.QAt w g q) (hs : w.heap.size ≤ w'.heap.size) (hk : ∀ k o, g ≤ k → w.heap[k]? = some o → w'.heap[k]? = some o) : Qt.QAt w' g q := by
  obtain ⟨d, n, ⟨v, hB, hR, h1, h2, h3⟩, hq⟩ := h
  exact ⟨d, n, ⟨v, hk _ _ (Nat.le_refl _) hB, row_up hR (fun k o hk' ho => hk k o (by omega) ho), h1, h2, Nat.le_trans h3 hs⟩, hq⟩

theorem OAt.tch {w w' : World} {base o ck : Nat} {st : List Pt} {l : List Ev} {p : Obj → Prop} (h : OAt w base o ck st l) (ht : Tch base p w w') (h1 : ∀ cs t fr, t = 62 ∨ t = 59 ∨ t = 52 ∨ t = 36 → ¬ p (.cells cs t fr)) (h2 : ∀ es c, ¬ p (.map es c)) : OAt w' base o ck st l := by
  obtain ⟨⟨lv, hB, hR, hf⟩, hC, hb, ho⟩ := h
  exact ⟨⟨lv, hB.tch ht (.inr (h1 _ _ _ (.inr (.inr (.inl rfl))))), row_tch hR ht (fun _ _ => h1 _ _ _ (.inr (.inr (.inr rfl)))), hf⟩, hC.tch ht (fun cs t fr h => h1 cs t fr (by rcases h with h | h; exact .inl h; exact .inr (.inl h))) h2, hb, ho⟩
theorem OAt.of_ss {w w' : World} {base o ck : Nat} {st : List Pt} {l : List Ev} (h : OAt w base o ck st l) (ht : Tch base ssObj w w') : OAt w' base o ck st l :=
  h.tch ht (fun cs t fr h hc => by simp only [ssObj] at hc; rcases h with rfl | rfl | rfl | rfl <;> exact absurd hc (by decide)) (fun _ _ hc => hc)
structure Mach where
  σ : Type
  T : TypeId
  fs : FuncId
  fe : FuncId
  hms : ∀ (a : Addr) (w : World), (method 318 T (.pointer (some a)) "Step").run Tryz.prog w = .ok (fs, .pointer (some a)) w
  hme : ∀ (a : Addr) (w : World), (method 318 T (.pointer (some a)) "End").run Tryz.prog w = .ok (fe, .pointer (some a)) w
  efs : ∀ args w, (callFunc fs args).run Tryz.prog w = .ok (.enter fs args) w
  efe : ∀ args w, (callFunc fe args).run Tryz.prog w = .ok (.enter fe args) w
  x0 : σ
  stp : σ → UInt8 → σ
  ste : σ → UInt8 → Int
  fin : σ → σ
  fne : σ → Int
  st : σ → List Pt
  l : σ → List Ev
  Inv : σ → Nat → Prop
  raw : World → Nat → Nat → Prop
  At : World → Nat → Nat → Nat → Nat → Nat → σ → Prop
  obj : Obj → Prop
  nss : ∀ cs t fr, t = 56 ∨ t = 88 → ¬ obj (.cells cs t fr)
  inv0 : Inv x0 0
  inv_step : ∀ {x n} b, Inv x n → ste x b = 0 → Inv (stp x b) (n + 2)
  len_step : ∀ {x n} b, Inv x n → (l (stp x b)).length ≤ 2 * (n + 2)
  inv_mono : ∀ {x n k}, Inv x n → n ≤ k → Inv x k
  inv_len : ∀ {x n}, Inv x n → (l x).length ≤ 2 * n
  raw_below : ∀ {w w' base m}, raw w base m → Below w.heap.size w w' → raw w' base m
  raw_lim : ∀ {w base m}, raw w base m → Fo.lim ≤ w.heap.size
  start : ∀ {w0 w base b2 B m o ck}, raw w0 base m → base ≤ w0.heap.size → Below w0.heap.size w0 w → w0.heap.size ≤ b2 → b2 ≤ w.heap.size → OAt w b2 o ck [topP] [] → At w base B m o ck x0
  out : ∀ {w base B m o ck x}, At w base B m o ck x → OAt w base o ck (st x) (l x)
  ss : ∀ {w w' base B m o ck x}, At w base B m o ck x → Tch base ssObj w w' → (∀ k o, B ≤ k → w.heap[k]? = some o → w'.heap[k]? = some o) → At w' base B m o ck x
  step_any : ∀ (w : World) (base B m o ck : Nat) (x : σ) (b : UInt8) (n : Nat), At w base B m o ck x → Inv x n → n ≤ 100000 → B ≤ w.heap.size → SW base w → base ≤ w.heap.size →
    Calls Tryz.prog fs #[.pointer (some ⟨m, 0, none⟩), .int .u8 (b.toNat : Int), .pointer (some ⟨o, 0, none⟩)] w fun e w' => e = .returned (.int .i64 (ste x b)) ∧ At w' base B m o ck (stp x b) ∧ FrG obj base B w w'
  end_any : ∀ (w : World) (base B m o ck : Nat) (x : σ) (n : Nat), At w base B m o ck x → Inv x n → n ≤ 100000 → SW base w → base ≤ w.heap.size →
    Calls Tryz.prog fe #[.pointer (some ⟨m, 0, none⟩), .pointer (some ⟨o, 0, none⟩)] w fun e w' => e = .returned (.int .i64 (fne x)) ∧ OAt w' base o ck (st (fin x)) (l (fin x)) ∧ FrG obj base B w w'
end Go.Proofs.YtmimadkepflmlaaGreatDoor

/-
  stream: the bytes of a text, for any machine.
  stream: the end of a text, for any machine.
  stream: New and Decode, for any machine.
  stream: what was told is a run of the events' machine; when the end is OK it is a document: for any machine of which it holds step by step. No program is read here.
-/
import Derived.Test.YtmimadkepflmlaaGreatDoorPaZ32
import Derived.Test.YtmimadkepflmlaaGreatDoorPaZ05
import Derived.Test.YtmimadkepflmlaaGreatDoorPaZ18
namespace Go.Proofs.YtmimadkepflmlaaGreatDoor
open Go.RowKit Go.Maps
set_option maxRecDepth 100000
set_option linter.unusedSimpArgs false
set_option linter.unusedVariables false
set_option linter.unusedSectionVars false
variable [Tab] [Fo]
variable {M : Mach}

def feedG (x : Ss M) (l : List UInt8) : Ss M := l.foldl feed1 x
theorem feedG_cons (x : Ss M) (c : UInt8) (l : List UInt8) : feedG x (c :: l) = feedG (feed1 x c) l := rfl
theorem feed1_stop {x : Ss M} (h : x.e ≠ 0) (c : UInt8) : feed1 x c = x := by unfold feed1; rw [if_pos h]
theorem feedG_stop {x : Ss M} (h : x.e ≠ 0) : ∀ l, feedG x l = x
  | [] => rfl
  | c :: l => by rw [feedG_cons, feed1_stop h]; exact feedG_stop h l
structure SInv (x : Ss M) (k : Nat) : Prop where
  b : x.e = 0 → M.Inv x.b (2 * k)
  ln : (M.l x.b).length ≤ 2 * (2 * k)
  rd : x.rd ≤ k
  sl : 0 ≤ x.sl ∧ x.sl ≤ 3
theorem sinv_feed1 {x : Ss M} {k : Nat} (h : SInv x k) (c : UInt8) : SInv (feed1 x c) (k + 1) := by
  unfold feed1
  split
  · rename_i he
    exact ⟨fun e => absurd e he, by have := h.ln; omega, by have := h.rd; omega, h.sl⟩
  · rename_i he
    have he' : x.e = 0 := by simpa using he
    split
    · exact ⟨fun e => M.inv_step c (h.b he') e, M.len_step c (h.b he'), by have := h.rd; simp only; split <;> omega, stL_range h.sl.1 h.sl.2⟩
    · exact ⟨fun e => absurd (show (3 : Int) = 0 from e) (by decide), by have := h.ln; simp only; omega, by have := h.rd; simp only; omega, h.sl⟩
theorem sinv0 : SInv (ss0 M) 0 := ⟨fun _ => M.inv0, M.inv_len M.inv0, by simp [ss0], by simp [ss0]⟩
theorem sinv_feedG : ∀ (l : List UInt8) (x : Ss M) (k : Nat), SInv x k → SInv (feedG x l) (k + l.length)
  | [], _, _, h => h
  | c :: l, x, k, h => by
    have := sinv_feedG l (feed1 x c) (k + 1) (sinv_feed1 h c)
    rw [feedG_cons, List.length_cons]
    rwa [show k + (l.length + 1) = k + 1 + l.length from by omega]

set_option maxHeartbeats 4000000 in
theorem feed_any (w : World) (base B s m sc o ck : Nat) (x : Ss M) (en : Bool) (n : Nat) (v : Value) (bs : List UInt8) (h : StA w base B s m sc o ck x false en) (hi : SInv x n) (hn : n + bs.length ≤ 50000) (hv : ∀ w', Below base w w' → BRead w' v bs) (hw : SW base w) :
    Calls Tryz.prog 18 #[.pointer (some ⟨s, 0, none⟩), v] w fun e w' => e = .returned (.bool true) ∧ StA w' base B s m sc o ck (feedG x bs) false en ∧ LowF base w w' := by
  obtain ⟨A, c, rfl, _⟩ := hv w (Below.refl _ _)
  have c5 := h.blk.cell 5
  unfold sCells at c5
  go_enter Tryz.func18, Tryz.ntmps18
  go_wp2
  clear c5
  go_loopw [5] (fun i wr => ∃ (k : Nat) (y : Ss M), k ≤ bs.length ∧ i = .int .i64 k ∧ StA wr base B s m sc o ck y false en ∧ Hid (SInv y (n + k)) ∧ Hid (LowF base w wr) ∧ Hid (feedG x bs = feedG y (bs.drop k))) (fun i _ => bs.length - (intOf i).toNat)
  case atStart => exact ⟨0, x, Nat.zero_le _, rfl, h, Lib.hid hi, Lib.hid (LowF.refl _ _), Lib.hid rfl⟩
  case round =>
    obtain ⟨k, y, hk, rfl, hA, HI, HB, HW⟩ := hrel
    have c3 := hA.blk.cell 3
    unfold sCells at c3
    have HA := Lib.hid hA
    by_cases hlt : k < bs.length
    · by_cases he : y.e = 0
      · rw [he] at c3
        have hd := HW.out
        rw [List.drop_eq_getElem_cons hlt, feedG_cons] at hd
        have HD := Lib.hid hd
        obtain ⟨ad, rfl, hcell⟩ : ∃ ad : Addr, A = some ad ∧ ∀ j (h : j < bs.length), wr.cell? (ad.add j) = some (.int .u8 (bs[j].toNat : Int)) := by
          obtain ⟨A', c', hvv, hr⟩ := hv wr HB.out.low
          injection hvv with e1 _ _
          obtain ⟨ad, e2, hcell⟩ := hr (by omega)
          exact ⟨ad, e1.trans e2, hcell⟩
        have hck := hcell k hlt
        have HC := Lib.hid (sstep_any wr base B s m sc o ck y false en bs[k] (2 * (n + k)) hA he (HI.out.b he) (by omega) (by have := HI.out.rd; omega) HI.out.sl (hw.below HB.out.low))
        have HI2 := Lib.hid (sinv_feed1 HI.out bs[k])
        clear hA hd hcell he
        go_wp2_with fail
        refine HC.out.mono ?_
        rintro e w3 ⟨rfl, hA3, hB3⟩
        go_wp2
        go_roundw
        case rel => exact ⟨k + 1, _, hlt, by go_num, hA3, HI2, Lib.hid (HB.out.trans hB3), HD⟩
        case measure => first | (simp [intOf]; done) | (simp [intOf]; omega)
      · have e0 : (y.e == 0) = false := by rw [beq_eq_false_iff_ne]; exact he
        have HD := Lib.hid (HW.out.trans (feedG_stop he _))
        clear hA he
        go_wp2
        go_ret
        exact ⟨rfl, by rw [HD.out]; exact HA.out, HB.out⟩
    · have hke : k = bs.length := by omega
      have hd := HW.out
      rw [List.drop_of_length_le (by omega)] at hd
      have HD := Lib.hid hd
      subst hke
      clear hA hd
      go_wp2
      go_ret
      exact ⟨rfl, by rw [HD.out]; exact HA.out, HB.out⟩
end Go.Proofs.YtmimadkepflmlaaGreatDoor
namespace Go.Proofs.YtmimadkepflmlaaGreatDoor
open Go.RowKit Go.Maps
set_option maxRecDepth 100000
set_option linter.unusedSimpArgs false
set_option linter.unusedVariables false
set_option linter.unusedSectionVars false
variable [Tab] [Fo]
variable {M : Mach}

def endE (x : Ss M) : Int := if x.sl = 0 then M.fne x.b else 3
def endBs (x : Ss M) : M.σ := if x.sl = 0 then M.fin x.b else x.b
structure EAt (T : TypeId) (w : World) (base s m sc o ck : Nat) (e : Int) (rd : Nat) (cl en : Bool) (st : List Pt) (l : List Ev) : Prop where
  blk : Blk w s 56 (sCells T m sc o e rd cl en)
  out : OAt w base o ck st l
  bs : base ≤ s
  ns : ¬ Fo.F s

set_option maxHeartbeats 4000000 in
theorem send_any (w : World) (base B s m sc o ck : Nat) (x : Ss M) (cl en : Bool) (n : Nat) (h : StA w base B s m sc o ck x cl en) (hi : M.Inv x.b n) (hn : n ≤ 100000) (hw : SW base w) :
    Calls Tryz.prog 28 #[.pointer (some ⟨s, 0, none⟩)] w fun e w' => e = .returned (.int .i64 (endE x)) ∧ EAt M.T w' base s m sc o ck x.e x.rd cl en (M.st (endBs x)) (M.l (endBs x)) ∧ LowF base w w' := by
  have c0 := h.blk.cell 0
  have c1 := h.blk.cell 1
  have c2 := h.blk.cell 2
  unfold sCells at c0 c1 c2
  have hlt := h.blk.lt
  have hWh := whole_any w sc x.sl x.slo x.shi h.scan
  unfold endE endBs
  by_cases hz : x.sl = 0
  · rw [if_pos hz, if_pos hz]
    rw [hz] at hWh
    have HE := Lib.hid (M.end_any w.drew base B m o ck x.b n (M.ss h.d (Tch.refl base ssObj w).drew (fun _ _ _ ho => ho)) hi hn (hw.below (below_drew (Below.refl _ _))) h.p.hb)
    have HA := Lib.hid h
    clear hz h
    go_enter Tryz.func28, Tryz.ntmps28
    go_wp2_with fail
    refine hWh.mono ?_
    rintro e w' ⟨rfl, rfl⟩
    go_wp2
    refine region_g [11] (S := (fun W => W.cell? ⟨s, 0, none⟩ = some (.iface M.T (.pointer (some ⟨m, 0, none⟩))) ∧ W.cell? ⟨s, 2, none⟩ = some (.pointer (some ⟨o, 0, none⟩)))) (by kernel_rfl) ⟨c0, c2⟩ (fun hH => ?_)
    refine g_take (i := 0) (v := .pointer (some ⟨s, 0, none⟩)) (by rfl) (by kernel_rfl) (by kernel_rfl) (by kernel_rfl) (by kernel_rfl) (fun _ _ _ h => (by cases h.1)) (Or.inl ⟨by rfl, fun W hS => (by obtain ⟨s0, s2⟩ := hS; go_simp)⟩) hH ?_
    simp only [Act.put, List.setIfInBounds_toArray, List.set_cons_zero, List.set_cons_succ]
    refine g_take (i := 1) (v := .pointer (some ⟨s, 0, none⟩)) (by rfl) (by kernel_rfl) (by kernel_rfl) (by kernel_rfl) (by kernel_rfl) (fun _ _ _ h => (by cases h.1)) (Or.inl ⟨by rfl, fun W hS => (by obtain ⟨s0, s2⟩ := hS; go_simp)⟩) hH ?_
    simp only [Act.put, List.setIfInBounds_toArray, List.set_cons_zero, List.set_cons_succ]
    refine g_take (i := 2) (v := .pointer (some ⟨s, 0, none⟩)) (by rfl) (by kernel_rfl) (by kernel_rfl) (by kernel_rfl) (by kernel_rfl) (fun _ _ _ h => (by cases h.1)) (Or.inl ⟨by rfl, fun W hS => (by obtain ⟨s0, s2⟩ := hS; go_simp)⟩) hH ?_
    simp only [Act.put, List.setIfInBounds_toArray, List.set_cons_zero, List.set_cons_succ]
    refine g_take (i := 3) (v := .iface M.T (.pointer (some ⟨m, 0, none⟩))) (by rfl) (by kernel_rfl) (by kernel_rfl) (by kernel_rfl) (by kernel_rfl) (fun _ _ _ h => (by cases h.1)) (Or.inl ⟨by rfl, fun W hS => (by obtain ⟨s0, s2⟩ := hS; go_simp)⟩) hH ?_
    simp only [Act.put, List.setIfInBounds_toArray, List.set_cons_zero, List.set_cons_succ]
    refine g_take (i := 4) (v := .pointer (some ⟨s, 0, none⟩)) (by rfl) (by kernel_rfl) (by kernel_rfl) (by kernel_rfl) (by kernel_rfl) (fun _ _ _ h => (by cases h.1)) (Or.inl ⟨by rfl, fun W hS => (by obtain ⟨s0, s2⟩ := hS; go_simp)⟩) hH ?_
    simp only [Act.put, List.setIfInBounds_toArray, List.set_cons_zero, List.set_cons_succ]
    refine g_take (i := 5) (v := .pointer (some ⟨s, 0, none⟩)) (by rfl) (by kernel_rfl) (by kernel_rfl) (by kernel_rfl) (by kernel_rfl) (fun _ _ _ h => (by cases h.1)) (Or.inl ⟨by rfl, fun W hS => (by obtain ⟨s0, s2⟩ := hS; go_simp)⟩) hH ?_
    simp only [Act.put, List.setIfInBounds_toArray, List.set_cons_zero, List.set_cons_succ]
    refine g_take (i := 6) (v := .pointer (some ⟨s, 2, none⟩)) (by rfl) (by kernel_rfl) (by kernel_rfl) (by kernel_rfl) (by kernel_rfl) (fun _ _ _ h => (by cases h.1)) (Or.inl ⟨by rfl, fun W hS => (by obtain ⟨s0, s2⟩ := hS; go_simp)⟩) hH ?_
    simp only [Act.put, List.setIfInBounds_toArray, List.set_cons_zero, List.set_cons_succ]
    refine g_take (i := 7) (v := .pointer (some ⟨o, 0, none⟩)) (by rfl) (by kernel_rfl) (by kernel_rfl) (by kernel_rfl) (by kernel_rfl) (fun _ _ _ h => (by cases h.1)) (Or.inl ⟨by rfl, fun W hS => (by obtain ⟨s0, s2⟩ := hS; go_simp)⟩) hH ?_
    simp only [Act.put, List.setIfInBounds_toArray, List.set_cons_zero, List.set_cons_succ]
    refine g_take (i := 8) (v := .iface M.T (.pointer (some ⟨m, 0, none⟩))) (by rfl) (by kernel_rfl) (by kernel_rfl) (by kernel_rfl) (by kernel_rfl) (fun _ _ _ h => (by cases h.1)) (Or.inl ⟨by rfl, fun W hS => (by obtain ⟨s0, s2⟩ := hS; go_simp)⟩) hH ?_
    simp only [Act.put, List.setIfInBounds_toArray, List.set_cons_zero, List.set_cons_succ]
    refine g_take (i := 9) (v := .iface M.T (.pointer (some ⟨m, 0, none⟩))) (by rfl) (by kernel_rfl) (by kernel_rfl) (by kernel_rfl) (by kernel_rfl) (fun _ _ _ h => (by cases h.1)) (Or.inl ⟨by rfl, fun W hS => (by obtain ⟨s0, s2⟩ := hS; go_simp)⟩) hH ?_
    simp only [Act.put, List.setIfInBounds_toArray, List.set_cons_zero, List.set_cons_succ]
    refine g_one (i := 10) (by kernel_rfl) (by rfl) (fun K hK => ?_)
    have hm := M.hme ⟨m, 0, none⟩ w.drew
    have he := M.efe
    go_simp
    try rw [hm]
    try simp only [Result.andThen_ok]
    try rw [M.efe]
    try go_simp
    refine HE.out.mono ?_
    rintro e w2 ⟨rfl, hO2, hF2⟩
    have hBs : Blk w2 s 56 (sCells M.T m sc o x.e x.rd cl en) := hF2.keep s _ HA.out.blk HA.out.p.sB (M.nss _ _ _ (.inl rfl))
    have s0 := hBs.cell 0
    have s2 := hBs.cell 2
    unfold sCells at s0 s2
    refine hK.out _ _ (fun _ => ⟨s0, s2⟩) (fun _ => ?_)
    clear hK K
    have HF := Lib.hid (And.intro (EAt.mk hBs hO2 HA.out.p.bs HA.out.ns.1) ((LowF.drew base w).trans hF2.lowF))
    clear hm HA HE hBs hO2 hF2
    refine g_one (i := 11) (by kernel_rfl) (by rfl) (fun K hK => ?_)
    go_simp
    refine hK.out _ _ (fun h => absurd (List.mem_singleton.2 rfl) h) (fun _ => ?_)
    clear hK K
    refine g_done (by kernel_rfl) ⟨by first | rfl | trivial, ?_⟩ _
    go_wp2
    go_ret
    exact ⟨rfl, HF.out.1, HF.out.2⟩
  · rw [if_neg hz, if_neg hz]
    have e1 : decide (x.sl = 0) = false := by simpa using hz
    rw [e1] at hWh
    have HF := Lib.hid (And.intro (EAt.mk h.blk (M.out h.d) h.p.bs h.ns.1) (LowF.refl base w))
    clear hz h e1
    go_enter Tryz.func28, Tryz.ntmps28
    go_wp2_with fail
    refine hWh.mono ?_
    rintro e w' ⟨rfl, rfl⟩
    go_wp2
    go_ret
    exact ⟨rfl, HF.out.1, HF.out.2⟩

def closeE (x : Ss M) : Int := if x.e ≠ 0 then x.e else endE x
def closeBs (x : Ss M) : M.σ := if x.e ≠ 0 then x.b else endBs x
theorem EAt.set {T : TypeId} {w : World} {base s m sc o ck : Nat} {e : Int} {rd : Nat} {cl en : Bool} {st : List Pt} {l : List Ev} (h : EAt T w base s m sc o ck e rd cl en st l) (i : Nat) (u : Value) (e' : Int) (rd' : Nat) (cl' en' : Bool) (hc : (sCells T m sc o e rd cl en).setIfInBounds i u = sCells T m sc o e' rd' cl' en') :
    EAt T (w.setCell ⟨s, i, none⟩ u) base s m sc o ck e' rd' cl' en' st l ∧ LowF base w (w.setCell ⟨s, i, none⟩ u) := by
  have ht : Tch base ssObj w (w.setCell ⟨s, i, none⟩ u) := (Tch.refl _ _ _).set h.blk h.bs h.ns (show ssObj (.cells _ _ _) from .inl rfl) i u
  exact ⟨⟨by rw [← hc]; exact h.blk.set_ i u, h.out.of_ss ht, h.bs, h.ns⟩, LowF.of_tch ht (Nat.le_trans h.bs (Nat.le_of_lt h.blk.lt))⟩

set_option maxHeartbeats 4000000 in
theorem sclose_any (w : World) (base B s m sc o ck : Nat) (x : Ss M) (en : Bool) (n : Nat) (h : StA w base B s m sc o ck x false en) (hi : x.e = 0 → M.Inv x.b n) (hn : n ≤ 100000) (hw : SW base w) :
    Calls Tryz.prog 19 #[.pointer (some ⟨s, 0, none⟩)] w fun e w' => e = .returned (.tuple #[]) ∧ EAt M.T w' base s m sc o ck (closeE x) x.rd true en (M.st (closeBs x)) (M.l (closeBs x)) ∧ LowF base w w' := by
  have c5 := h.blk.cell 5
  have c3 := h.blk.cell 3
  unfold sCells at c5 c3
  have f5 := h.blk.frozen 5
  have hlt := h.blk.lt
  unfold closeE closeBs
  by_cases he : x.e = 0
  · rw [if_neg (by simp [he]), if_neg (by simp [he])]
    rw [he] at c3
    have hC := send_any w base B s m sc o ck x false en n h (hi he) hn hw
    obtain ⟨E, hE⟩ : ∃ E, endE x = E := ⟨_, rfl⟩
    rw [hE] at hC ⊢
    rw [he] at hC
    have HC := Lib.hid hC
    clear h he hE hC
    go_enter Tryz.func19, Tryz.ntmps19
    go_wp2_with fail
    refine HC.out.mono ?_
    rintro e w1 ⟨rfl, hE1, hB1⟩
    have g3 := hE1.blk.cell 3
    have gf3 := hE1.blk.frozen 3
    have gl := hE1.blk.lt
    unfold sCells at g3
    obtain ⟨hE2, hB2⟩ := hE1.set 3 (.int .i64 E) E x.rd false en rfl
    obtain ⟨hE3, hB3⟩ := hE2.set 5 (.bool true) E x.rd true en rfl
    have k5 := hE2.blk.cell 5
    have kf5 := hE2.blk.frozen 5
    have kl := hE2.blk.lt
    unfold sCells at k5
    have HF := Lib.hid (And.intro hE3 ((hB1.trans hB2).trans hB3))
    clear HC hE1 hB1 hE2 hB2 hE3 hB3 c5 c3 f5 hlt
    go_wp2
    go_end0
    exact ⟨rfl, HF.out.1, HF.out.2⟩
  · rw [if_pos he, if_pos he]
    have e0 : (x.e == 0) = false := by rw [beq_eq_false_iff_ne]; exact he
    have hE1 : EAt M.T w base s m sc o ck x.e x.rd false en (M.st x.b) (M.l x.b) := EAt.mk h.blk (M.out h.d) h.p.bs h.ns.1
    obtain ⟨hE3, hB3⟩ := hE1.set 5 (.bool true) x.e x.rd true en rfl
    have HF := Lib.hid (And.intro hE3 hB3)
    clear h he hE1 hE3 hB3
    go_enter Tryz.func19, Tryz.ntmps19
    go_wp2
    go_end0
    exact ⟨rfl, HF.out.1, HF.out.2⟩
end Go.Proofs.YtmimadkepflmlaaGreatDoor
namespace Go.Proofs.YtmimadkepflmlaaGreatDoor
open Go.RowKit Go.Maps
set_option maxRecDepth 100000
set_option linter.unusedSimpArgs false
set_option linter.unusedVariables false
set_option linter.unusedSectionVars false
variable [Tab] [Fo]
variable (M : Mach)

set_option maxHeartbeats 4000000 in
theorem snew_any (w : World) (base m : Nat) (hM : M.raw w base m) (hb : base ≤ w.heap.size) :
    Calls Tryz.prog 17 #[.iface M.T (.pointer (some ⟨m, 0, none⟩))] w fun e w' => ∃ B s sc o ck, e = .returned (.pointer (some ⟨s, 0, none⟩)) ∧ StA w' base B s m sc o ck (ss0 M) false false ∧ LowF base w w' := by
  go_enter Tryz.func17, Tryz.ntmps17
  go_wp2_with (first
    | (go_at_call 26; refine (new_any _).mono ?_; rintro e w1 ⟨rfl, rfl⟩))
  have hS1 : ScanAt (w.alloc (.cells #[.int .i64 0, .int .u8 128, .int .u8 191] 88)) w.heap.size 0 128 191 := Blk.new w _ _
  have al1 : Below w.heap.size w (w.alloc (.cells #[.int .i64 0, .int .u8 128, .int .u8 191] 88)) := (Below.refl _ _).alloc (Nat.le_refl _) _
  have hfl := M.raw_lim hM
  obtain ⟨W0, hW0⟩ : ∃ W0, w.alloc (.cells #[.int .i64 0, .int .u8 128, .int .u8 191] 88) = W0 := ⟨_, rfl⟩
  have hz1 : w.heap.size ≤ W0.heap.size := by rw [← hW0]; simp
  have hz0 : base ≤ W0.heap.size := Nat.le_trans hb (by rw [← hW0]; simp)
  rw [hW0] at hS1 al1 ⊢
  go_wp2_with (first
    | (go_at_call 13; refine (cnew_any W0 W0.heap.size (Nat.le_refl _) (Nat.le_trans hfl hz1)).mono ?_; rintro e w2 ⟨ck, rfl, hck, hC2, hb2⟩))
  go_ret
  have hz2 : W0.heap.size ≤ w2.heap.size := hb2.size
  have hS2 := hS1.below hb2 hS1.lt
  have hT : Below w2.heap.size w2 ((w2.alloc (.cells #[.pointer (some ⟨ck, 0, none⟩), .slice none 0 0] 52)).alloc (.cells (sCells M.T m w.heap.size w2.heap.size 0 0 false false) 56)) := ((Below.refl _ _).alloc (Nat.le_refl _) _).alloc (by simp) _
  have hO := Blk.new w2 52 #[.pointer (some ⟨ck, 0, none⟩), .slice none 0 0]
  have hO3 := hO.alloc (.cells (sCells M.T m w.heap.size w2.heap.size 0 0 false false) 56)
  have hSB := Blk.new (w2.alloc (.cells #[.pointer (some ⟨ck, 0, none⟩), .slice none 0 0] 52)) 56 (sCells M.T m w.heap.size w2.heap.size 0 0 false false)
  have hsz : (w2.alloc (.cells #[.pointer (some ⟨ck, 0, none⟩), .slice none 0 0] 52)).heap.size = w2.heap.size + 1 := by simp
  rw [hsz] at hSB
  refine ⟨((w2.alloc (.cells #[.pointer (some ⟨ck, 0, none⟩), .slice none 0 0] 52)).alloc (.cells (sCells M.T m w.heap.size w2.heap.size 0 0 false false) 56)).heap.size, w2.heap.size + 1, w.heap.size, w2.heap.size, ck, rfl, ?_, ?_⟩
  · refine ⟨hSB, hS2.below hT hS2.lt, M.start hM hb ((al1.trans (hb2.mono hz1)).trans (hT.mono (Nat.le_trans hz1 hz2))) hz1 (Nat.le_trans hz2 hT.size) ⟨⟨_, hO3, ERow.nil _ _, NF.nil⟩, hC2.below hT, hz2, nf_new (by omega)⟩, ⟨nf_new (by omega), nf_new hfl⟩, ?_⟩
    have := hS1.lt
    exact ⟨hSB.lt, Nat.lt_of_lt_of_le hS2.lt hT.size, by omega, hb, Nat.le_refl _, Nat.le_trans (Nat.le_trans hz0 hz2) hT.size⟩
  · exact ((LowF.of_below al1 hb).trans (LowF.of_below hb2 hz0)).trans (LowF.of_below hT (Nat.le_trans hz0 hz2))

variable {M}
/-- What a decoder returns. -/
def DEnd (lv : Value) (x : Ss M) : Ending := .returned (.tuple #[lv, .int .i64 (closeE x), .int .i64 (x.rd : Int)])

set_option maxHeartbeats 4000000 in
theorem sdecode_any (w : World) (base m : Nat) (v : Value) (bs : List UInt8) (hM : M.raw w base m) (hb : base ≤ w.heap.size) (hn : bs.length ≤ 50000) (hv : ∀ w', Below base w w' → BRead w' v bs) (hw : SW base w) :
    Calls Tryz.prog 12 #[.iface M.T (.pointer (some ⟨m, 0, none⟩)), v] w fun e w' => ∃ lv, e = DEnd lv (feedG (ss0 M) bs) ∧ ERow w' base lv (M.l (closeBs (feedG (ss0 M) bs))) ∧ Below base w w' := by
  have hx := sinv_feedG bs (ss0 M) 0 sinv0
  rw [Nat.zero_add] at hx
  have HX := Lib.hid hx
  have HV := Lib.hid hv
  have HN := Lib.hid hn
  have HWs := Lib.hid hw
  clear hx hv hw hn
  unfold DEnd
  generalize hy : feedG (ss0 M) bs = y at *
  have HY := Lib.hid hy
  clear hy
  obtain ⟨E, hE⟩ : ∃ E, closeE y = E := ⟨_, rfl⟩
  rw [hE]
  have HE := Lib.hid hE
  clear hE
  go_enter Tryz.func12, Tryz.ntmps12
  go_wp2_with (first
    | (go_at_call 17; refine (snew_any M _ base m hM hb).mono ?_; rintro e w1 ⟨B, s, sc, o, ck, rfl, hA1, hb1⟩))
  have HB1 := Lib.hid hb1.low
  have HC := Lib.hid (feed_any w1 base B s m sc o ck (ss0 M) false 0 v bs hA1 sinv0 (by have := HN.out; omega) (fun w' h => HV.out w' (HB1.out.trans h)) (HWs.out.below hb1.low))
  clear hb1 hA1 hM
  go_wp2_with fail
  refine HC.out.mono ?_
  rintro e w2 ⟨rfl, hA2, hb2⟩
  rw [HY.out] at hA2
  have HB2 := Lib.hid (HB1.out.trans hb2.low)
  have hD := sclose_any w2 base B s m sc o ck y false (2 * bs.length) hA2 HX.out.b (by have := HN.out; omega) (HWs.out.below HB2.out)
  rw [HE.out] at hD
  have HD := Lib.hid hD
  clear hD
  clear hb2 hA2 HC
  go_wp2_with fail
  refine HD.out.mono ?_
  rintro e w3 ⟨rfl, hE3, hb3⟩
  have HB3 := Lib.hid (HB2.out.trans hb3.low)
  have b2 := hE3.blk.cell 2
  have b3 := hE3.blk.cell 3
  have b4 := hE3.blk.cell 4
  unfold sCells at b2 b3 b4
  obtain ⟨⟨lv, hO, hR, _⟩, _, _, _⟩ := hE3.out
  have o1 := hO.cell 1
  have HR := Lib.hid hR
  clear hE3 hb3 hO hR HD
  have b4' : w3.cell? ⟨s, 4, none⟩ = some (.int .i64 (y.rd : Int)) := b4
  go_wp2
  go_region
  go_wp2
  go_ret3
  exact ⟨lv, rfl, HR.out.below (below_drew (Below.refl _ _)), HB3.out.trans (below_drew (Below.refl _ _))⟩

end Go.Proofs.YtmimadkepflmlaaGreatDoor
namespace Go.Proofs.YtmimadkepflmlaaGreatDoor
set_option maxRecDepth 100000
set_option linter.unusedSimpArgs false
set_option linter.unusedVariables false
set_option linter.unusedSectionVars false
variable [Tab] [Fo]

/-- What was told is a run. -/
structure TkM (M : Mach) (x : M.σ) : Prop where
  ok : allOk [topP] (M.l x)
  run : M.st x = runS [topP] (M.l x)
  sz : ∀ e ∈ M.l x, okE e
structure MachW (M : Mach) where
  PI : M.σ → Prop
  tk : ∀ {x}, PI x → TkM M x
  pi0 : PI M.x0
  step : ∀ {x n} b, PI x → M.Inv x n → TkM M (M.stp x b) ∧ (M.ste x b = 0 → PI (M.stp x b))
  fin : ∀ {x n}, PI x → M.Inv x n → TkM M (M.fin x) ∧ (M.fne x = 0 → doneB (M.st (M.fin x)) = true)
  len : ∀ {x n}, M.Inv x n → (M.l (M.fin x)).length ≤ 2 * (n + 1)
variable {M : Mach} (F : MachW M)
structure FI (x : Ss M) (k : Nat) : Prop where
  tk : TkM M x.b
  pi : x.e = 0 → F.PI x.b
  rd : x.e = 0 → x.rd = k
theorem fi_feed1 {x : Ss M} {k : Nat} (h : FI F x k) (hi : SInv x k) (c : UInt8) : FI F (feed1 x c) (k + 1) := by
  unfold feed1
  split
  · rename_i he; exact ⟨h.tk, fun h0 => absurd h0 he, fun h0 => absurd h0 he⟩
  · rename_i he
    have he' : x.e = 0 := by simpa using he
    split
    · have hp := F.step c (h.pi he') (hi.b he')
      exact ⟨hp.1, hp.2, fun h0 => by have h0' : M.ste x.b c = 0 := h0; simp only [if_pos h0']; rw [h.rd he']⟩
    · exact ⟨h.tk, fun h0 => absurd (show (3 : Int) = 0 from h0) (by decide), fun h0 => absurd (show (3 : Int) = 0 from h0) (by decide)⟩
theorem fi_feedG : ∀ (l : List UInt8) (x : Ss M) (k : Nat), FI F x k → SInv x k → FI F (feedG x l) (k + l.length)
  | [], _, _, h, _ => h
  | c :: l, x, k, h, hi => by
    have := fi_feedG l (feed1 x c) (k + 1) (fi_feed1 F h hi c) (sinv_feed1 hi c)
    rw [feedG_cons, List.length_cons]
    rwa [show k + (l.length + 1) = k + 1 + l.length from by omega]
theorem fi0 : FI F (ss0 M) 0 := ⟨F.tk F.pi0, fun _ => F.pi0, fun _ => rfl⟩
/-- All of a text. -/
theorem text_facts (F : MachW M) (bs : List UInt8) : (M.l (closeBs (feedG (ss0 M) bs))).length ≤ 4 * bs.length + 2 ∧ (feedG (ss0 M) bs).rd ≤ bs.length ∧ (closeE (feedG (ss0 M) bs) = 0 → (feedG (ss0 M) bs).rd = bs.length)
    ∧ (∀ x ∈ (M.l (closeBs (feedG (ss0 M) bs))), okE x)
    ∧ wholeGo 0 [topP] (M.l (closeBs (feedG (ss0 M) bs))) = ((M.l (closeBs (feedG (ss0 M) bs))).length, if doneB (M.st (closeBs (feedG (ss0 M) bs))) then 0 else 19)
    ∧ (closeE (feedG (ss0 M) bs) = 0 → doneB (M.st (closeBs (feedG (ss0 M) bs))) = true) := by
  have hf := fi_feedG F bs (ss0 M) 0 (fi0 F) sinv0
  have hs := sinv_feedG bs (ss0 M) 0 sinv0
  rw [Nat.zero_add] at hf hs
  generalize feedG (ss0 M) bs = y at *
  have hE : TkM M (closeBs y) ∧ (closeE y = 0 → y.e = 0 ∧ doneB (M.st (closeBs y)) = true) := by
    unfold closeE closeBs endE endBs
    by_cases he : y.e = 0
    · by_cases hz : y.sl = 0
      · simp only [he, hz, ne_eq, not_true_eq_false, if_false, if_true, true_and]
        have := F.fin (hf.pi he) (hs.b he)
        exact ⟨this.1, fun h => this.2 h⟩
      · simp only [he, hz, ne_eq, not_true_eq_false, if_false, true_and]
        exact ⟨hf.tk, fun h => absurd h (by decide)⟩
    · simp only [he, ne_eq, not_false_eq_true, if_true, false_and]
      exact ⟨hf.tk, fun h => h⟩
  have hlen : (M.l (closeBs y)).length ≤ 4 * bs.length + 2 := by
    have h2 := hs.ln
    unfold closeBs endBs
    split
    · omega
    · rename_i he
      have h1 := F.len (hs.b (by simpa using he))
      split <;> omega
  refine ⟨hlen, hs.rd, fun h => hf.rd (hE.2 h).1, hE.1.sz, ?_, fun h => (hE.2 h).2⟩
  rw [whole_of hE.1.ok, ← hE.1.run]
end Go.Proofs.YtmimadkepflmlaaGreatDoor

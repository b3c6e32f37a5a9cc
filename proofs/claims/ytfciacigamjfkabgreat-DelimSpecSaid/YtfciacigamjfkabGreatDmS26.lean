/-
  delim: its machine as one that a Stream drives; Decode.
  Put's contract: the bytes of a character, or none.
-/
import Derived.Test.YtfciacigamjfkabGreatDmS23
import Derived.Test.YtfciacigamjfkabGreatDmS24
import Derived.Test.YtfciacigamjfkabGreatDmS25
import Derived.Test.YtfciacigamjfkabGreatDmS05
namespace Go.Proofs.YtfciacigamjfkabGreat
open Go.RowKit Go.Maps
set_option maxRecDepth 100000
set_option linter.unusedSimpArgs false
set_option linter.unusedVariables false
set_option linter.unusedSectionVars false
set_option linter.unusedSectionVars false
variable [Tab] [Fo]

theorem row_dn {w : World} {b b' : Nat} {e : TypeId} {size n : Nat} {v : Value} {xs : List Value} (hR : w.ownsRow b' e size v n xs) (hb : b ≤ b') : w.ownsRow b e size v n xs := by
  refine ⟨hR.1, ?_⟩
  rcases hR.2 with hn | ⟨g', cap', cur, hv, hg', hh, q⟩
  · exact .inl hn
  · exact .inr ⟨g', cap', cur, hv, Nat.le_trans hb hg', hh, q⟩
theorem CRep.mono' {w : World} {b b' g rb cap : Nat} {qs : List PQ} (h : CRep w b' g rb cap qs) (hb : b ≤ b') : CRep w b g rb cap qs := by
  refine ⟨Nat.le_trans hb h.hg, h.blk, ⟨h.row.1, ?_⟩, ?_, h.nf⟩
  · rcases h.row.2 with hn | ⟨g', cap', cur, hv, hg', hh, q⟩
    · exact .inl hn
    · exact .inr ⟨g', cap', cur, hv, Nat.le_trans hb hg', hh, q⟩
  · have : ∀ l : List PQ, MapsOk w b' l → MapsOk w b l := by
      intro l
      induction l with
      | nil => intro h; exact h
      | cons q r ih => intro h; exact ⟨fun c hc => ⟨⟨Nat.le_trans hb (h.1 c hc).1.1, (h.1 c hc).1.2⟩, (h.1 c hc).2⟩, h.2.1, ih h.2.2⟩
    exact this qs h.maps
/-- The attributes' Check takes an event. -/
theorem OAt.dn {w : World} {base b o ck : Nat} {st : List Pt} {l : List Ev} (h : OAt w b o ck st l) (hb : base ≤ b) : OAt w base o ck st l := by
  obtain ⟨⟨lv, hB, hR, hf⟩, ⟨rb, cap, qs, hq, hC⟩, hbo, ho⟩ := h
  exact ⟨⟨lv, hB, hR.low hb, hf⟩, ⟨rb, cap, qs, hq, hC.mono' hb⟩, Nat.le_trans hb hbo, ho⟩
theorem DIn.pre {s : Ds} {n : Nat} (h : DIn s n) (hn : n ≤ 100000) : DPre s := by
  have := h.mc.n8
  have := h.ln
  exact ⟨fun e => (h.mc.hy e).1, by omega, h.mc.cz, by omega, h.mc.cl, h.tk.good, by omega⟩
theorem DX.ss {w w' : World} {base m o ck : Nat} {s : Ds} (h : DX w base m o ck s) (ht : Tch base ssObj w w') : DX w' base m o ck s := by
  obtain ⟨cv, g, hM⟩ := h.mc
  exact ⟨⟨cv, g, hM.tch ht (fun cs t fr hh hc => by simp only [ssObj] at hc; rcases hh with rfl | rfl | rfl <;> exact absurd hc (by decide))⟩, h.out.of_ss ht⟩
theorem DPo.fr {w w' : World} {base B m o ck : Nat} {r : Dr} {e : Ending} (h : DPo w base m o ck r e w') (hb : base ≤ w.heap.size) : e = .returned (.int .i64 r.e) ∧ DX w' base m o ck r.b ∧ FrG dObj base B w w' :=
  ⟨h.1, h.2.1, FrG.of_tch h.2.2 hb⟩
@[reducible] def dlM : Mach where
  toMachP := dlP
  T := 61
  fs := 136
  fe := 135
  hms := fun a w => by kernel_rfl
  hme := fun a w => by kernel_rfl
  efs := fun args w => enters_of Tryz.func136 (by kernel_rfl) rfl args w
  efe := fun args w => enters_of Tryz.func135 (by kernel_rfl) rfl args w
  num := False
  raw := draw
  At := fun w base _ m o ck s => DX w base m o ck s
  obj := dObj
  nss := fun cs t fr h hc => by
    simp only [dObj, tObj, dmObj] at hc
    rcases h with rfl | rfl <;> exact absurd hc (by decide)
  raw_below := fun h hb => h.below hb
  raw_lim := fun h => by obtain ⟨_, _, h1⟩ := h; exact h1.lim
  start := fun h hb0 hb h1 h2 ho => by
    obtain ⟨cv, g, k1⟩ := h
    exact ⟨⟨cv, g, k1.below hb⟩, ho.dn (Nat.le_trans hb0 h1)⟩
  out := fun h => h.out
  ss := fun h ht _ => h.ss ht
  step_any := fun w base B m o ck s b n h hi hn _ hw hb => (dstep_all w base m o ck s b h (hi.pre hn) hi.mc.av (by have := hi.ln; omega)).mono fun e w' hp => DPo.fr (B := B) hp hb
  end_any := fun w base B m o ck s n h hi hn hw hb => (dend_all w base m o ck s h (hi.pre hn) hi.mc.av (by have := hi.ln; omega)).mono fun e w' hp => by
    obtain ⟨h1, h2, h3⟩ := DPo.fr (B := B) hp hb
    exact ⟨h1, h2.out, h3⟩

set_option maxHeartbeats 4000000 in
theorem ddecode_any0 (w : World) (v : Value) (bs : List UInt8) (hn : bs.length ≤ 50000) (hv : BRead w v bs) (hfl : Fo.lim ≤ w.heap.size) (htk : Fo.tk = none) :
    Calls Tryz.prog 14 #[v] w fun e w' => ∃ lv, e = .returned (.tuple #[lv, .int .i64 (dEr bs), .int .i64 (dRd bs : Int)]) ∧ ERow w' w.heap.size lv (dEv bs) ∧ Below w.heap.size w w' := by
  have hC : ∀ w1 m, draw w1 w.heap.size m → Below w.heap.size w w1 → Calls Tryz.prog 32 #[.iface 61 (.pointer (some ⟨m, 0, none⟩)), v] w1 fun e w' => ∃ lv, e = .returned (.tuple #[lv, .int .i64 (dEr bs), .int .i64 (dRd bs : Int)]) ∧ ERow w' w.heap.size lv (dEv bs) ∧ Below w.heap.size w1 w' := fun w1 m hM hb =>
    sdecode_any (M := dlM) w1 w.heap.size m v bs hM htk hb.size hn (fun w' h => hv.below (hb.trans h)) (fun h => h.elim)
  have hP := dnew_any w hfl
  generalize dEr bs = E at *
  obtain ⟨R, hR⟩ : ∃ R, (dRd bs : Int) = R := ⟨_, rfl⟩
  rw [hR] at hC ⊢
  generalize dEv bs = L at *
  have HC := Lib.hid hC
  clear hC hv hR
  go_enter Tryz.func14, Tryz.ntmps14
  go_wp2_with fail
  refine hP.mono ?_
  rintro e w0 ⟨m, rfl, hM, hb0⟩
  have HD := Lib.hid (HC.out w0 m hM hb0)
  have HB0 := Lib.hid hb0
  clear hM hb0 HC hP
  go_wp2_with fail
  refine HD.out.mono ?_
  rintro e w1 ⟨lv, rfl, hRow, hb1⟩
  have HR := Lib.hid hRow
  have HB := Lib.hid (HB0.out.trans hb1)
  clear hRow hb1 HD HB0
  go_wp2
  go_ret3
  exact ⟨lv, rfl, HR.out, HB.out⟩
theorem ddecode_any (w : World) (v : Value) (bs : List UInt8) (hn : bs.length ≤ 50000) (hv : BRead w v bs) (hfl : Fo.lim ≤ w.heap.size) :
    Calls Tryz.prog 14 #[v] w fun e w' => ∃ lv, e = .returned (.tuple #[lv, .int .i64 (dEr bs), .int .i64 (dRd bs : Int)]) ∧ ERow w' w.heap.size lv (dEv bs) ∧ Below w.heap.size w w' :=
  @ddecode_any0 _ (Fo.nt inferInstance) w v bs hn hv hfl rfl
end Go.Proofs.YtfciacigamjfkabGreat
namespace Go.Proofs.YtfciacigamjfkabGreat
open Go.RowKit
set_option maxRecDepth 100000
theorem bV_b8 (n : Int) (h0 : 0 ≤ n) (h1 : n < 256) : bV (b8 n) = .int .u8 n := (bV_of n h0 h1).symm
theorem put_str {w : World} {base : Nat} {v : Value} (l : List UInt8) (h : ORow w base 5 v (l.map bV)) : (convert 22 9 v).run Tryz.prog w = .ok (.string ⟨l.toArray⟩) w :=
  run_string_of_row _ _ l Tryz.underlying22 Tryz.underlying5 Tryz.underlying9 h

set_option maxHeartbeats 400000 in
theorem put_2 (r : Int) (w : World) (hm : mayB r = true) (h0 : 128 ≤ r) (h1 : r < 2048) :
    Calls Tryz.prog 304 #[.int .i64 r] w fun e w' => e = .returned (.tuple #[.string ⟨#[b8 (192 + r / 64), b8 (128 + r % 64)]⟩, .bool true]) ∧ Below w.heap.size w w' := by
  have e1 := u8_or192 (r / 64) (by omega) (by omega)
  have hnil := ORow.nil w w.heap.size 5
  go_enter Tryz.func304, Tryz.ntmps304
  go_wp2
  refine wp_scope_fwd 2 ?_
  generalize hQ : Exit.fwd _ _ _ 2 = Q2
  go_wp2_with (first
    | (go_at_call 315; refine (isch_any _ _).mono ?_; rintro e w' ⟨rfl, rfl⟩)
    | (at_builtin; refine wp_app1b rfl _ _ 22 rfl w.heap.size 5 (.int .u8 0) 1 Tryz.underlying22 Tryz.info5 rfl _ _ _ rfl (by assumption) rfl _ rfl (by simp [maxLen]) (by simp) (Nat.le_refl _) ?_; intro v1 w1 hown1 hb1))
  clear hnil
  go_step3
  show Q2 _ _ _
  rw [← hQ]
  refine Exit.fwd_goto 1 _ _ rfl ?_
  generalize hQ1 : Exit.fwd _ _ _ 1 = Q1
  go_wp2_with (first
    | (go_at_call 316; refine (tail_any _ (by omega) (by omega) _).mono ?_; rintro e w' ⟨rfl, rfl⟩)
    | (at_builtin; refine wp_app1b rfl _ _ 22 rfl w.heap.size 5 (.int .u8 0) 1 Tryz.underlying22 Tryz.info5 rfl _ _ _ rfl (by assumption) rfl _ rfl (by simp [maxLen]) (by simp) hb1.size ?_; intro v2 w2 hown2 hb2))
  have hrow : ORow w2 w.heap.size 5 v2 ([b8 (192 + r / 64), b8 (128 + r % 64)].map bV) := by
    simp only [List.map_cons, List.map_nil]
    rw [bV_b8 _ (by omega) (by omega), bV_b8 _ (by omega) (by omega)]
    exact hown2
  have hstr := put_str _ hrow
  clear hown1 hown2
  go_wp2
  rw [hstr]
  go_wp2
  rw [← hQ1, Exit.fwd_ret]
  go_ret2
  exact ⟨rfl, hb1.trans hb2⟩

set_option maxHeartbeats 400000 in
theorem put_3 (r : Int) (w : World) (hm : mayB r = true) (h0 : 2048 ≤ r) (h1 : r < 65536) :
    Calls Tryz.prog 304 #[.int .i64 r] w fun e w' => e = .returned (.tuple #[.string ⟨#[b8 (224 + r / 4096), b8 (128 + r / 64 % 64), b8 (128 + r % 64)]⟩, .bool true]) ∧ Below w.heap.size w w' := by
  have e1 := u8_or224 (r / 4096) (by omega) (by omega)
  have hnil := ORow.nil w w.heap.size 5
  go_enter Tryz.func304, Tryz.ntmps304
  go_wp2
  refine wp_scope_fwd 2 ?_
  generalize hQ : Exit.fwd _ _ _ 2 = Q2
  go_wp2_with (first
    | (go_at_call 315; refine (isch_any _ _).mono ?_; rintro e w' ⟨rfl, rfl⟩)
    | (at_builtin; refine wp_app1b rfl _ _ 22 rfl w.heap.size 5 (.int .u8 0) 1 Tryz.underlying22 Tryz.info5 rfl _ _ _ rfl (by exact hnil) rfl _ rfl (by simp [maxLen]) (by simp) (Nat.le_refl _) ?_; intro v1 w1 hown1 hb1))
  go_step3
  show Q2 _ _ _
  rw [← hQ]
  refine Exit.fwd_goto 1 _ _ rfl ?_
  generalize hQ1 : Exit.fwd _ _ _ 1 = Q1
  go_wp2_with (first
    | (go_at_call 316; refine (tail_any _ (by omega) (by omega) _).mono ?_; rintro e w' ⟨rfl, rfl⟩)
    | (at_builtin; refine wp_app1b rfl _ _ 22 rfl w.heap.size 5 (.int .u8 0) 1 Tryz.underlying22 Tryz.info5 rfl _ _ _ rfl (by exact hown1) rfl _ rfl (by simp [maxLen]) (by simp) hb1.size ?_; intro v2 w2 hown2 hb2))
  go_step3
  go_wp2_with (first
    | (go_at_call 316; refine (tail_any _ (by omega) (by omega) _).mono ?_; rintro e w' ⟨rfl, rfl⟩)
    | (at_builtin; refine wp_app1b rfl _ _ 22 rfl w.heap.size 5 (.int .u8 0) 1 Tryz.underlying22 Tryz.info5 rfl _ _ _ rfl (by exact hown2) rfl _ rfl (by simp [maxLen]) (by simp) (Nat.le_trans hb1.size hb2.size) ?_; intro v3 w3 hown3 hb3))
  have hrow : ORow w3 w.heap.size 5 v3 ([b8 (224 + r / 4096), b8 (128 + r / 64 % 64), b8 (128 + r % 64)].map bV) := by
    simp only [List.map_cons, List.map_nil]
    rw [bV_b8 _ (by omega) (by omega), bV_b8 _ (by omega) (by omega), bV_b8 _ (by omega) (by omega)]
    exact hown3
  have hstr := put_str _ hrow
  go_wp2
  rw [hstr]
  go_wp2
  rw [← hQ1, Exit.fwd_ret]
  go_ret2
  exact ⟨rfl, ((hb1.trans hb2).trans hb3)⟩

set_option maxHeartbeats 400000 in
theorem put_4 (r : Int) (w : World) (hm : mayB r = true) (h0 : 65536 ≤ r) (h1 : r ≤ 1114111) :
    Calls Tryz.prog 304 #[.int .i64 r] w fun e w' => e = .returned (.tuple #[.string ⟨#[b8 (240 + r / 262144), b8 (128 + r / 4096 % 64), b8 (128 + r / 64 % 64), b8 (128 + r % 64)]⟩, .bool true]) ∧ Below w.heap.size w w' := by
  have e1 := u8_or240 (r / 262144) (by omega) (by omega)
  have hnil := ORow.nil w w.heap.size 5
  go_enter Tryz.func304, Tryz.ntmps304
  go_wp2
  refine wp_scope_fwd 2 ?_
  generalize hQ : Exit.fwd _ _ _ 2 = Q2
  go_wp2_with (first
    | (go_at_call 315; refine (isch_any _ _).mono ?_; rintro e w' ⟨rfl, rfl⟩)
    | (go_at_call 316; refine (tail_any _ (by omega) (by omega) _).mono ?_; rintro e w' ⟨rfl, rfl⟩)
    | (at_builtin; refine wp_appNb rfl _ _ 22 rfl w.heap.size 5 (.int .u8 0) 1 Tryz.underlying22 Tryz.info5 rfl _ _ _ 2 rfl (by exact hnil) (by intro u hu; simp at hu; rcases hu with rfl | rfl <;> rfl) rfl _ rfl (by simp [maxLen]) (by simp) (Nat.le_refl _) ?_; intro v1 w1 hown1 hb1))
  go_step3
  go_wp2_with (first
    | (go_at_call 316; refine (tail_any _ (by omega) (by omega) _).mono ?_; rintro e w' ⟨rfl, rfl⟩)
    | (at_builtin; refine wp_app1b rfl _ _ 22 rfl w.heap.size 5 (.int .u8 0) 1 Tryz.underlying22 Tryz.info5 rfl _ _ _ rfl (by exact hown1) rfl _ rfl (by simp [maxLen]) (by simp) hb1.size ?_; intro v2 w2 hown2 hb2))
  go_step3
  go_wp2_with (first
    | (go_at_call 316; refine (tail_any _ (by omega) (by omega) _).mono ?_; rintro e w' ⟨rfl, rfl⟩)
    | (at_builtin; refine wp_app1b rfl _ _ 22 rfl w.heap.size 5 (.int .u8 0) 1 Tryz.underlying22 Tryz.info5 rfl _ _ _ rfl (by exact hown2) rfl _ rfl (by simp [maxLen]) (by simp) (Nat.le_trans hb1.size hb2.size) ?_; intro v3 w3 hown3 hb3))
  have hrow : ORow w3 w.heap.size 5 v3 ([b8 (240 + r / 262144), b8 (128 + r / 4096 % 64), b8 (128 + r / 64 % 64), b8 (128 + r % 64)].map bV) := by
    simp only [List.map_cons, List.map_nil]
    rw [bV_b8 _ (by omega) (by omega), bV_b8 _ (by omega) (by omega), bV_b8 _ (by omega) (by omega), bV_b8 _ (by omega) (by omega)]
    exact hown3
  have hstr := put_str _ hrow
  go_wp2
  rw [hstr]
  go_wp2
  rw [← hQ, Exit.fwd_ret]
  go_ret2
  exact ⟨rfl, ((hb1.trans hb2).trans hb3)⟩

set_option maxHeartbeats 400000 in
theorem put_1 (r : Int) (w : World) (h0 : 0 ≤ r) (h1 : r < 128) :
    Calls Tryz.prog 304 #[.int .i64 r] w fun e w' => e = .returned (.tuple #[.string ⟨#[b8 r]⟩, .bool true]) ∧ Below w.heap.size w w' := by
  have hm : mayB r = true := by simp [mayB]; omega
  have hrow : ORow (w.alloc (.cells #[.int .u8 r] 5)) w.heap.size 5 (.slice (some ⟨w.heap.size, 0, none⟩) 1 1) ([b8 r].map bV) := by
    simp only [List.map_cons, List.map_nil]
    rw [bV_b8 _ (by omega) (by omega)]
    exact ORow.lit w _ _ _ (Nat.le_refl _) (by simp [maxLen])
  have hstr := put_str _ hrow
  go_enter Tryz.func304, Tryz.ntmps304
  go_wp2
  refine wp_scope_fwd 2 ?_
  generalize hQ : Exit.fwd _ _ _ 2 = Q2
  go_wp2_with (first
    | (go_at_call 315; refine (isch_any _ _).mono ?_; rintro e w' ⟨rfl, rfl⟩))
  rw [← hQ, Exit.fwd_ret]
  go_ret2
  exact ⟨rfl, (Below.refl _ _).alloc (Nat.le_refl _) _⟩

set_option maxHeartbeats 400000 in
theorem put_no (r : Int) (w : World) (hm : mayB r = false) :
    Calls Tryz.prog 304 #[.int .i64 r] w fun e w' => e = .returned (.tuple #[.string ⟨#[]⟩, .bool false]) ∧ Below w.heap.size w w' := by
  go_enter Tryz.func304, Tryz.ntmps304
  go_wp2
  refine wp_scope_fwd 2 ?_
  generalize hQ : Exit.fwd _ _ _ 2 = Q2
  go_wp2_with (first
    | (go_at_call 315; refine (isch_any _ _).mono ?_; rintro e w' ⟨rfl, rfl⟩))
  rw [← hQ, Exit.fwd_ret]
  go_ret2
  exact ⟨rfl, Below.refl _ _⟩

def putS (r : Int) : ByteArray := if mayB r then ⟨(putL r).toArray⟩ else ⟨#[]⟩
theorem put_any (r : Int) (w : World) :
    Calls Tryz.prog 304 #[.int .i64 r] w fun e w' => e = .returned (.tuple #[.string (putS r), .bool (mayB r)]) ∧ Below w.heap.size w w' := by
  by_cases hm : mayB r = true
  · have h0 : 0 ≤ r := by simp [mayB] at hm; omega
    have h1 : r ≤ 1114111 := by simp [mayB] at hm; omega
    unfold putS putL
    rw [hm, if_pos rfl]
    by_cases a : r < 128
    · rw [if_pos a]; exact put_1 r w h0 a
    · rw [if_neg a]
      by_cases b : r < 2048
      · rw [if_pos b]; exact put_2 r w hm (by omega) b
      · rw [if_neg b]
        by_cases c : r < 65536
        · rw [if_pos c]; exact put_3 r w hm (by omega) c
        · rw [if_neg c]; exact put_4 r w hm (by omega) h1
  · have hm : mayB r = false := by simpa using hm
    unfold putS
    rw [hm]
    exact put_no r w hm

end Go.Proofs.YtfciacigamjfkabGreat

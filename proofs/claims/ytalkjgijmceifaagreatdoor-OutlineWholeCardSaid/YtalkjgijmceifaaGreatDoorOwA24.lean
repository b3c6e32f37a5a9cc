/-
  lines: Name, Number.
  Put's contract: the bytes of a character, or none.
  Quoted strings as plain functions on bytes: the machine of steps, its run, what is printed, and that it is read again. No program is read here.
-/
import Derived.Test.YtalkjgijmceifaaGreatDoorOwA23
import Derived.Test.YtalkjgijmceifaaGreatDoorOwA03
import Derived.Test.YtalkjgijmceifaaGreatDoorOwA01
namespace Go.Proofs.YtalkjgijmceifaaGreatDoor
open Go.RowKit Go.Maps
set_option maxRecDepth 100000
set_option linter.unusedSimpArgs false
set_option linter.unusedVariables false
set_option linter.unusedSectionVars false
variable [Tab] [Fo]

@[reducible] def tkName : Tok where
  T := 224
  E := 228
  mx := 16
  mx9 := by decide
  num := False
  g := nGo
  et := fun s => s
  ec := fun s => if s.size = 0 then 2 else 0
  ec0 := fun s h => by
    by_cases hz : s.size = 0
    · rw [if_pos hz] at h; cases h
    · omega
  etz := fun s h => h
  fG := 195
  fA := 269
  fE := 270
  hG := fun a w => by kernel_rfl
  hA := fun a w => by kernel_rfl
  hE := fun a w => by kernel_rfl
  nG := fun a w => by kernel_rfl
  nA := fun a w => by kernel_rfl
  eG := fun args w => enters_of Tryz.func195 (by kernel_rfl) rfl args w
  eA := fun args w => enters_of Tryz.func269 (by kernel_rfl) rfl args w
  eE := fun args w => enters_of Tryz.func270 (by kernel_rfl) rfl args w
  goes := fun w m s b hc hl hs => ngoes_any w m 0 s b hc hl hs
  add := fun w m s b hc hf hl hs => (nadd_any w m 0 s b hc hf hl hs).mono fun e w' h => by
    by_cases h16 : 16 ≤ s.size
    · rw [if_pos h16] at h; exact .inl ⟨h16, h⟩
    · rw [if_neg h16] at h; exact .inr ⟨h.1, by omega, h.2⟩
  fin := fun w base m s hc hf hl hs _ _ => (nend_any w m 0 s hc hf hl hs).mono fun e w' ⟨h1, h2⟩ => ⟨h1, by rw [h2]; exact Below.refl _ _⟩
@[reducible] def tkNum : Tok where
  T := 265
  E := 266
  mx := 30
  mx9 := by decide
  num := True
  g := mayB1
  et := endS
  ec := endC
  ec0 := fun s h => by
    by_cases hz : s.size = 0
    · obtain rfl : s = ⟨#[]⟩ := ByteArray.ext (Array.eq_empty_of_size_eq_zero hz)
      exact absurd h (by unfold endC; rw [if_neg (show ¬ Nm.isB [] = true by decide)]; decide)
    · omega
  etz := fun s _ => Nat.le_trans (endS_size s) (by decide)
  fG := 275
  fA := 273
  fE := 274
  hG := fun a w => by kernel_rfl
  hA := fun a w => by kernel_rfl
  hE := fun a w => by kernel_rfl
  nG := fun a w => by kernel_rfl
  nA := fun a w => by kernel_rfl
  eG := fun args w => enters_of Tryz.func275 (by kernel_rfl) rfl args w
  eA := fun args w => enters_of Tryz.func273 (by kernel_rfl) rfl args w
  eE := fun args w => enters_of Tryz.func274 (by kernel_rfl) rfl args w
  goes := fun w m s b hc hl hs => (goes_any w m 0 s b hc hl hs).mono fun e w' h => h
  add := fun w m s b hc hf hl hs => (tadd_any w m 0 s b hc hf hl hs).mono fun e w' h => by
    by_cases h16 : 30 ≤ s.size
    · rw [if_pos h16] at h; exact .inl ⟨h16, h⟩
    · rw [if_neg h16] at h; exact .inr ⟨h.1, by omega, h.2⟩
  fin := fun w base m s hc hf hl hs hb hw => tend_any w m 0 s hc hf hl hs ((hw trivial).below ((Below.refl base w).setCell (p := ⟨m, 0, none⟩) hb _)).std
@[reducible] def tkBare : Tok where
  T := 292
  E := 294
  mx := 16
  mx9 := by decide
  num := False
  g := bGo
  et := fun s => s
  ec := fun s => if s.size = 0 then 2 else 0
  ec0 := fun s h => by
    by_cases hz : s.size = 0
    · rw [if_pos hz] at h; cases h
    · omega
  etz := fun s h => h
  fG := 276
  fA := 269
  fE := 270
  hG := fun a w => by kernel_rfl
  hA := fun a w => by kernel_rfl
  hE := fun a w => by kernel_rfl
  nG := fun a w => by kernel_rfl
  nA := fun a w => by kernel_rfl
  eG := fun args w => enters_of Tryz.func276 (by kernel_rfl) rfl args w
  eA := fun args w => enters_of Tryz.func269 (by kernel_rfl) rfl args w
  eE := fun args w => enters_of Tryz.func270 (by kernel_rfl) rfl args w
  goes := fun w m s b hc hl hs => bgoes_any w m 0 s b hc hl hs
  add := fun w m s b hc hf hl hs => (nadd_any w m 0 s b hc hf hl hs).mono fun e w' h => by
    by_cases h16 : 16 ≤ s.size
    · rw [if_pos h16] at h; exact .inl ⟨h16, h⟩
    · rw [if_neg h16] at h; exact .inr ⟨h.1, by omega, h.2⟩
  fin := fun w base m s hc hf hl hs _ _ => (nend_any w m 0 s hc hf hl hs).mono fun e w' ⟨h1, h2⟩ => ⟨h1, by rw [h2]; exact Below.refl _ _⟩

/-- What reading a name, or a number, leaves: a text and the line, at its last byte; or it fails. -/
def TkP (w : World) (L : Nat) (o : LO) (S : List UInt8) (a : Nat) (r : Option (ByteArray × Nat)) (e : Ending) (w' : World) : Prop :=
  ((∃ t a', r = some (t, a') ∧ e = .returned (.string t) ∧ t.size ≤ 1000 ∧ a ≤ a' ∧ a' < S.length ∧ LAt w' L o S a') ∨ (r = none ∧ ∃ k a', k ≠ 0 ∧ e = .panicked (failP k) ∧ a' ≤ S.length ∧ LAt w' L o S a')) ∧ LnF L w w'
def nameP (S : List UInt8) (a : Nat) : Option (ByteArray × Nat) := lgP nGo 16 (fun s => s) (fun s => if s.size = 0 then 2 else 0) S a
def bareP (S : List UInt8) (a : Nat) : Option (ByteArray × Nat) := lgP bGo 16 (fun s => s) (fun s => if s.size = 0 then 2 else 0) S a
def numP (S : List UInt8) (a : Nat) : Option (ByteArray × Nat) := lgP mayB1 30 endS endC S a
theorem fr3_lnf {w w1 w' : World} {L : Nat} {o : LO} {S : List UInt8} {a m : Nat} (h : LAt w L o S a) (hb : Below w.heap.size w w1) (hm : w.heap.size ≤ m) (hf : Fr3 L m m w1 w') : LnF L w w' :=
  ⟨hf.os.trans hb.os, hf.tape.trans hb.tape, hf.output.trans hb.output, Nat.le_trans hb.size hf.size, fun k hk hn => by
    have hkL : k ≠ L := fun e => hn (by rw [e])
    rw [hf.keep k (Nat.lt_of_lt_of_le hk hb.size) hkL (by omega) (by omega), hb.block k hk]⟩
theorem name_any (w : World) (L : Nat) (o : LO) (S : List UInt8) (a : Nat) (h : LAt w L o S a) (hS : S.length ≤ 1000) (ha : a ≤ S.length) :
    Calls Tryz.prog 197 #[.pointer (some ⟨L, 0, none⟩)] w (TkP w L o S a (nameP S a)) := by
  have al : Below w.heap.size w (w.alloc (.cells #[.string ⟨#[]⟩] 228)) := (Below.refl _ _).alloc (Nat.le_refl _) _
  have hC := longest_any (Tk := tkName) (w.alloc (.cells #[.string ⟨#[]⟩] 228)) 0 L o w.heap.size S a (Blk.alloc h _) (Blk.new w 228 #[.string ⟨#[]⟩]) (by have := Blk.lt h; omega) hS ha ⟨Nat.zero_le _, Nat.zero_le _, Nat.zero_le _⟩ (fun e => e.elim)
  have HC := Lib.hid hC
  have HB := Lib.hid (And.intro h al)
  clear hC h al
  go_enter Tryz.func197, Tryz.ntmps197
  go_wp2_with fail
  refine HC.out.mono ?_
  rintro e w' ⟨h4, hF⟩
  have HF := Lib.hid (fr3_lnf HB.out.1 HB.out.2 (Nat.le_refl _) hF)
  clear hF HC
  rcases h4 with ⟨t, a', hr, rfl, h1, h2, h3, h5⟩ | ⟨hr, k, a', hk, rfl, h3, h5⟩
  · have HP := Lib.hid (And.intro hr (And.intro h1 (And.intro h2 (And.intro h3 h5))))
    clear hr h1 h2 h3 h5
    go_wp2
    go_ret
    exact ⟨.inl ⟨t, a', HP.out.1, rfl, HP.out.2.1, HP.out.2.2.1, HP.out.2.2.2.1, HP.out.2.2.2.2⟩, HF.out⟩
  · exact ⟨rfl, .inr ⟨hr, k, a', hk, rfl, h3, h5⟩, HF.out⟩
theorem bare_any (w : World) (L : Nat) (o : LO) (S : List UInt8) (a : Nat) (h : LAt w L o S a) (hS : S.length ≤ 1000) (ha : a ≤ S.length) :
    Calls Tryz.prog 263 #[.pointer (some ⟨L, 0, none⟩)] w (TkP w L o S a (bareP S a)) := by
  have al : Below w.heap.size w (w.alloc (.cells #[.string ⟨#[]⟩] 294)) := (Below.refl _ _).alloc (Nat.le_refl _) _
  have hC := longest_any (Tk := tkBare) (w.alloc (.cells #[.string ⟨#[]⟩] 294)) 0 L o w.heap.size S a (Blk.alloc h _) (Blk.new w 294 #[.string ⟨#[]⟩]) (by have := Blk.lt h; omega) hS ha ⟨Nat.zero_le _, Nat.zero_le _, Nat.zero_le _⟩ (fun e => e.elim)
  have HC := Lib.hid hC
  have HB := Lib.hid (And.intro h al)
  clear hC h al
  go_enter Tryz.func263, Tryz.ntmps263
  go_wp2_with fail
  refine HC.out.mono ?_
  rintro e w' ⟨h4, hF⟩
  have HF := Lib.hid (fr3_lnf HB.out.1 HB.out.2 (Nat.le_refl _) hF)
  clear hF HC
  rcases h4 with ⟨t, a', hr, rfl, h1, h2, h3, h5⟩ | ⟨hr, k, a', hk, rfl, h3, h5⟩
  · have HP := Lib.hid (And.intro hr (And.intro h1 (And.intro h2 (And.intro h3 h5))))
    clear hr h1 h2 h3 h5
    go_wp2
    go_ret
    exact ⟨.inl ⟨t, a', HP.out.1, rfl, HP.out.2.1, HP.out.2.2.1, HP.out.2.2.2.1, HP.out.2.2.2.2⟩, HF.out⟩
  · exact ⟨rfl, .inr ⟨hr, k, a', hk, rfl, h3, h5⟩, HF.out⟩
theorem number_any (w : World) (base L : Nat) (o : LO) (S : List UInt8) (a : Nat) (h : LAt w L o S a) (hS : S.length ≤ 1000) (ha : a ≤ S.length) (hb : base ≤ w.heap.size ∧ base ≤ L) (hw : SW base w) :
    Calls Tryz.prog 219 #[.pointer (some ⟨L, 0, none⟩)] w (TkP w L o S a (numP S a)) := by
  have al : Below w.heap.size w (w.alloc (.cells #[.string ⟨#[]⟩] 266)) := (Below.refl _ _).alloc (Nat.le_refl _) _
  have hC := longest_any (Tk := tkNum) (w.alloc (.cells #[.string ⟨#[]⟩] 266)) base L o w.heap.size S a (Blk.alloc h _) (Blk.new w 266 #[.string ⟨#[]⟩]) (by have := Blk.lt h; omega) hS ha ⟨Nat.le_trans hb.1 al.size, hb.2, hb.1⟩ (fun _ => hw.below (al.mono hb.1))
  have HC := Lib.hid hC
  have HB := Lib.hid (And.intro h al)
  clear hC h al hw
  go_enter Tryz.func219, Tryz.ntmps219
  go_wp2_with fail
  refine HC.out.mono ?_
  rintro e w' ⟨h4, hF⟩
  have HF := Lib.hid (fr3_lnf HB.out.1 HB.out.2 (Nat.le_refl _) hF)
  clear hF HC
  rcases h4 with ⟨t, a', hr, rfl, h1, h2, h3, h5⟩ | ⟨hr, k, a', hk, rfl, h3, h5⟩
  · have HP := Lib.hid (And.intro hr (And.intro h1 (And.intro h2 (And.intro h3 h5))))
    clear hr h1 h2 h3 h5
    go_wp2
    go_ret
    exact ⟨.inl ⟨t, a', HP.out.1, rfl, HP.out.2.1, HP.out.2.2.1, HP.out.2.2.2.1, HP.out.2.2.2.2⟩, HF.out⟩
  · exact ⟨rfl, .inr ⟨hr, k, a', hk, rfl, h3, h5⟩, HF.out⟩
end Go.Proofs.YtalkjgijmceifaaGreatDoor
namespace Go.Proofs.YtalkjgijmceifaaGreatDoor
open Go.RowKit
set_option maxRecDepth 100000
theorem bV_b8 (n : Int) (h0 : 0 ≤ n) (h1 : n < 256) : bV (b8 n) = .int .u8 n := (bV_of n h0 h1).symm
theorem put_str {w : World} {base : Nat} {v : Value} (l : List UInt8) (h : ORow w base 5 v (l.map bV)) : (convert 22 9 v).run Tryz.prog w = .ok (.string ⟨l.toArray⟩) w :=
  run_string_of_row _ _ l Tryz.underlying22 Tryz.underlying5 Tryz.underlying9 h

set_option maxHeartbeats 400000 in
theorem put_2 (r : Int) (w : World) (hm : mayB r = true) (h0 : 128 ≤ r) (h1 : r < 2048) :
    Calls Tryz.prog 223 #[.int .i64 r] w fun e w' => e = .returned (.tuple #[.string ⟨#[b8 (192 + r / 64), b8 (128 + r % 64)]⟩, .bool true]) ∧ Below w.heap.size w w' := by
  have e1 := u8_or192 (r / 64) (by omega) (by omega)
  have hnil := ORow.nil w w.heap.size 5
  go_enter Tryz.func223, Tryz.ntmps223
  go_wp2
  refine wp_scope_fwd 2 ?_
  generalize hQ : Exit.fwd _ _ _ 2 = Q2
  go_wp2_with (first
    | (go_at_call 234; refine (isch_any _ _).mono ?_; rintro e w' ⟨rfl, rfl⟩)
    | (at_builtin; refine wp_app1b rfl _ _ 22 rfl w.heap.size 5 (.int .u8 0) 1 Tryz.underlying22 Tryz.info5 rfl _ _ _ rfl (by assumption) rfl _ rfl (by simp [maxLen]) (by simp) (Nat.le_refl _) ?_; intro v1 w1 hown1 hb1))
  clear hnil
  go_step3
  show Q2 _ _ _
  rw [← hQ]
  refine Exit.fwd_goto 1 _ _ rfl ?_
  generalize hQ1 : Exit.fwd _ _ _ 1 = Q1
  go_wp2_with (first
    | (go_at_call 235; refine (tail_any _ (by omega) (by omega) _).mono ?_; rintro e w' ⟨rfl, rfl⟩)
    | (at_builtin; refine wp_app1b rfl _ _ 22 rfl w.heap.size 5 (.int .u8 0) 1 Tryz.underlying22 Tryz.info5 rfl _ _ _ rfl (by assumption) rfl _ rfl (by simp [maxLen]) (by simp) hb1.size ?_; intro v2 w2 hown2 hb2))
  have hrow : ORow w2 w.heap.size 5 v2 ([b8 (192 + r / 64), b8 (128 + r % 64)].map bV) := by
    simp only [List.map_cons, List.map_nil]
    rw [bV_b8 _ (by omega) (by omega), bV_b8 _ (by omega) (by omega)]
    exact hown2
  have hstr := put_str _ hrow
  clear hown1 hown2
  go_wp2
  rw [hstr]
  go_wp2
  rw [← hQ1, Exit.fwd_ret]
  go_ret2
  exact ⟨rfl, hb1.trans hb2⟩

set_option maxHeartbeats 400000 in
theorem put_3 (r : Int) (w : World) (hm : mayB r = true) (h0 : 2048 ≤ r) (h1 : r < 65536) :
    Calls Tryz.prog 223 #[.int .i64 r] w fun e w' => e = .returned (.tuple #[.string ⟨#[b8 (224 + r / 4096), b8 (128 + r / 64 % 64), b8 (128 + r % 64)]⟩, .bool true]) ∧ Below w.heap.size w w' := by
  have e1 := u8_or224 (r / 4096) (by omega) (by omega)
  have hnil := ORow.nil w w.heap.size 5
  go_enter Tryz.func223, Tryz.ntmps223
  go_wp2
  refine wp_scope_fwd 2 ?_
  generalize hQ : Exit.fwd _ _ _ 2 = Q2
  go_wp2_with (first
    | (go_at_call 234; refine (isch_any _ _).mono ?_; rintro e w' ⟨rfl, rfl⟩)
    | (at_builtin; refine wp_app1b rfl _ _ 22 rfl w.heap.size 5 (.int .u8 0) 1 Tryz.underlying22 Tryz.info5 rfl _ _ _ rfl (by exact hnil) rfl _ rfl (by simp [maxLen]) (by simp) (Nat.le_refl _) ?_; intro v1 w1 hown1 hb1))
  go_step3
  show Q2 _ _ _
  rw [← hQ]
  refine Exit.fwd_goto 1 _ _ rfl ?_
  generalize hQ1 : Exit.fwd _ _ _ 1 = Q1
  go_wp2_with (first
    | (go_at_call 235; refine (tail_any _ (by omega) (by omega) _).mono ?_; rintro e w' ⟨rfl, rfl⟩)
    | (at_builtin; refine wp_app1b rfl _ _ 22 rfl w.heap.size 5 (.int .u8 0) 1 Tryz.underlying22 Tryz.info5 rfl _ _ _ rfl (by exact hown1) rfl _ rfl (by simp [maxLen]) (by simp) hb1.size ?_; intro v2 w2 hown2 hb2))
  go_step3
  go_wp2_with (first
    | (go_at_call 235; refine (tail_any _ (by omega) (by omega) _).mono ?_; rintro e w' ⟨rfl, rfl⟩)
    | (at_builtin; refine wp_app1b rfl _ _ 22 rfl w.heap.size 5 (.int .u8 0) 1 Tryz.underlying22 Tryz.info5 rfl _ _ _ rfl (by exact hown2) rfl _ rfl (by simp [maxLen]) (by simp) (Nat.le_trans hb1.size hb2.size) ?_; intro v3 w3 hown3 hb3))
  have hrow : ORow w3 w.heap.size 5 v3 ([b8 (224 + r / 4096), b8 (128 + r / 64 % 64), b8 (128 + r % 64)].map bV) := by
    simp only [List.map_cons, List.map_nil]
    rw [bV_b8 _ (by omega) (by omega), bV_b8 _ (by omega) (by omega), bV_b8 _ (by omega) (by omega)]
    exact hown3
  have hstr := put_str _ hrow
  go_wp2
  rw [hstr]
  go_wp2
  rw [← hQ1, Exit.fwd_ret]
  go_ret2
  exact ⟨rfl, ((hb1.trans hb2).trans hb3)⟩

set_option maxHeartbeats 400000 in
theorem put_4 (r : Int) (w : World) (hm : mayB r = true) (h0 : 65536 ≤ r) (h1 : r ≤ 1114111) :
    Calls Tryz.prog 223 #[.int .i64 r] w fun e w' => e = .returned (.tuple #[.string ⟨#[b8 (240 + r / 262144), b8 (128 + r / 4096 % 64), b8 (128 + r / 64 % 64), b8 (128 + r % 64)]⟩, .bool true]) ∧ Below w.heap.size w w' := by
  have e1 := u8_or240 (r / 262144) (by omega) (by omega)
  have hnil := ORow.nil w w.heap.size 5
  go_enter Tryz.func223, Tryz.ntmps223
  go_wp2
  refine wp_scope_fwd 2 ?_
  generalize hQ : Exit.fwd _ _ _ 2 = Q2
  go_wp2_with (first
    | (go_at_call 234; refine (isch_any _ _).mono ?_; rintro e w' ⟨rfl, rfl⟩)
    | (go_at_call 235; refine (tail_any _ (by omega) (by omega) _).mono ?_; rintro e w' ⟨rfl, rfl⟩)
    | (at_builtin; refine wp_appNb rfl _ _ 22 rfl w.heap.size 5 (.int .u8 0) 1 Tryz.underlying22 Tryz.info5 rfl _ _ _ 2 rfl (by exact hnil) (by intro u hu; simp at hu; rcases hu with rfl | rfl <;> rfl) rfl _ rfl (by simp [maxLen]) (by simp) (Nat.le_refl _) ?_; intro v1 w1 hown1 hb1))
  go_step3
  go_wp2_with (first
    | (go_at_call 235; refine (tail_any _ (by omega) (by omega) _).mono ?_; rintro e w' ⟨rfl, rfl⟩)
    | (at_builtin; refine wp_app1b rfl _ _ 22 rfl w.heap.size 5 (.int .u8 0) 1 Tryz.underlying22 Tryz.info5 rfl _ _ _ rfl (by exact hown1) rfl _ rfl (by simp [maxLen]) (by simp) hb1.size ?_; intro v2 w2 hown2 hb2))
  go_step3
  go_wp2_with (first
    | (go_at_call 235; refine (tail_any _ (by omega) (by omega) _).mono ?_; rintro e w' ⟨rfl, rfl⟩)
    | (at_builtin; refine wp_app1b rfl _ _ 22 rfl w.heap.size 5 (.int .u8 0) 1 Tryz.underlying22 Tryz.info5 rfl _ _ _ rfl (by exact hown2) rfl _ rfl (by simp [maxLen]) (by simp) (Nat.le_trans hb1.size hb2.size) ?_; intro v3 w3 hown3 hb3))
  have hrow : ORow w3 w.heap.size 5 v3 ([b8 (240 + r / 262144), b8 (128 + r / 4096 % 64), b8 (128 + r / 64 % 64), b8 (128 + r % 64)].map bV) := by
    simp only [List.map_cons, List.map_nil]
    rw [bV_b8 _ (by omega) (by omega), bV_b8 _ (by omega) (by omega), bV_b8 _ (by omega) (by omega), bV_b8 _ (by omega) (by omega)]
    exact hown3
  have hstr := put_str _ hrow
  go_wp2
  rw [hstr]
  go_wp2
  rw [← hQ, Exit.fwd_ret]
  go_ret2
  exact ⟨rfl, ((hb1.trans hb2).trans hb3)⟩

set_option maxHeartbeats 400000 in
theorem put_1 (r : Int) (w : World) (h0 : 0 ≤ r) (h1 : r < 128) :
    Calls Tryz.prog 223 #[.int .i64 r] w fun e w' => e = .returned (.tuple #[.string ⟨#[b8 r]⟩, .bool true]) ∧ Below w.heap.size w w' := by
  have hm : mayB r = true := by simp [mayB]; omega
  have hrow : ORow (w.alloc (.cells #[.int .u8 r] 5)) w.heap.size 5 (.slice (some ⟨w.heap.size, 0, none⟩) 1 1) ([b8 r].map bV) := by
    simp only [List.map_cons, List.map_nil]
    rw [bV_b8 _ (by omega) (by omega)]
    exact ORow.lit w _ _ _ (Nat.le_refl _) (by simp [maxLen])
  have hstr := put_str _ hrow
  go_enter Tryz.func223, Tryz.ntmps223
  go_wp2
  refine wp_scope_fwd 2 ?_
  generalize hQ : Exit.fwd _ _ _ 2 = Q2
  go_wp2_with (first
    | (go_at_call 234; refine (isch_any _ _).mono ?_; rintro e w' ⟨rfl, rfl⟩))
  rw [← hQ, Exit.fwd_ret]
  go_ret2
  exact ⟨rfl, (Below.refl _ _).alloc (Nat.le_refl _) _⟩

set_option maxHeartbeats 400000 in
theorem put_no (r : Int) (w : World) (hm : mayB r = false) :
    Calls Tryz.prog 223 #[.int .i64 r] w fun e w' => e = .returned (.tuple #[.string ⟨#[]⟩, .bool false]) ∧ Below w.heap.size w w' := by
  go_enter Tryz.func223, Tryz.ntmps223
  go_wp2
  refine wp_scope_fwd 2 ?_
  generalize hQ : Exit.fwd _ _ _ 2 = Q2
  go_wp2_with (first
    | (go_at_call 234; refine (isch_any _ _).mono ?_; rintro e w' ⟨rfl, rfl⟩))
  rw [← hQ, Exit.fwd_ret]
  go_ret2
  exact ⟨rfl, Below.refl _ _⟩

def putS (r : Int) : ByteArray := if mayB r then ⟨(putL r).toArray⟩ else ⟨#[]⟩
theorem put_any (r : Int) (w : World) :
    Calls Tryz.prog 223 #[.int .i64 r] w fun e w' => e = .returned (.tuple #[.string (putS r), .bool (mayB r)]) ∧ Below w.heap.size w w' := by
  by_cases hm : mayB r = true
  · have h0 : 0 ≤ r := by simp [mayB] at hm; omega
    have h1 : r ≤ 1114111 := by simp [mayB] at hm; omega
    unfold putS putL
    rw [hm, if_pos rfl]
    by_cases a : r < 128
    · rw [if_pos a]; exact put_1 r w h0 a
    · rw [if_neg a]
      by_cases b : r < 2048
      · rw [if_pos b]; exact put_2 r w hm (by omega) b
      · rw [if_neg b]
        by_cases c : r < 65536
        · rw [if_pos c]; exact put_3 r w hm (by omega) c
        · rw [if_neg c]; exact put_4 r w hm (by omega) h1
  · have hm : mayB r = false := by simpa using hm
    unfold putS
    rw [hm]
    exact put_no r w hm

end Go.Proofs.YtalkjgijmceifaaGreatDoor
namespace Go.Proofs.YtalkjgijmceifaaGreatDoor.Qt
set_option maxRecDepth 8000

/-- What was said so far; what the next byte may be (0: anything, 1: behind a stroke, 2: a digit, 3: nothing); of digits how many there were, and their number. -/
structure QS where
  xs : List UInt8
  st : Int
  d : Int
  n : Int
structure QR where
  done : Bool
  e : Int
  q : QS

def escI (b : Int) : Int := if b = 34 ∨ b = 92 ∨ b = 47 then b else if b = 110 then 10 else if b = 116 then 9 else if b = 114 then 13 else if b = 98 then 8 else if b = 102 then 12 else -1
def hexI (b : Int) : Int := if 48 ≤ b ∧ b ≤ 57 then b - 48 else if 97 ≤ b ∧ b ≤ 102 then b - 97 + 10 else if 65 ≤ b ∧ b ≤ 70 then b - 65 + 10 else -1
def plainQ (xs : List UInt8) : QS := ⟨xs, 0, 0, 0⟩
def qAdd (q : QS) (ch : List UInt8) : QR := if 48 < q.xs.length + ch.length then ⟨false, 4, q⟩ else ⟨false, 0, plainQ (q.xs ++ ch)⟩
def qLetter (q : QS) (b : Int) : QR := if b = 117 then ⟨false, 0, ⟨q.xs, 2, 0, 0⟩⟩ else if escI b < 0 then ⟨false, 9, q⟩ else qAdd q [b8 (escI b)]
def qDigit (q : QS) (b : Int) : QR :=
  if hexI b < 0 then ⟨false, 9, q⟩ else if q.d < 3 then ⟨false, 0, ⟨q.xs, 2, q.d + 1, q.n * 16 + hexI b⟩⟩
  else if mayB (q.n * 16 + hexI b) = true then qAdd q (putL (q.n * 16 + hexI b)) else ⟨false, 9, q⟩
def qPlain (q : QS) (b : Int) : QR :=
  if b < 32 then ⟨false, 2, q⟩ else if b = 34 then ⟨true, 0, ⟨q.xs, 3, 0, 0⟩⟩ else if b = 92 then ⟨false, 0, ⟨q.xs, 1, 0, 0⟩⟩ else qAdd q [b8 b]
def qStep (q : QS) (b : Int) : QR := if q.st = 1 then qLetter q b else if q.st = 2 then qDigit q b else if q.st = 3 then ⟨false, 2, q⟩ else qPlain q b

def QInv (q : QS) : Prop := q.xs.length ≤ 48 ∧ (q.st = 0 ∨ q.st = 1 ∨ q.st = 3 ∨ (q.st = 2 ∧ 0 ≤ q.n ∧ ((q.d = 0 ∧ q.n = 0) ∨ (q.d = 1 ∧ q.n < 16) ∨ (q.d = 2 ∧ q.n < 256) ∨ (q.d = 3 ∧ q.n < 4096))))

theorem hexI_lt (b : Int) : hexI b < 16 := by unfold hexI; repeat' split <;> omega
theorem escI_lt (b : Int) : escI b < 256 := by unfold escI; repeat' split <;> omega
theorem qInv0 : QInv (plainQ []) := ⟨by simp [plainQ], .inl rfl⟩
theorem qInv_plain {xs : List UInt8} (h : xs.length ≤ 48) : QInv (plainQ xs) := ⟨h, .inl rfl⟩
theorem qInv_add {q : QS} {ch : List UInt8} (h : QInv q) : QInv (qAdd q ch).q := by
  unfold qAdd
  split
  · exact h
  · exact qInv_plain (by simp; omega)
theorem qInv_step {q : QS} {b : Int} (h : QInv q) : QInv (qStep q b).q := by
  unfold qStep
  split
  · unfold qLetter
    split
    · exact ⟨h.1, .inr (.inr (.inr ⟨rfl, by simp, .inl ⟨rfl, rfl⟩⟩))⟩
    · split
      · exact h
      · exact qInv_add h
  · split
    · unfold qDigit
      have := hexI_lt b
      rename_i h2
      obtain ⟨hl, hs⟩ := h
      split
      · exact ⟨hl, hs⟩
      · split
        · refine ⟨hl, .inr (.inr (.inr ⟨rfl, ?_⟩))⟩
          simp only
          omega
        · split
          · exact qInv_add ⟨hl, hs⟩
          · exact ⟨hl, hs⟩
    · split
      · exact h
      · unfold qPlain
        split
        · exact h
        · split
          · exact ⟨h.1, .inr (.inr (.inl rfl))⟩
          · split
            · exact ⟨h.1, .inr (.inl rfl)⟩
            · exact qInv_add h

/-- How a run ends: what was said, how many bytes were taken, whether the last was the last quote, an error. -/
structure QE where
  text : List UInt8
  n : Nat
  done : Bool
  e : Int

def qRun : QS → Nat → List UInt8 → QE
  | q, i, [] => ⟨q.xs, i, false, 0⟩
  | q, i, b :: t => if (qStep q (b.toNat : Int)).done = true ∨ (qStep q (b.toNat : Int)).e ≠ 0 then ⟨(qStep q (b.toNat : Int)).q.xs, i, (qStep q (b.toNat : Int)).done, (qStep q (b.toNat : Int)).e⟩ else qRun (qStep q (b.toNat : Int)).q (i + 1) t
def qAll (l : List UInt8) : QE := qRun (plainQ []) 0 l

theorem qRun_on {q q' : QS} {i : Nat} {b : UInt8} {t : List UInt8} (h : qStep q (b.toNat : Int) = ⟨false, 0, q'⟩) : qRun q i (b :: t) = qRun q' (i + 1) t := by
  rw [qRun, h]; simp
theorem qRun_done {q q' : QS} {i : Nat} {b : UInt8} {t : List UInt8} (h : qStep q (b.toNat : Int) = ⟨true, 0, q'⟩) : qRun q i (b :: t) = ⟨q'.xs, i, true, 0⟩ := by
  rw [qRun, h]; simp
theorem qRun_err {q q' : QS} {i : Nat} {b : UInt8} {t : List UInt8} {d : Bool} {e : Int} (h : qStep q (b.toNat : Int) = ⟨d, e, q'⟩) (he : e ≠ 0) : qRun q i (b :: t) = ⟨q'.xs, i, d, e⟩ := by
  rw [qRun, h]; simp [he]

theorem qAdd_ok {q : QS} {ch : List UInt8} (h : q.xs.length + ch.length ≤ 48) : qAdd q ch = ⟨false, 0, plainQ (q.xs ++ ch)⟩ := by unfold qAdd; rw [if_neg (by omega)]

/-! What is printed. -/
def hexD (n : Int) : Int := if n < 10 then 48 + n else 87 + n
def prB (b : UInt8) : List UInt8 :=
  if (b.toNat : Int) = 34 ∨ (b.toNat : Int) = 92 then [92, b] else if (b.toNat : Int) = 10 then [92, 110] else if (b.toNat : Int) = 9 then [92, 116] else if (b.toNat : Int) = 13 then [92, 114]
  else if (b.toNat : Int) < 32 then [92, 117, 48, 48, b8 (hexD (b.toNat / 16)), b8 (hexD (b.toNat % 16))] else [b]
def prAll (l : List UInt8) : List UInt8 := l.flatMap prB
def printL (l : List UInt8) : List UInt8 := 34 :: (prAll l ++ [34])

theorem hexI_hexD (n : Int) (h0 : 0 ≤ n) (h1 : n < 16) : hexI (hexD n) = n := by
  unfold hexD
  split
  · unfold hexI; rw [if_pos (by omega)]; omega
  · unfold hexI; rw [if_neg (by omega), if_pos (by omega)]; omega
theorem hexD_rg (n : Int) (h0 : 0 ≤ n) (h1 : n < 16) : 0 ≤ hexD n ∧ hexD n < 256 := by unfold hexD; split <;> omega

theorem b8_of (b : UInt8) : b8 (b.toNat : Int) = b := by unfold b8; simp
theorem prB_len (b : UInt8) : 1 ≤ (prB b).length ∧ (prB b).length ≤ 6 := by
  unfold prB
  repeat' split
  all_goals simp

theorem step_stroke (xs : List UInt8) : qStep (plainQ xs) 92 = ⟨false, 0, ⟨xs, 1, 0, 0⟩⟩ := rfl
theorem step_u (xs : List UInt8) : qStep ⟨xs, 1, 0, 0⟩ 117 = ⟨false, 0, ⟨xs, 2, 0, 0⟩⟩ := rfl
theorem step_letter (xs : List UInt8) (b : Int) (h : b ≠ 117) (he : 0 ≤ escI b) (hl : xs.length + 1 ≤ 48) : qStep ⟨xs, 1, 0, 0⟩ b = ⟨false, 0, plainQ (xs ++ [b8 (escI b)])⟩ := by
  show qLetter _ b = _
  unfold qLetter
  rw [if_neg h, if_neg (by omega)]
  exact qAdd_ok (by simpa using hl)
theorem step_digit (xs : List UInt8) (d n v : Int) (h0 : 0 ≤ v) (h1 : v < 16) (hd : d < 3) : qStep ⟨xs, 2, d, n⟩ (hexD v) = ⟨false, 0, ⟨xs, 2, d + 1, n * 16 + v⟩⟩ := by
  show qDigit _ _ = _
  unfold qDigit
  rw [hexI_hexD v h0 h1, if_neg (by omega), if_pos hd]
theorem step_last (xs : List UInt8) (n v : Int) (h0 : 0 ≤ v) (h1 : v < 16) (hm : mayB (n * 16 + v) = true) (hl : xs.length + (putL (n * 16 + v)).length ≤ 48) : qStep ⟨xs, 2, 3, n⟩ (hexD v) = ⟨false, 0, plainQ (xs ++ putL (n * 16 + v))⟩ := by
  show qDigit _ _ = _
  unfold qDigit
  rw [hexI_hexD v h0 h1, if_neg (by omega), if_neg (show ¬ (3 : Int) < 3 by omega), if_pos hm]
  exact qAdd_ok hl
theorem step_char (xs : List UInt8) (b : Int) (h : 32 ≤ b) (h1 : b ≠ 34) (h2 : b ≠ 92) (hl : xs.length + 1 ≤ 48) : qStep (plainQ xs) b = ⟨false, 0, plainQ (xs ++ [b8 b])⟩ := by
  show qPlain _ b = _
  unfold qPlain
  rw [if_neg (by omega), if_neg h1, if_neg h2]
  exact qAdd_ok (by simpa [plainQ] using hl)

theorem run_pr (xs : List UInt8) (b : UInt8) (i : Nat) (rest : List UInt8) (hl : xs.length + 1 ≤ 48) : qRun (plainQ xs) i (prB b ++ rest) = qRun (plainQ (xs ++ [b])) (i + (prB b).length) rest := by
  have hb := byte_le b
  unfold prB
  split
  · rename_i h
    have e : escI (b.toNat : Int) = b.toNat := by unfold escI; rw [if_pos (by omega)]
    have s2 := step_letter xs (b.toNat : Int) (by omega) (by omega) hl
    rw [e, b8_of] at s2
    simp only [List.cons_append, List.nil_append]
    rw [qRun_on (b := 92) (step_stroke xs), qRun_on s2]
    rfl
  · split
    · rename_i h
      have s2 := step_letter xs 110 (by decide) (by decide) hl
      rw [show escI 110 = (b.toNat : Int) from by rw [h]; rfl, b8_of] at s2
      simp only [List.cons_append, List.nil_append]
      rw [qRun_on (b := 92) (step_stroke xs), qRun_on (b := 110) s2]
      rfl
    · split
      · rename_i h
        have s2 := step_letter xs 116 (by decide) (by decide) hl
        rw [show escI 116 = (b.toNat : Int) from by rw [h]; rfl, b8_of] at s2
        simp only [List.cons_append, List.nil_append]
        rw [qRun_on (b := 92) (step_stroke xs), qRun_on (b := 116) s2]
        rfl
      · split
        · rename_i h
          have s2 := step_letter xs 114 (by decide) (by decide) hl
          rw [show escI 114 = (b.toNat : Int) from by rw [h]; rfl, b8_of] at s2
          simp only [List.cons_append, List.nil_append]
          rw [qRun_on (b := 92) (step_stroke xs), qRun_on (b := 114) s2]
          rfl
        · split
          · rename_i h
            have q0 : 0 ≤ (b.toNat : Int) / 16 ∧ (b.toNat : Int) / 16 < 16 := by omega
            have q1 : 0 ≤ (b.toNat : Int) % 16 ∧ (b.toNat : Int) % 16 < 16 := by omega
            have r0 := hexD_rg _ q0.1 q0.2
            have r1 := hexD_rg _ q1.1 q1.2
            have s3 : qStep ⟨xs, 2, 0, 0⟩ 48 = ⟨false, 0, ⟨xs, 2, 1, 0⟩⟩ := step_digit xs 0 0 0 (by decide) (by decide) (by decide)
            have s4 : qStep ⟨xs, 2, 1, 0⟩ 48 = ⟨false, 0, ⟨xs, 2, 2, 0⟩⟩ := step_digit xs 1 0 0 (by decide) (by decide) (by decide)
            have s5 : qStep ⟨xs, 2, 2, 0⟩ (hexD ((b.toNat : Int) / 16)) = ⟨false, 0, ⟨xs, 2, 3, 0 * 16 + (b.toNat : Int) / 16⟩⟩ := step_digit xs 2 0 _ q0.1 q0.2 (by decide)
            have hv : (0 * 16 + (b.toNat : Int) / 16) * 16 + (b.toNat : Int) % 16 = b.toNat := by omega
            have hp : putL (b.toNat : Int) = [b] := by unfold putL; rw [if_pos (by omega), b8_of]
            have s6 := step_last xs (0 * 16 + (b.toNat : Int) / 16) _ q1.1 q1.2 (by rw [hv]; unfold mayB; rw [decide_eq_true_iff]; omega) (by rw [hv, hp]; exact hl)
            rw [hv, hp] at s6
            rw [← b8_nat _ r0.1 r0.2] at s5
            rw [← b8_nat _ r1.1 r1.2] at s6
            simp only [List.cons_append, List.nil_append]
            rw [qRun_on (b := 92) (step_stroke xs), qRun_on (b := 117) (step_u xs), qRun_on (b := 48) s3, qRun_on (b := 48) s4, qRun_on s5, qRun_on s6]
            rfl
          · have s1 := step_char xs (b.toNat : Int) (by omega) (by omega) (by omega) hl
            rw [b8_of] at s1
            simp only [List.cons_append, List.nil_append]
            rw [qRun_on s1]
            rfl

theorem run_prAll (l : List UInt8) : ∀ (xs : List UInt8) (i : Nat) (rest : List UInt8), xs.length + l.length ≤ 48 → qRun (plainQ xs) i (prAll l ++ rest) = qRun (plainQ (xs ++ l)) (i + (prAll l).length) rest := by
  induction l with
  | nil => intro xs i rest _; simp [prAll]
  | cons b t ih =>
    intro xs i rest h
    simp only [List.length_cons] at h
    have e : prAll (b :: t) = prB b ++ prAll t := by simp [prAll]
    rw [e, List.append_assoc, run_pr xs b i _ (by omega), ih (xs ++ [b]) _ rest (by simp; omega)]
    simp only [List.append_assoc, List.cons_append, List.nil_append, List.length_append, Nat.add_assoc]

theorem quote_step (xs : List UInt8) : qStep (plainQ xs) 34 = ⟨true, 0, ⟨xs, 3, 0, 0⟩⟩ := rfl
/-- What is printed says what it was made of, and ends just at its last byte. -/
theorem all_print (l : List UInt8) (h : l.length ≤ 48) : qAll ((printL l).drop 1) = ⟨l, (printL l).length - 2, true, 0⟩ := by
  unfold qAll printL
  rw [List.drop_succ_cons, List.drop_zero, run_prAll l [] 0 [34] (by simpa using h)]
  rw [qRun_done (b := 34) (quote_step _)]
  simp
theorem print_inj {a b : List UInt8} (ha : a.length ≤ 48) (hb : b.length ≤ 48) (h : printL a = printL b) : a = b := by
  have e1 := all_print a ha
  have e2 := all_print b hb
  rw [h, e2] at e1
  injection e1 with e1
  exact e1.symm
theorem prAll_len (l : List UInt8) : l.length ≤ (prAll l).length ∧ (prAll l).length ≤ 6 * l.length := by
  induction l with
  | nil => simp [prAll]
  | cons b t ih =>
    have e : prAll (b :: t) = prB b ++ prAll t := by simp [prAll]
    have := prB_len b
    rw [e, List.length_append, List.length_cons]
    omega
theorem prAll_snoc (l : List UInt8) (b : UInt8) : prAll (l ++ [b]) = prAll l ++ prB b := by simp [prAll]
theorem printL_len (l : List UInt8) : (printL l).length = (prAll l).length + 2 := by simp [printL]
end Go.Proofs.YtalkjgijmceifaaGreatDoor.Qt

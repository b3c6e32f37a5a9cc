/-
  lines: parsings under what holds between them; a drawn region in which a call may fail; Word, Parts.
  lines: Fits, Word.
  What an open number tells, and blanks: plain functions. No program is read here.
  token: an open number, as it lies in a cell; blanks.
-/
import Derived.Test.YtalkjgijmceifaaGreatDoorOwA20
import Derived.Test.YtalkjgijmceifaaGreatDoorOwA07
import Derived.Test.YtalkjgijmceifaaGreatDoorOwA05
import Derived.Test.YtalkjgijmceifaaGreatDoorOwA03
import Derived.Test.YtalkjgijmceifaaGreatDoorOwA08
import Derived.StillTailTactics
namespace Go.Proofs.YtalkjgijmceifaaGreatDoor
open Go.RowKit Go.Maps
set_option maxRecDepth 100000
set_option linter.unusedSimpArgs false
set_option linter.unusedVariables false
set_option linter.unusedSectionVars false
variable [Tab] [Fo]

/-- A region that draws its order and may fail. -/
def PanQ (Q : Exit → Act → World → Prop) (Rp : List PanicEntry → World → Prop) (d0 : List Deferred) : Exit → Act → World → Prop :=
  fun e a w => (e = .normal ∧ Q .normal a w) ∨ ∃ c, e = .panic c ∧ Rp c w ∧ a.defers = d0
theorem pan_put {Q : Exit → Act → World → Prop} {Rp : List PanicEntry → World → Prop} {d0 : List Deferred} {c : List PanicEntry} {a : Act} {w : World} {dst : Option Tmp} {v : Value} (h : PanQ Q Rp d0 (.panic c) (a.put dst v) w) : PanQ Q Rp d0 (.panic c) a w := by
  rcases h with ⟨h, _⟩ | ⟨c', h1, h2, h3⟩
  · cases h
  · exact .inr ⟨c', h1, h2, by cases dst <;> exact h3⟩
theorem region_gp {P : Program} {ops : Array Oper} {Q : Exit → Act → World → Prop} {id : Nat} (Es : List Nat) {S : World → Prop} (Rp : List PanicEntry → World → Prop) {a : Act} {w : World} (hm : P.follows .mixedOrders = true) (hS : S w.drew)
    (hp : ∀ c a' w', a'.defers = a.defers → Rp c w' → Q (.panic c) a' w')
    (h : S w.drew → wpAnyG P .any ops (PanQ Q Rp a.defers) Es S ops.size (Array.replicate ops.size false) a w.drew) : (Code.region id ops true).wp P Q a w :=
  wp_mono (wp_region_any hm (any_of_g _ _ _ _ (h hS))) fun e a' w' h => by
    rcases h with ⟨rfl, h⟩ | ⟨c, rfl, h, hd⟩
    · exact h
    · exact hp c a' w' hd h

/-- What reading a line turns: the Line alone. -/
def LnF (L : Nat) (w w' : World) : Prop := w.grownBy w' (some L)
theorem LnF.trans {L : Nat} {w w1 w' : World} (h : LnF L w w1) (k : LnF L w1 w') : LnF L w w' :=
  ⟨k.os.trans h.os, k.tape.trans h.tape, k.output.trans h.output, Nat.le_trans h.size k.size, fun i hi hn => (k.block i (Nat.lt_of_lt_of_le hi h.size) hn).trans (h.block i hi hn)⟩
theorem LnF.refl (L : Nat) (w : World) : LnF L w w := World.grownBy.refl _ _
theorem LAt.lnf {w w' : World} {L : Nat} {o : LO} {S : List UInt8} {a : Nat} (h : LAt w L o S a) (hg : w.grownBy w' (some L)) : LnF L w w' := hg
theorem lnf_below {L : Nat} {w w' : World} (h : Below w.heap.size w w') : LnF L w w' := ⟨h.os, h.tape, h.output, h.size, fun k hk _ => h.block k hk⟩
theorem LnF.blk {L : Nat} {w w' : World} (h : LnF L w w') {g : Nat} {t : TypeId} {cs : Array Value} (hb : Blk w g t cs) (hn : g ≠ L) : Blk w' g t cs := (h.block g hb.lt (fun e => hn (Option.some.inj e))).trans hb
/-- What holds between the steps of a parsing, and when it has failed. -/
structure LnI (L : Nat) (o : LO) (S : List UInt8) (I : Nat → World → Prop) (F : Int → World → Prop) : Prop where
  len : S.length ≤ 1000
  line : ∀ {a w}, I a w → LAt w L o S a ∧ a ≤ S.length
  go : ∀ {a a' w w'}, I a w → LAt w' L o S a' → a' ≤ S.length → LnF L w w' → I a' w'
  fail : ∀ {a w} k, I a w → k ≠ 0 → F k w
/-- How a reading ends: as r says. -/
def Pu (I : Nat → World → Prop) (F : Int → World → Prop) (r : Option Nat) (e : Ending) (w' : World) : Prop :=
  (∃ a', r = some a' ∧ e = .returned (.tuple #[]) ∧ I a' w') ∨ (r = none ∧ ∃ k, e = .panicked (failP k) ∧ F k w')
/-- The same, of a reading that returns a text. -/
def Ps (I : Nat → World → Prop) (F : Int → World → Prop) (r : Option (ByteArray × Nat)) (e : Ending) (w' : World) : Prop :=
  (∃ t a', r = some (t, a') ∧ e = .returned (.string t) ∧ I a' w') ∨ (r = none ∧ ∃ k, e = .panicked (failP k) ∧ F k w')
/-- The same, of a reading that tells. -/
def Pq {σ : Type} (I : σ → Nat → World → Prop) (F : Int → World → Prop) (r : Option (Nat × σ)) (e : Ending) (w' : World) : Prop :=
  (∃ a' x', r = some (a', x') ∧ e = .returned (.tuple #[]) ∧ I x' a' w') ∨ (r = none ∧ ∃ k, e = .panicked (failP k) ∧ F k w')
def meetB (S : List UInt8) (a : Nat) (b : UInt8) : Option Nat := if isB S a b = true then some a else none
def eatB (S : List UInt8) (a : Nat) (b : UInt8) : Option Nat := if isB S a b = true then some (a + 1) else none
def cmB (S : List UInt8) (a : Nat) : Bool := decide (blk S a = S.length) || isB S (blk S a) 35
def finB (S : List UInt8) (a : Nat) : Option Nat := if blk S a = S.length then some (blk S a) else none
section
variable {L : Nat} {o : LO} {S : List UInt8} {I : Nat → World → Prop} {F : Int → World → Prop} (H : LnI L o S I F) {a : Nat} {w : World}
include H
theorem is_I (b : UInt8) (h : I a w) : Calls Tryz.prog 177 #[.pointer (some ⟨L, 0, none⟩), .int .u8 (b.toNat : Int)] w fun e w' => e = .returned (.bool (isB S a b)) ∧ I a w' :=
  (is_any w L o S a b (H.line h).1 H.len (H.line h).2).mono fun e w' ⟨h1, n, h2⟩ => ⟨h1, by subst h2; exact H.go h ((H.line h).1.drew n) (H.line h).2 ((H.line h).1.lnf (grown_drew w n _))⟩
theorem over_I (h : I a w) : Calls Tryz.prog 176 #[.pointer (some ⟨L, 0, none⟩)] w fun e w' => e = .returned (.bool (decide (a = S.length))) ∧ I a w' :=
  (over_any w L o S a (H.line h).1 H.len (Nat.le_trans (H.line h).2 H.len)).mono fun e w' ⟨h1, h2⟩ => ⟨h1, by subst h2; exact H.go h ((H.line h).1.drew 1) (H.line h).2 ((H.line h).1.lnf (grown_drew w 1 _))⟩
theorem meet_I (b : UInt8) (h : I a w) : Calls Tryz.prog 201 #[.pointer (some ⟨L, 0, none⟩), .int .u8 (b.toNat : Int)] w (Pu I F (meetB S a b)) :=
  (meet_any w L o S a b (H.line h).1 H.len (H.line h).2).mono fun e w' ⟨hp, n, h2⟩ => by
    subst h2
    have hi := H.go h ((H.line h).1.drew n) (H.line h).2 ((H.line h).1.lnf (grown_drew w n _))
    rcases hp with ⟨h0, h1⟩ | ⟨h0, h1⟩
    · exact .inl ⟨a, by unfold meetB; rw [if_pos h0], h1, hi⟩
    · exact .inr ⟨by unfold meetB; rw [if_neg (by rw [h0]; decide)], 2, h1, H.fail 2 hi (by decide)⟩
theorem expect_I (b : UInt8) (h : I a w) : Calls Tryz.prog 193 #[.pointer (some ⟨L, 0, none⟩), .int .u8 (b.toNat : Int)] w (Pu I F (eatB S a b)) :=
  (expect_any w L o S a b (H.line h).1 H.len (H.line h).2).mono fun e w' hp => by
    rcases hp with ⟨h0, h1, h2, h3, h4, h5⟩ | ⟨h0, h1, h2, h3, h4, h5⟩
    · exact .inl ⟨a + 1, by unfold eatB; rw [if_pos h0], h1, H.go h h4 h3 ((H.line h).1.lnf h5)⟩
    · exact .inr ⟨by unfold eatB; rw [if_neg (by rw [h0]; decide)], 2, h1, H.fail 2 (H.go h h4 h3 ((H.line h).1.lnf h5)) (by decide)⟩
theorem blanks_I (h : I a w) : Calls Tryz.prog 175 #[.pointer (some ⟨L, 0, none⟩)] w fun e w' => e = .returned (.tuple #[]) ∧ I (blk S a) w' :=
  (blanks_any w L o S a (H.line h).1 H.len (H.line h).2).mono fun e w' ⟨h1, h2, h3, h4, h5⟩ => ⟨h1, H.go h h4 h3 ((H.line h).1.lnf h5)⟩
theorem fail_I (k : Int) (hk : k ≠ 0) (h : I a w) : Calls Tryz.prog 170 #[.pointer (some ⟨L, 0, none⟩), .int .i64 k] w fun e w' => e = .panicked (failP k) ∧ F k w' :=
  (fail_any w L k).mono fun e w' ⟨h1, h2⟩ => ⟨h1, by subst h2; exact H.fail k h hk⟩
/-- The next byte is read. -/
theorem next_I (h : I a w) (hl : a < S.length) : I (a + 1) (w.setCell ⟨L, 1, none⟩ (.int .i64 ((a + 1 : Nat) : Int))) := H.go h ((H.line h).1.go (a + 1)) hl ((H.line h).1.lnf (grown_at (World.grownBy.refl w _) _))
theorem comment_I (h : I a w) : Calls Tryz.prog 172 #[.pointer (some ⟨L, 0, none⟩)] w fun e w' => e = .returned (.bool (cmB S a)) ∧ I (blk S a) w' := by
  have HB := Lib.hid (blanks_I H h)
  obtain ⟨R, hR⟩ : ∃ R, cmB S a = R := ⟨_, rfl⟩
  rw [hR]
  unfold cmB at hR
  have HR := Lib.hid hR
  clear hR
  generalize blk S a = c at *
  clear h
  go_enter Tryz.func172, Tryz.ntmps172
  go_wp2_with fail
  refine HB.out.mono ?_
  rintro e w1 ⟨rfl, h1⟩
  have HO := Lib.hid (over_I H h1)
  clear h1 HB
  cases hov : decide (c = S.length) with
  | true =>
    rw [hov] at HO HR
    clear hov
    go_wp2_with fail
    refine HO.out.mono ?_
    rintro e w2 ⟨rfl, h2⟩
    have H2 := Lib.hid h2
    clear h2 HO
    go_wp2
    go_ret
    exact ⟨by rw [← HR.out]; rfl, H2.out⟩
  | false =>
    rw [hov] at HO HR
    clear hov
    go_wp2_with fail
    refine HO.out.mono ?_
    rintro e w2 ⟨rfl, h2⟩
    have HI := Lib.hid (is_I H 35 h2)
    clear h2 HO
    go_wp2_with fail
    refine HI.out.mono ?_
    rintro e w3 ⟨rfl, h3⟩
    have H3 := Lib.hid h3
    clear h3 HI
    go_wp2
    go_ret
    exact ⟨by rw [← HR.out, Bool.false_or]; rfl, H3.out⟩
theorem finish_I (h : I a w) : Calls Tryz.prog 200 #[.pointer (some ⟨L, 0, none⟩)] w (Pu I F (finB S a)) := by
  have HB := Lib.hid (blanks_I H h)
  obtain ⟨R, hR⟩ : ∃ R, finB S a = R := ⟨_, rfl⟩
  rw [hR]
  unfold finB at hR
  have HR := Lib.hid hR
  clear hR
  generalize blk S a = c at *
  clear h
  go_enter Tryz.func200, Tryz.ntmps200
  go_wp2_with fail
  refine HB.out.mono ?_
  rintro e w1 ⟨rfl, h1⟩
  have HO := Lib.hid (over_I H h1)
  clear h1 HB
  by_cases hov : c = S.length
  · rw [decide_eq_true hov] at HO
    rw [if_pos hov] at HR
    clear hov
    go_wp2_with fail
    refine HO.out.mono ?_
    rintro e w2 ⟨rfl, h2⟩
    have H2 := Lib.hid h2
    clear h2 HO
    go_wp2
    go_end0
    exact .inl ⟨c, HR.out.symm, rfl, H2.out⟩
  · rw [decide_eq_false hov] at HO
    rw [if_neg hov] at HR
    clear hov
    go_wp2_with fail
    refine HO.out.mono ?_
    rintro e w2 ⟨rfl, h2⟩
    have H2 := Lib.hid (fail_I H 2 (by decide) h2)
    clear h2 HO
    go_wp2_with fail
    refine H2.out.mono ?_
    rintro e w3 ⟨rfl, hF⟩
    exact ⟨rfl, .inr ⟨HR.out.symm, 2, rfl, hF⟩⟩
end

/-! What stands between two brackets. -/
section
variable {σ : Type}
def pLoop (S : List UInt8) (b : UInt8) (p : Nat → σ → Option (Nat × σ)) : Nat → Nat → σ → Option (Nat × σ)
  | 0, _, _ => none
  | n + 1, a, x => if isB S a 44 = true then (p (blk S (a + 1)) x).bind fun q => pLoop S b p n (blk S q.1) q.2 else if isB S a b = true then some (a, x) else none
def partsG (S : List UInt8) (b : UInt8) (p : Nat → σ → Option (Nat × σ)) (a : Nat) (x : σ) : Option (Nat × σ) :=
  if isB S (blk S a) b = true then some (blk S a, x) else (p (blk S a) x).bind fun q => pLoop S b p (S.length + 1) (blk S q.1) q.2
theorem pLoop_comma {S : List UInt8} {b : UInt8} {p : Nat → σ → Option (Nat × σ)} {n a : Nat} {x : σ} (h : isB S a 44 = true) : pLoop S b p (n + 1) a x = (p (blk S (a + 1)) x).bind fun q => pLoop S b p n (blk S q.1) q.2 := by rw [pLoop, if_pos h]
theorem pLoop_end {S : List UInt8} {b : UInt8} {p : Nat → σ → Option (Nat × σ)} {n a : Nat} {x : σ} (h : isB S a 44 = false) : pLoop S b p (n + 1) a x = if isB S a b = true then some (a, x) else none := by rw [pLoop, if_neg (by rw [h]; decide)]
variable {L : Nat} {o : LO} {S : List UInt8} {I : σ → Nat → World → Prop} {F : Int → World → Prop} (H : ∀ x, LnI L o S (I x) F) {a : Nat} {x : σ} {w : World}
include H
theorem parts_I (b : UInt8) (g : FuncId) (first cap : Array Value) (hef : ∀ args w, (callFunc g args).run Tryz.prog w = .ok (.enter g args) w) (p : Nat → σ → Option (Nat × σ)) (Ok : Nat → σ → Prop) (hmono : ∀ {a1 a2 x1}, a1 ≤ a2 → Ok a1 x1 → Ok a2 x1) (ho : Ok a x) (h : I x a w)
    (hp : ∀ a1 x1 w1, a ≤ a1 → Ok a1 x1 → I x1 a1 w1 → Calls Tryz.prog g (first ++ cap) w1 (Pq I F (p a1 x1)))
    (hs : ∀ a1 x1 a2 x2, a ≤ a1 → Ok a1 x1 → p a1 x1 = some (a2, x2) → a1 < a2 ∧ Ok a2 x2) :
    Calls Tryz.prog 217 #[.pointer (some ⟨L, 0, none⟩), .int .u8 (b.toNat : Int), .func (.func g) first cap] w (Pq I F (partsG S b p a x)) := by
  have HI := Lib.hid h
  have HP := Lib.hid hp
  have HO := Lib.hid (hmono (le_blk S a) ho)
  have HS := Lib.hid hs
  have HB0 := Lib.hid (le_blk S a)
  obtain ⟨R, hR⟩ : ∃ R, partsG S b p a x = R := ⟨_, rfl⟩
  rw [hR]
  unfold partsG at hR
  obtain ⟨a1, ha1⟩ : ∃ a1, blk S a = a1 := ⟨_, rfl⟩
  have HA1 := Lib.hid ha1
  rw [ha1] at HO HB0 hR
  have HR := Lib.hid hR
  clear h hp ho hs ha1 hR
  go_enter Tryz.func217, Tryz.ntmps217
  go_wp2_with fail
  refine (blanks_I (H x) HI.out).mono ?_
  rintro e w1 ⟨rfl, hI1⟩
  rw [HA1.out] at hI1
  have HI1 := Lib.hid hI1
  have hC := is_I (H x) b hI1
  clear hI1
  cases hb : isB S a1 b with
  | true =>
    rw [hb] at hC
    rw [if_pos hb] at HR
    clear hb
    go_wp2_with fail
    refine hC.mono ?_
    rintro e w2 ⟨rfl, hI2⟩
    have HI2 := Lib.hid hI2
    clear hI2 hC
    go_wp2
    go_end0
    exact .inl ⟨a1, x, HR.out.symm, rfl, HI2.out⟩
  | false =>
    rw [if_neg (by rw [hb]; decide)] at HR
    rw [hb] at hC
    clear hb
    go_wp2_with fail
    refine hC.mono ?_
    rintro e w2 ⟨rfl, hI2⟩
    have HC2 := Lib.hid (HP.out a1 x w2 HB0.out HO.out hI2)
    clear hI2 hC
    go_wp2_with fail
    refine HC2.out.mono ?_
    rintro e w3 (⟨a3, x3, hr3, rfl, hI3⟩ | ⟨hr3, k, rfl, hF⟩)
    case inr => exact ⟨rfl, .inr ⟨by rw [← HR.out, hr3]; rfl, k, rfl, hF⟩⟩
    obtain ⟨h13, hO3⟩ := HS.out a1 x a3 x3 HB0.out HO.out hr3
    rw [hr3] at HR
    have HI3 := Lib.hid hI3
    have HQ : Hid (a ≤ a3 ∧ Ok a3 x3) := Lib.hid ⟨by have := HB0.out; omega, hO3⟩
    clear hI3 HC2 hr3 h13 hO3 HO HI1
    have HR : Hid (pLoop S b p (S.length + 1) (blk S a3) x3 = R) := Lib.hid HR.out
    go_wp2_with fail
    refine (blanks_I (H x3) HI3.out).mono ?_
    rintro e w4 ⟨rfl, hI4⟩
    have START := Lib.hid (show ∃ a' x' n, a ≤ a' ∧ S.length - a' < n ∧ Hid (I x' a' w4) ∧ Hid (Ok a' x') ∧ Hid (pLoop S b p n a' x' = R) from ⟨blk S a3, x3, S.length + 1, by have := le_blk S a3; have := HQ.out.1; omega, by omega, Lib.hid hI4, Lib.hid (hmono (le_blk S a3) HQ.out.2), HR⟩)
    clear hI4 HI3 HR HQ
    go_wp2
    go_loopw [] (fun wr => ∃ a' x' n, a ≤ a' ∧ S.length - a' < n ∧ Hid (I x' a' wr) ∧ Hid (Ok a' x') ∧ Hid (pLoop S b p n a' x' = R)) (fun wr => S.length - atOf L wr)
    case atStart => exact START.out
    case round =>
      obtain ⟨a5, x5, n5, h5, hn5, HI5, HO5, HR5⟩ := hrel
      clear START HI
      obtain ⟨n, rfl⟩ : ∃ n, n5 = n + 1 := ⟨n5 - 1, by omega⟩
      have hat := ((H x5).line HI5.out).1.at_
      have HAT := Lib.hid hat
      have hC := is_I (H x5) 44 HI5.out
      clear hat
      cases hb5 : isB S a5 44 with
      | true =>
        have hal := isB_true hb5
        have HR6 := Lib.hid ((pLoop_comma hb5).symm.trans HR5.out)
        rw [hb5] at hC
        clear hb5 HR5
        go_wp2_with fail
        refine hC.mono ?_
        rintro e w6 ⟨rfl, hI6⟩
        have l1 : w6.cell? ⟨L, 1, none⟩ = some (.int .i64 (a5 : Int)) := Blk.cell ((H x5).line hI6).1 1
        have f1 := Blk.frozen ((H x5).line hI6).1 1
        have hlt := Blk.lt ((H x5).line hI6).1
        have hS := (H x5).len
        have hI7 := next_I (H x5) hI6 hal
        obtain ⟨a6, ha6⟩ : ∃ a6 : Nat, (a5 : Int) + 1 = a6 := ⟨a5 + 1, rfl⟩
        have hn6 : a5 + 1 = a6 := by omega
        rw [hn6] at hI7 HR6
        have HI7 := Lib.hid hI7
        have HN6 := Lib.hid hn6
        have HL8 := Lib.hid (le_blk S a6)
        obtain ⟨a8, ha8⟩ : ∃ a8, blk S a6 = a8 := ⟨_, rfl⟩
        rw [ha8] at HR6 HL8
        have HA8 := Lib.hid ha8
        clear hI6 hI7 hn6 hC ha8
        go_wp2_with fail
        refine (blanks_I (H x5) HI7.out).mono ?_
        rintro e w8 ⟨rfl, hI8⟩
        rw [HA8.out] at hI8
        have HO8 := Lib.hid (hmono (show a5 ≤ a8 by have := HN6.out; have := HL8.out; omega) HO5.out)
        have HC8 := Lib.hid (HP.out a8 x5 w8 (by have := HN6.out; have := HL8.out; omega) HO8.out hI8)
        clear hI8 l1 f1 hlt HI7 HO5
        go_wp2_with fail
        refine HC8.out.mono ?_
        rintro e w9 (⟨a9, x9, hr9, rfl, hI9⟩ | ⟨hr9, k, rfl, hF⟩)
        case inr => exact ⟨rfl, .inr ⟨by rw [← HR6.out, hr9]; rfl, k, rfl, hF⟩⟩
        obtain ⟨h89, hO9⟩ := HS.out a8 x5 a9 x9 (by have := HN6.out; have := HL8.out; omega) HO8.out hr9
        rw [hr9] at HR6
        have HI9 := Lib.hid hI9
        have HO9 := Lib.hid hO9
        clear hI9 HC8 hr9 hO9
        go_wp2_with fail
        refine (blanks_I (H x9) HI9.out).mono ?_
        rintro e w10 ⟨rfl, hI10⟩
        have HI10 := Lib.hid hI10
        have HA10 := Lib.hid (And.intro ((H x9).line hI10).1.at_ ((H x9).line hI10).2)
        have HB10 := Lib.hid (le_blk S a9)
        clear hI10 HI9
        go_wp2
        go_roundw
        case rel => exact ⟨blk S a9, x9, n, by have := HN6.out; have := HL8.out; have := HB10.out; omega, by have := HN6.out; have := HL8.out; have := HB10.out; omega, HI10, Lib.hid (hmono HB10.out HO9.out), Lib.hid HR6.out⟩
        case measure => rw [HA10.out.1, HAT.out]; have := HN6.out; have := HA10.out.2; have := HL8.out; have := HB10.out; omega
      | false =>
        have HR6 := Lib.hid ((pLoop_end hb5).symm.trans HR5.out)
        rw [hb5] at hC
        clear hb5 HR5
        go_wp2_with fail
        refine hC.mono ?_
        rintro e w6 ⟨rfl, hI6⟩
        have hC2 := Lib.hid (meet_I (H x5) b hI6)
        clear hI6 hC
        go_wp2_with fail
        refine hC2.out.mono ?_
        rintro e w7 (⟨a7, hr7, rfl, hI7⟩ | ⟨hr7, k, rfl, hF⟩)
        · have HF : Hid (R = some (a5, x5) ∧ I x5 a5 w7) := by
            unfold meetB at hr7
            have hr := HR6.out
            split at hr7
            · rename_i hb7
              rw [if_pos hb7] at hr
              injection hr7 with hr7
              subst hr7
              exact Lib.hid ⟨hr.symm, hI7⟩
            · cases hr7
          clear hr7 hI7 hC2
          go_wp2
          go_end0
          exact .inl ⟨a5, x5, HF.out.1, rfl, HF.out.2⟩
        · refine ⟨rfl, .inr ⟨?_, k, rfl, hF⟩⟩
          unfold meetB at hr7
          have hr := HR6.out
          split at hr7
          · cases hr7
          · rename_i hb7
            rw [if_neg hb7] at hr
            exact hr.symm
end
end Go.Proofs.YtalkjgijmceifaaGreatDoor
namespace Go.Proofs.YtalkjgijmceifaaGreatDoor
open Go.RowKit Go.Maps
set_option maxRecDepth 100000
set_option linter.unusedSimpArgs false
set_option linter.unusedVariables false
set_option linter.unusedSectionVars false
variable [Tab] [Fo]
/-- A word, but for its last byte. -/
def wordP (S : List UInt8) : List UInt8 → Nat → Option Nat
  | [], _ => none
  | [b], a => meetB S a b
  | b :: c :: r, a => (eatB S a b).bind fun a2 => wordP S (c :: r) a2
theorem word_more (S wd : List UInt8) (j a : Nat) (h : j + 1 < wd.length) : wordP S (wd.drop j) a = (eatB S a (wd[j]'(by omega))).bind fun a2 => wordP S (wd.drop (j + 1)) a2 := by
  rw [List.drop_eq_getElem_cons (show j < wd.length by omega), List.drop_eq_getElem_cons h]
  rfl
theorem word_last (S wd : List UInt8) (n a : Nat) (h : wd.length = n + 1) : wordP S (wd.drop n) a = meetB S a (wd[n]'(by omega)) := by
  rw [List.drop_eq_getElem_cons (show n < wd.length by omega), List.drop_of_length_le (by omega)]
  rfl
section
variable {L : Nat} {o : LO} {S : List UInt8} {I : Nat → World → Prop} {F : Int → World → Prop} (H : LnI L o S I F) {a : Nat} {w : World}
include H
theorem alloc_I (h : I a w) (q : Obj) : I a (w.alloc q) := H.go h (Blk.alloc (H.line h).1 q) (H.line h).2 (lnf_below ((Below.refl _ _).alloc (Nat.le_refl _) _))
theorem below_I {w' : World} (h : I a w) (hb : Below w.heap.size w w') : I a w' := H.go h (Blk.below (H.line h).1 hb (H.line h).1.lt) (H.line h).2 (lnf_below hb)
/-- A parsing that is tried: the line is read again from where it was. -/
theorem fits_I (g : FuncId) (first cap : Array Value) (hef : ∀ args w, (callFunc g args).run Tryz.prog w = .ok (.enter g args) w) (r : Option Nat) (h : I a w)
    (herr : ∀ {a1 w1 r cs} u, w.heap.size ≤ r → I a1 w1 → Blk w1 r 25 cs → I a1 (w1.setCell ⟨r, 0, none⟩ u))
    (hp : ∀ w1, I a w1 → Calls Tryz.prog g (first ++ cap) w1 (Pu (fun a2 w2 => I a2 w2 ∧ LnF L w1 w2) (fun k w2 => k ≠ 0 ∧ ∃ a2, I a2 w2 ∧ LnF L w1 w2) r)) :
    Calls Tryz.prog 182 #[.pointer (some ⟨L, 0, none⟩), .func (.func g) first cap] w fun e w' => e = .returned (.bool r.isSome) ∧ I a w' := by
  have l1 : w.cell? ⟨L, 1, none⟩ = some (.int .i64 (a : Int)) := Blk.cell (H.line h).1 1
  have hlt := Blk.lt (H.line h).1
  have hA := attempt_any w g first cap #[] (fun k w2 => (∃ a2, I a2 w2) ∧ (k == 0) = r.isSome) hef ((hp _ (alloc_I H h _)).mono fun e w2 hq => by
    rcases hq with ⟨a2, h1, h2, h3, h4⟩ | ⟨h1, k, h2, h3, a2, h4, h5⟩
    · exact ⟨h4.blk (Blk.new w 25 #[.int .i64 0]) (by omega), .inl ⟨h2, ⟨a2, h3⟩, by rw [h1]; rfl⟩⟩
    · exact ⟨h5.blk (Blk.new w 25 #[.int .i64 0]) (by omega), .inr ⟨k, h2, ⟨a2, h4⟩, by rw [h1, beq_eq_false_iff_ne.2 h3]; rfl⟩⟩)
  have HA := Lib.hid hA
  have hal := (H.line h).2
  clear hA hp h
  go_enter Tryz.func182, Tryz.ntmps182
  go_wp2_with fail
  refine HA.out.mono ?_
  rintro e w1 ⟨k, w0, rfl, ⟨⟨a2, hI⟩, hk⟩, hB, hw⟩
  have HK := Lib.hid hk
  clear hk
  have hI1 : ∃ a2, I a2 w1 := by
    rcases hw with rfl | rfl
    · exact ⟨a2, herr _ (Nat.le_refl _) hI hB⟩
    · exact ⟨a2, alloc_I H (herr _ (Nat.le_refl _) hI hB) _⟩
  obtain ⟨a3, hI3⟩ := hI1
  have m1 : w1.cell? ⟨L, 1, none⟩ = some (.int .i64 (a3 : Int)) := Blk.cell (H.line hI3).1 1
  have f1 := Blk.frozen (H.line hI3).1 1
  have hlt1 := Blk.lt (H.line hI3).1
  have HF : Hid (I a (w1.setCell ⟨L, 1, none⟩ (.int .i64 (a : Int)))) := Lib.hid (H.go hI3 ((H.line hI3).1.go a) hal ((H.line hI3).1.lnf (grown_at (World.grownBy.refl w1 _) _)))
  clear hw hB hI hI3 HA l1 hlt
  go_wp2
  go_ret
  exact ⟨by rw [← HK.out]; rfl, HF.out⟩
theorem word_I (wd : List UInt8) (hw0 : 0 < wd.length) (hw9 : wd.length ≤ 9) (h : I a w) :
    Calls Tryz.prog 208 #[.pointer (some ⟨L, 0, none⟩), .string ⟨wd.toArray⟩] w (Pu I F (wordP S wd a)) := by
  have HI := Lib.hid h
  have hz := bsize wd
  obtain ⟨n, hn⟩ : ∃ n, wd.length = n + 1 := ⟨wd.length - 1, by omega⟩
  have hn2 : ((⟨wd.toArray⟩ : ByteArray).size : Int) - 1 = n := by rw [hz, hn]; omega
  have HN := Lib.hid hn
  obtain ⟨R, hR⟩ : ∃ R, wordP S wd a = R := ⟨_, rfl⟩
  rw [hR]
  have START := Lib.hid (show ∃ (j a' : Nat), (0 : Int) = (j : Int) ∧ j ≤ n ∧ Hid (I a' w) ∧ Hid (wordP S (wd.drop j) a' = R) from ⟨0, a, rfl, Nat.zero_le _, HI, Lib.hid hR⟩)
  clear h hR HI
  go_enter Tryz.func208, Tryz.ntmps208
  go_wp2
  go_loopw [10] (fun i wr => ∃ (j a' : Nat), i = .int .i64 (j : Int) ∧ j ≤ n ∧ Hid (I a' wr) ∧ Hid (wordP S (wd.drop j) a' = R)) (fun i _ => n - (intOf i).toNat)
  case atStart =>
    obtain ⟨j, a', h1, h2, h3, h4⟩ := START.out
    exact ⟨j, a', by rw [← h1], h2, h3, h4⟩
  case round =>
    obtain ⟨j, a1, rfl, hj, HI1, HR⟩ := hrel
    clear START
    by_cases hjn : j < n
    · have hjw : j < wd.length := by omega
      have hC := expect_I H wd[j] HI1.out
      have hx : (({ data := wd.toArray } : ByteArray)[j]'(by rw [bsize]; exact hjw)) = wd[j] := rfl
      have HR2 : Hid ((eatB S a1 wd[j]).bind (fun a2 => wordP S (wd.drop (j + 1)) a2) = R) := Lib.hid (by rw [← HR.out, word_more S wd j a1 (by have := HN.out; omega)])
      have HC := Lib.hid hC
      clear hC HR
      go_wp2_with fail
      refine HC.out.mono ?_
      rintro e w2 (⟨a2, hb, rfl, hI2⟩ | ⟨hb, k, rfl, hF⟩)
      case inr => exact ⟨rfl, .inr ⟨by rw [← HR2.out, hb]; rfl, k, rfl, hF⟩⟩
      rw [hb] at HR2
      have HI2 := Lib.hid hI2
      clear hI2 HC hb
      go_wp2
      go_roundw
      case rel => exact ⟨j + 1, a2, by go_num, hjn, HI2, Lib.hid HR2.out⟩
      case measure => first | (simp [intOf]; done) | (simp [intOf]; omega)
    · have hje : n = j := by omega
      subst hje
      have hjw : n < wd.length := by omega
      have hC := meet_I H wd[n] HI1.out
      have hx : (({ data := wd.toArray } : ByteArray)[n]'(by rw [bsize]; exact hjw)) = wd[n] := rfl
      have HR2 : Hid (meetB S a1 wd[n] = R) := Lib.hid (by rw [← HR.out, word_last S wd n a1 HN.out])
      rw [HR2.out] at hC
      have HC := Lib.hid hC
      clear hC HR HR2
      go_wp2_with fail
      refine HC.out.mono ?_
      rintro e w2 (⟨a2, hb, rfl, hI2⟩ | ⟨hb, k, rfl, hF⟩)
      case inr => exact ⟨rfl, .inr ⟨hb, k, rfl, hF⟩⟩
      have HI2 := Lib.hid (And.intro hb hI2)
      clear hI2 HC hb
      go_wp2
      go_end0
      exact .inl ⟨a2, HI2.out.1, rfl, HI2.out.2⟩
end
end Go.Proofs.YtalkjgijmceifaaGreatDoor
namespace Go.Proofs.YtalkjgijmceifaaGreatDoor
set_option linter.unusedSectionVars false
variable [Tab]
def mayB1 (nm : ByteArray) (b : UInt8) : Bool := Nm.begB (nm.data.toList ++ [b])
def blankB (b : UInt8) : Bool := decide (b.toNat = 32 ∨ b.toNat = 9 ∨ b.toNat = 10 ∨ b.toNat = 13)
/-- What End tells: the normal form, and an error. -/
def endS (nm : ByteArray) : ByteArray := if Nm.isB nm.data.toList = true then Nm.readS nm.data.toList else ⟨#[]⟩
def endC (nm : ByteArray) : Int := if Nm.isB nm.data.toList = true then Nm.readC nm.data.toList else 2
theorem endS_size (nm : ByteArray) : (endS nm).size ≤ 30 := by
  unfold endS
  split
  · generalize nm.data.toList = l
    cases h : Nm.readL l with
    | none => rw [Nm.readS_none h]; exact Nat.zero_le _
    | some v =>
      rw [Nm.readS_some h]
      have h2 : Nm.okV v = true := by
        unfold Nm.readL Nm.readE at h
        split at h
        · split at h
          · rename_i hok
            injection h with h
            rw [← h]; exact hok
          · cases h
        · cases h
      unfold Nm.okV at h2
      have h3 := (of_decide_eq_true h2).2.2
      show (Nm.formL v).toArray.size ≤ 30
      rw [List.size_toArray]
      exact h3
  · exact Nat.zero_le _
end Go.Proofs.YtalkjgijmceifaaGreatDoor
namespace Go.Proofs.YtalkjgijmceifaaGreatDoor
open Go.RowKit Go.Maps
set_option maxRecDepth 100000
set_option linter.unusedSimpArgs false
set_option linter.unusedVariables false
set_option linter.unusedSectionVars false
variable [Tab] [Fo]

theorem one_str (w : World) (b : UInt8) : (convert 22 9 (.slice (some ⟨w.heap.size, 0, none⟩) 1 1)).run Tryz.prog (w.alloc (.cells #[.int .u8 (b.toNat : Int)] 5)) = .ok (.string ⟨#[b]⟩) (w.alloc (.cells #[.int .u8 (b.toNat : Int)] 5)) :=
  Nm.put_str [b] (ORow.lit w w.heap.size 5 #[.int .u8 (b.toNat : Int)] (Nat.le_refl _) (by simp [maxLen]))
theorem one_strD (w : World) (b : UInt8) : (convert 22 9 (.slice (some ⟨w.heap.size, 0, none⟩) 1 1)).run Tryz.prog (w.alloc (.cells #[.int .u8 (b.toNat : Int)] 5)).drew = .ok (.string ⟨#[b]⟩) (w.alloc (.cells #[.int .u8 (b.toNat : Int)] 5)).drew :=
  Nm.put_str [b] (ORow.drew (ORow.lit w w.heap.size 5 #[.int .u8 (b.toNat : Int)] (Nat.le_refl _) (by simp [maxLen])))
theorem app_one (s : ByteArray) (b : UInt8) : (s ++ (⟨#[b]⟩ : ByteArray)).data.toList = s.data.toList ++ [b] := by simp [ByteArray.append_eq, ByteArray.data_append]

set_option maxHeartbeats 4000000 in
theorem goes_any (w : World) (m i : Nat) (s : ByteArray) (b : UInt8) (hc : w.cell? ⟨m, i, none⟩ = some (.string s)) (hl : m < w.heap.size) (hs : s.size ≤ 1000) :
    Calls Tryz.prog 275 #[.pointer (some ⟨m, i, none⟩), .int .u8 (b.toNat : Int)] w fun e w' => e = .returned (.bool (mayB1 s b)) ∧ Below w.heap.size w w' := by
  have h1 := one_str w b
  have h1d := one_strD w b
  have hM := fun w' => Nm.may_any (s ++ (⟨#[b]⟩ : ByteArray)) w' (by have h2 : (s ++ (⟨#[b]⟩ : ByteArray)).size = s.size + 1 := ByteArray.size_append; omega)
  rw [app_one] at hM
  have al : Below w.heap.size w (w.alloc (.cells #[.int .u8 (b.toNat : Int)] 5)) := (Below.refl _ _).alloc (Nat.le_refl _) _
  have ald : Below w.heap.size w (w.alloc (.cells #[.int .u8 (b.toNat : Int)] 5)).drew := below_drew al
  unfold mayB1
  go_enter Tryz.func275, Tryz.ntmps275
  go_wp2
  go_region_with (first
    | (go_at_call 68; refine (hM _).mono ?_; rintro e w' ⟨rfl, rfl⟩))
  all_goals
    go_wp2
    go_ret
    exact ⟨rfl, ald⟩

set_option maxHeartbeats 4000000 in
theorem oadd_any (w : World) (m i : Nat) (s : ByteArray) (b : UInt8) (most : Nat) (hc : w.cell? ⟨m, i, none⟩ = some (.string s)) (hf : w.frozen? ⟨m, i, none⟩ = false) (hl : m < w.heap.size) (hs : s.size ≤ 1000) (hmo : most ≤ 1000) :
    Calls Tryz.prog 272 #[.pointer (some ⟨m, i, none⟩), .int .u8 (b.toNat : Int), .int .i64 (most : Int)] w fun e w' =>
      if most ≤ s.size then e = .returned (.int .i64 4) ∧ w' = w
      else e = .returned (.int .i64 0) ∧ Below (w.setCell ⟨m, i, none⟩ (.string (s ++ ⟨#[b]⟩))).heap.size (w.setCell ⟨m, i, none⟩ (.string (s ++ ⟨#[b]⟩))) w' := by
  by_cases h30 : most ≤ s.size
  case pos =>
    simp only [if_pos h30]
    go_enter Tryz.func272, Tryz.ntmps272
    go_wp2
    go_ret
    exact ⟨rfl, rfl⟩
  case neg =>
    simp only [if_neg h30]
    have hcv := one_strD w b
    have al : Below (w.setCell ⟨m, i, none⟩ (.string (s ++ ⟨#[b]⟩))).heap.size (w.setCell ⟨m, i, none⟩ (.string (s ++ ⟨#[b]⟩))) ((w.setCell ⟨m, i, none⟩ (.string (s ++ ⟨#[b]⟩))).alloc (.cells #[.int .u8 (b.toNat : Int)] 5)).drew := below_drew ((Below.refl _ _).alloc (Nat.le_refl _) _)
    have AL := Lib.hid al
    clear al
    go_enter Tryz.func272, Tryz.ntmps272
    go_wp2
    go_region
    go_wp2
    go_ret
    exact ⟨rfl, AL.out⟩
theorem otake_any (w : World) (m i : Nat) (s : ByteArray) (hc : w.cell? ⟨m, i, none⟩ = some (.string s)) (hf : w.frozen? ⟨m, i, none⟩ = false) (hl : m < w.heap.size) :
    Calls Tryz.prog 271 #[.pointer (some ⟨m, i, none⟩)] w fun e w' => e = .returned (.string s) ∧ w' = w.setCell ⟨m, i, none⟩ (.string ⟨#[]⟩) := by
  go_enter Tryz.func271, Tryz.ntmps271
  go_wp2
  go_ret
  exact ⟨rfl, rfl⟩
theorem tadd_any (w : World) (m i : Nat) (s : ByteArray) (b : UInt8) (hc : w.cell? ⟨m, i, none⟩ = some (.string s)) (hf : w.frozen? ⟨m, i, none⟩ = false) (hl : m < w.heap.size) (hs : s.size ≤ 1000) :
    Calls Tryz.prog 273 #[.pointer (some ⟨m, i, none⟩), .int .u8 (b.toNat : Int)] w fun e w' =>
      if 30 ≤ s.size then e = .returned (.int .i64 4) ∧ w' = w
      else e = .returned (.int .i64 0) ∧ Below (w.setCell ⟨m, i, none⟩ (.string (s ++ ⟨#[b]⟩))).heap.size (w.setCell ⟨m, i, none⟩ (.string (s ++ ⟨#[b]⟩))) w' := by
  have hC := Lib.hid (oadd_any w m i s b 30 hc hf hl hs (by decide))
  clear hc hf
  go_enter Tryz.func273, Tryz.ntmps273
  go_wp2_with fail
  refine hC.out.mono ?_
  rintro e w' hq
  by_cases h30 : 30 ≤ s.size
  · rw [if_pos h30] at hq
    obtain ⟨rfl, rfl⟩ := hq
    go_wp2
    go_ret
    exact ⟨rfl, rfl⟩
  · rw [if_neg h30] at hq
    obtain ⟨rfl, hb⟩ := hq
    have HB := Lib.hid hb
    clear hb
    go_wp2
    go_ret
    exact ⟨rfl, by first | exact HB.out | simpa using HB.out⟩
theorem nadd_any (w : World) (m i : Nat) (s : ByteArray) (b : UInt8) (hc : w.cell? ⟨m, i, none⟩ = some (.string s)) (hf : w.frozen? ⟨m, i, none⟩ = false) (hl : m < w.heap.size) (hs : s.size ≤ 1000) :
    Calls Tryz.prog 269 #[.pointer (some ⟨m, i, none⟩), .int .u8 (b.toNat : Int)] w fun e w' =>
      if 16 ≤ s.size then e = .returned (.int .i64 4) ∧ w' = w
      else e = .returned (.int .i64 0) ∧ Below (w.setCell ⟨m, i, none⟩ (.string (s ++ ⟨#[b]⟩))).heap.size (w.setCell ⟨m, i, none⟩ (.string (s ++ ⟨#[b]⟩))) w' := by
  have hC := Lib.hid (oadd_any w m i s b 16 hc hf hl hs (by decide))
  clear hc hf
  go_enter Tryz.func269, Tryz.ntmps269
  go_wp2_with fail
  refine hC.out.mono ?_
  rintro e w' hq
  by_cases h30 : 16 ≤ s.size
  · rw [if_pos h30] at hq
    obtain ⟨rfl, rfl⟩ := hq
    go_wp2
    go_ret
    exact ⟨rfl, rfl⟩
  · rw [if_neg h30] at hq
    obtain ⟨rfl, hb⟩ := hq
    have HB := Lib.hid hb
    clear hb
    go_wp2
    go_ret
    exact ⟨rfl, by first | exact HB.out | simpa using HB.out⟩

set_option maxHeartbeats 4000000 in
theorem tend_any (w : World) (m i : Nat) (s : ByteArray) (hc : w.cell? ⟨m, i, none⟩ = some (.string s)) (hf : w.frozen? ⟨m, i, none⟩ = false) (hl : m < w.heap.size) (hs : s.size ≤ 1000) (hw : Nm.StdW (w.setCell ⟨m, i, none⟩ (.string ⟨#[]⟩))) :
    Calls Tryz.prog 274 #[.pointer (some ⟨m, i, none⟩)] w fun e w' =>
      e = .returned (.tuple #[.string (endS s), .int .i64 (endC s)]) ∧ Below (w.setCell ⟨m, i, none⟩ (.string ⟨#[]⟩)).heap.size (w.setCell ⟨m, i, none⟩ (.string ⟨#[]⟩)) w' := by
  obtain ⟨W, hW⟩ : ∃ W, w.setCell ⟨m, i, none⟩ (.string ⟨#[]⟩) = W := ⟨_, rfl⟩
  have hMay := Nm.may_any s (w.setCell ⟨m, i, none⟩ (.string ⟨#[]⟩)) (by omega)
  have hRd := Nm.read_any s (w.setCell ⟨m, i, none⟩ (.string ⟨#[]⟩)) hw (by omega)
  clear hw
  have HR := Lib.hid (Below.refl (w.setCell ⟨m, i, none⟩ (.string ⟨#[]⟩)).heap.size (w.setCell ⟨m, i, none⟩ (.string ⟨#[]⟩)))
  unfold endS endC
  cases hi : Nm.isB s.data.toList with
  | false =>
    rw [if_neg (by decide), if_neg (by decide)]
    rw [hi] at hMay
    clear hi hRd
    have hTk := otake_any w m i s hc hf hl
    rw [hW] at hTk hMay HR ⊢
    have HTk := Lib.hid hTk
    clear hTk hc hf hW
    go_enter Tryz.func274, Tryz.ntmps274
    go_wp2_with fail
    refine HTk.out.mono ?_
    rintro e w1 ⟨rfl, rfl⟩
    go_wp2_with fail
    refine hMay.mono ?_
    rintro e w' ⟨rfl, rfl⟩
    go_wp2
    go_ret2
    exact ⟨rfl, HR.out⟩
  | true =>
    rw [if_pos rfl, if_pos rfl]
    rw [hi] at hMay
    generalize Nm.readC s.data.toList = c at *
    generalize Nm.readS s.data.toList = f at *
    clear hi
    have hTk := otake_any w m i s hc hf hl
    rw [hW] at hTk hMay hRd ⊢
    have HTk := Lib.hid hTk
    clear hTk hc hf hW
    go_enter Tryz.func274, Tryz.ntmps274
    go_wp2_with fail
    refine HTk.out.mono ?_
    rintro e w0 ⟨rfl, rfl⟩
    go_wp2_with fail
    refine hMay.mono ?_
    rintro e w' ⟨rfl, rfl⟩
    go_wp2_with fail
    refine hRd.mono ?_
    rintro e w1 ⟨rfl, hb1⟩
    go_wp2
    go_ret2
    exact ⟨rfl, hb1⟩
theorem nend_any (w : World) (m i : Nat) (s : ByteArray) (hc : w.cell? ⟨m, i, none⟩ = some (.string s)) (hf : w.frozen? ⟨m, i, none⟩ = false) (hl : m < w.heap.size) (hs : s.size ≤ 1000) :
    Calls Tryz.prog 270 #[.pointer (some ⟨m, i, none⟩)] w fun e w' => e = .returned (.tuple #[.string s, .int .i64 (if s.size = 0 then 2 else 0)]) ∧ w' = w.setCell ⟨m, i, none⟩ (.string ⟨#[]⟩) := by
  have HTk := Lib.hid (otake_any w m i s hc hf hl)
  clear hc hf
  by_cases h0 : s.size = 0
  · rw [if_pos h0]
    obtain rfl : s = ⟨#[]⟩ := ByteArray.ext (Array.eq_empty_of_size_eq_zero h0)
    clear h0
    go_enter Tryz.func270, Tryz.ntmps270
    go_wp2_with fail
    refine HTk.out.mono ?_
    rintro e w1 ⟨rfl, rfl⟩
    go_wp2
    go_ret2
    exact ⟨rfl, rfl⟩
  · rw [if_neg h0]
    have hne : ¬ s = ⟨#[]⟩ := fun e => h0 (by rw [e]; rfl)
    have z1 : s.toList.isEmpty = false := by
      rw [Bool.eq_false_iff]
      intro e
      have h5 := congrArg List.length (List.isEmpty_iff.1 e)
      rw [Lib.toList_data, Array.length_toList] at h5
      exact h0 h5
    clear h0 hne
    go_enter Tryz.func270, Tryz.ntmps270
    go_wp2_with fail
    refine HTk.out.mono ?_
    rintro e w1 ⟨rfl, rfl⟩
    go_wp2
    go_ret2
    exact ⟨rfl, rfl⟩
end Go.Proofs.YtalkjgijmceifaaGreatDoor

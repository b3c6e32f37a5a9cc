/-
  angle: Step, by the place of the next byte: what it hands its byte to.
-/
import Derived.Test.YtjepnddndpmnnaaGreatDoorGwA32
namespace Go.Proofs.YtjepnddndpmnnaaGreatDoor
open Go.RowKit Go.Maps
set_option maxRecDepth 100000
set_option linter.unusedSimpArgs false
set_option linter.unusedVariables false
set_option linter.unusedSectionVars false
set_option linter.unusedSectionVars false
variable [Tab] [Fo]

set_option maxHeartbeats 2000000 in
theorem askips_any (a : Int) (w : World) : Calls Tryz.prog 135 #[.int .i64 a] w fun E w' => E = .returned (.bool (skipsA a)) ∧ w' = w := by
  unfold skipsA
  by_cases h0 : a = 0
  · subst h0
    rw [decide_eq_true (by decide)]
    go_enter Tryz.func135, Tryz.ntmps135
    go_wp2
    go_ret
    exact ⟨rfl, rfl⟩
  have z0 : (a == 0) = false := by rw [beq_eq_false_iff_ne]; exact h0
  by_cases h6 : a = 6
  · subst h6
    rw [decide_eq_true (by decide)]
    go_enter Tryz.func135, Tryz.ntmps135
    go_wp2
    go_ret
    exact ⟨rfl, rfl⟩
  have z6 : (a == 6) = false := by rw [beq_eq_false_iff_ne]; exact h6
  by_cases h9 : a = 9
  · subst h9
    rw [decide_eq_true (by decide)]
    go_enter Tryz.func135, Tryz.ntmps135
    go_wp2
    go_ret
    exact ⟨rfl, rfl⟩
  have z9 : (a == 9) = false := by rw [beq_eq_false_iff_ne]; exact h9
  by_cases h17 : a = 17
  · subst h17
    rw [decide_eq_true (by decide)]
    go_enter Tryz.func135, Tryz.ntmps135
    go_wp2
    go_ret
    exact ⟨rfl, rfl⟩
  have z17 : (a == 17) = false := by rw [beq_eq_false_iff_ne]; exact h17
  by_cases h18 : a = 18
  · subst h18
    rw [decide_eq_true (by decide)]
    go_enter Tryz.func135, Tryz.ntmps135
    go_wp2
    go_ret
    exact ⟨rfl, rfl⟩
  have z18 : (a == 18) = false := by rw [beq_eq_false_iff_ne]; exact h18
  rw [decide_eq_false (by omega)]
  go_enter Tryz.func135, Tryz.ntmps135
  go_wp2
  go_ret
  exact ⟨rfl, rfl⟩

section
variable {w w' : World} {base m o ck e mb g : Nat} {s : As} {M M' : Ag} {av ov : Value}

set_option maxHeartbeats 2000000 in
theorem astep_0 (b : UInt8) (h : AX w base m o ck e mb g s) (ha : s.m.a = 0) (hns : blankB b = false) (R : Ar) (HC : Calls Tryz.prog 136 #[.pointer (some ⟨m, 0, none⟩), .int .u8 (b.toNat : Int), .int .u8 60, .int .i64 1] w (APo w base m o ck e mb g R)) :
    Calls Tryz.prog 132 #[.pointer (some ⟨m, 0, none⟩), .int .u8 (b.toNat : Int), .pointer (some ⟨o, 0, none⟩)] w (APo w base m o ck e mb g R) := by
  have c0 := h.at0
  rw [ha] at c0
  have hlt := h.lt
  have hBl := tblank_any b
  have hSk := Lib.hid (askips_any 0)
  have HC := Lib.hid HC
  clear h ha
  rw [hns] at hBl
  have HB := Lib.hid hBl
  clear hBl hns
  go_enter Tryz.func132, Tryz.ntmps132
  go_wp2_with fail
  refine (HB.out _).mono ?_
  rintro E w ⟨rfl, rfl⟩
  go_wp2_with fail
  refine HC.out.mono ?_
  intro E w3 hq
  have HF := Lib.hid hq
  have hE := hq.1
  clear hq
  subst hE
  go_wp2
  go_ret
  exact HF.out

set_option maxHeartbeats 2000000 in
theorem astep_1 (b : UInt8) (h : AX w base m o ck e mb g s) (ha : s.m.a = 1)  (R : Ar) (HC : Calls Tryz.prog 137 #[.pointer (some ⟨m, 0, none⟩), .int .u8 (b.toNat : Int), .pointer (some ⟨o, 0, none⟩)] w (APo w base m o ck e mb g R)) :
    Calls Tryz.prog 132 #[.pointer (some ⟨m, 0, none⟩), .int .u8 (b.toNat : Int), .pointer (some ⟨o, 0, none⟩)] w (APo w base m o ck e mb g R) := by
  have c0 := h.at0
  rw [ha] at c0
  have hlt := h.lt
  have hBl := tblank_any b
  have hSk := Lib.hid (askips_any 1)
  have HC := Lib.hid HC
  clear h ha
  cases hb : blankB b with
  | false =>
    rw [hb] at hBl
    have HB := Lib.hid hBl
    clear hBl hb
    go_enter Tryz.func132, Tryz.ntmps132
    go_wp2_with fail
    refine (HB.out _).mono ?_
    rintro E w ⟨rfl, rfl⟩
    go_wp2_with fail
    refine HC.out.mono ?_
    intro E w3 hq
    have HF := Lib.hid hq
    have hE := hq.1
    clear hq
    subst hE
    go_wp2
    go_ret
    exact HF.out
  | true =>
    rw [hb] at hBl
    have HB := Lib.hid hBl
    clear hBl hb
    go_enter Tryz.func132, Tryz.ntmps132
    go_wp2_with fail
    refine (HB.out _).mono ?_
    rintro E w ⟨rfl, rfl⟩
    go_wp2_with fail
    refine (hSk.out _).mono ?_
    rintro E w ⟨rfl, rfl⟩
    rw [show skipsA 1 = false from rfl]
    go_wp2_with fail
    refine HC.out.mono ?_
    intro E w3 hq
    have HF := Lib.hid hq
    have hE := hq.1
    clear hq
    subst hE
    go_wp2
    go_ret
    exact HF.out

set_option maxHeartbeats 2000000 in
theorem astep_2 (b : UInt8) (h : AX w base m o ck e mb g s) (ha : s.m.a = 2)  (R : Ar) (HC : Calls Tryz.prog 138 #[.pointer (some ⟨m, 0, none⟩), .int .u8 (b.toNat : Int)] w (APo w base m o ck e mb g R)) :
    Calls Tryz.prog 132 #[.pointer (some ⟨m, 0, none⟩), .int .u8 (b.toNat : Int), .pointer (some ⟨o, 0, none⟩)] w (APo w base m o ck e mb g R) := by
  have c0 := h.at0
  rw [ha] at c0
  have hlt := h.lt
  have hBl := tblank_any b
  have hSk := Lib.hid (askips_any 2)
  have HC := Lib.hid HC
  clear h ha
  cases hb : blankB b with
  | false =>
    rw [hb] at hBl
    have HB := Lib.hid hBl
    clear hBl hb
    go_enter Tryz.func132, Tryz.ntmps132
    go_wp2_with fail
    refine (HB.out _).mono ?_
    rintro E w ⟨rfl, rfl⟩
    go_wp2_with fail
    refine HC.out.mono ?_
    intro E w3 hq
    have HF := Lib.hid hq
    have hE := hq.1
    clear hq
    subst hE
    go_wp2
    go_ret
    exact HF.out
  | true =>
    rw [hb] at hBl
    have HB := Lib.hid hBl
    clear hBl hb
    go_enter Tryz.func132, Tryz.ntmps132
    go_wp2_with fail
    refine (HB.out _).mono ?_
    rintro E w ⟨rfl, rfl⟩
    go_wp2_with fail
    refine (hSk.out _).mono ?_
    rintro E w ⟨rfl, rfl⟩
    rw [show skipsA 2 = false from rfl]
    go_wp2_with fail
    refine HC.out.mono ?_
    intro E w3 hq
    have HF := Lib.hid hq
    have hE := hq.1
    clear hq
    subst hE
    go_wp2
    go_ret
    exact HF.out

set_option maxHeartbeats 2000000 in
theorem astep_3 (b : UInt8) (h : AX w base m o ck e mb g s) (ha : s.m.a = 3)  (R : Ar) (HC : Calls Tryz.prog 139 #[.pointer (some ⟨m, 0, none⟩), .int .u8 (b.toNat : Int)] w (APo w base m o ck e mb g R)) :
    Calls Tryz.prog 132 #[.pointer (some ⟨m, 0, none⟩), .int .u8 (b.toNat : Int), .pointer (some ⟨o, 0, none⟩)] w (APo w base m o ck e mb g R) := by
  have c0 := h.at0
  rw [ha] at c0
  have hlt := h.lt
  have hBl := tblank_any b
  have hSk := Lib.hid (askips_any 3)
  have HC := Lib.hid HC
  clear h ha
  cases hb : blankB b with
  | false =>
    rw [hb] at hBl
    have HB := Lib.hid hBl
    clear hBl hb
    go_enter Tryz.func132, Tryz.ntmps132
    go_wp2_with fail
    refine (HB.out _).mono ?_
    rintro E w ⟨rfl, rfl⟩
    go_wp2_with fail
    refine HC.out.mono ?_
    intro E w3 hq
    have HF := Lib.hid hq
    have hE := hq.1
    clear hq
    subst hE
    go_wp2
    go_ret
    exact HF.out
  | true =>
    rw [hb] at hBl
    have HB := Lib.hid hBl
    clear hBl hb
    go_enter Tryz.func132, Tryz.ntmps132
    go_wp2_with fail
    refine (HB.out _).mono ?_
    rintro E w ⟨rfl, rfl⟩
    go_wp2_with fail
    refine (hSk.out _).mono ?_
    rintro E w ⟨rfl, rfl⟩
    rw [show skipsA 3 = false from rfl]
    go_wp2_with fail
    refine HC.out.mono ?_
    intro E w3 hq
    have HF := Lib.hid hq
    have hE := hq.1
    clear hq
    subst hE
    go_wp2
    go_ret
    exact HF.out

set_option maxHeartbeats 2000000 in
theorem astep_4 (b : UInt8) (h : AX w base m o ck e mb g s) (ha : s.m.a = 4)  (R : Ar) (HC : Calls Tryz.prog 136 #[.pointer (some ⟨m, 0, none⟩), .int .u8 (b.toNat : Int), .int .u8 34, .int .i64 5] w (APo w base m o ck e mb g R)) :
    Calls Tryz.prog 132 #[.pointer (some ⟨m, 0, none⟩), .int .u8 (b.toNat : Int), .pointer (some ⟨o, 0, none⟩)] w (APo w base m o ck e mb g R) := by
  have c0 := h.at0
  rw [ha] at c0
  have hlt := h.lt
  have hBl := tblank_any b
  have hSk := Lib.hid (askips_any 4)
  have HC := Lib.hid HC
  clear h ha
  cases hb : blankB b with
  | false =>
    rw [hb] at hBl
    have HB := Lib.hid hBl
    clear hBl hb
    go_enter Tryz.func132, Tryz.ntmps132
    go_wp2_with fail
    refine (HB.out _).mono ?_
    rintro E w ⟨rfl, rfl⟩
    go_wp2_with fail
    refine HC.out.mono ?_
    intro E w3 hq
    have HF := Lib.hid hq
    have hE := hq.1
    clear hq
    subst hE
    go_wp2
    go_ret
    exact HF.out
  | true =>
    rw [hb] at hBl
    have HB := Lib.hid hBl
    clear hBl hb
    go_enter Tryz.func132, Tryz.ntmps132
    go_wp2_with fail
    refine (HB.out _).mono ?_
    rintro E w ⟨rfl, rfl⟩
    go_wp2_with fail
    refine (hSk.out _).mono ?_
    rintro E w ⟨rfl, rfl⟩
    rw [show skipsA 4 = false from rfl]
    go_wp2_with fail
    refine HC.out.mono ?_
    intro E w3 hq
    have HF := Lib.hid hq
    have hE := hq.1
    clear hq
    subst hE
    go_wp2
    go_ret
    exact HF.out

set_option maxHeartbeats 2000000 in
theorem astep_5 (b : UInt8) (h : AX w base m o ck e mb g s) (ha : s.m.a = 5)  (R : Ar) (HC : Calls Tryz.prog 140 #[.pointer (some ⟨m, 0, none⟩), .int .u8 (b.toNat : Int)] w (APo w base m o ck e mb g R)) :
    Calls Tryz.prog 132 #[.pointer (some ⟨m, 0, none⟩), .int .u8 (b.toNat : Int), .pointer (some ⟨o, 0, none⟩)] w (APo w base m o ck e mb g R) := by
  have c0 := h.at0
  rw [ha] at c0
  have hlt := h.lt
  have hBl := tblank_any b
  have hSk := Lib.hid (askips_any 5)
  have HC := Lib.hid HC
  clear h ha
  cases hb : blankB b with
  | false =>
    rw [hb] at hBl
    have HB := Lib.hid hBl
    clear hBl hb
    go_enter Tryz.func132, Tryz.ntmps132
    go_wp2_with fail
    refine (HB.out _).mono ?_
    rintro E w ⟨rfl, rfl⟩
    go_wp2_with fail
    refine HC.out.mono ?_
    intro E w3 hq
    have HF := Lib.hid hq
    have hE := hq.1
    clear hq
    subst hE
    go_wp2
    go_ret
    exact HF.out
  | true =>
    rw [hb] at hBl
    have HB := Lib.hid hBl
    clear hBl hb
    go_enter Tryz.func132, Tryz.ntmps132
    go_wp2_with fail
    refine (HB.out _).mono ?_
    rintro E w ⟨rfl, rfl⟩
    go_wp2_with fail
    refine (hSk.out _).mono ?_
    rintro E w ⟨rfl, rfl⟩
    rw [show skipsA 5 = false from rfl]
    go_wp2_with fail
    refine HC.out.mono ?_
    intro E w3 hq
    have HF := Lib.hid hq
    have hE := hq.1
    clear hq
    subst hE
    go_wp2
    go_ret
    exact HF.out

set_option maxHeartbeats 2000000 in
theorem astep_6 (b : UInt8) (h : AX w base m o ck e mb g s) (ha : s.m.a = 6) (hns : blankB b = false) (R : Ar) (HC : Calls Tryz.prog 141 #[.pointer (some ⟨m, 0, none⟩), .int .u8 (b.toNat : Int)] w (APo w base m o ck e mb g R)) :
    Calls Tryz.prog 132 #[.pointer (some ⟨m, 0, none⟩), .int .u8 (b.toNat : Int), .pointer (some ⟨o, 0, none⟩)] w (APo w base m o ck e mb g R) := by
  have c0 := h.at0
  rw [ha] at c0
  have hlt := h.lt
  have hBl := tblank_any b
  have hSk := Lib.hid (askips_any 6)
  have HC := Lib.hid HC
  clear h ha
  rw [hns] at hBl
  have HB := Lib.hid hBl
  clear hBl hns
  go_enter Tryz.func132, Tryz.ntmps132
  go_wp2_with fail
  refine (HB.out _).mono ?_
  rintro E w ⟨rfl, rfl⟩
  go_wp2_with fail
  refine HC.out.mono ?_
  intro E w3 hq
  have HF := Lib.hid hq
  have hE := hq.1
  clear hq
  subst hE
  go_wp2
  go_ret
  exact HF.out

set_option maxHeartbeats 2000000 in
theorem astep_7 (b : UInt8) (h : AX w base m o ck e mb g s) (ha : s.m.a = 7)  (R : Ar) (HC : Calls Tryz.prog 142 #[.pointer (some ⟨m, 0, none⟩), .int .u8 (b.toNat : Int), .pointer (some ⟨m, 11, none⟩), .int .i64 8, .pointer (some ⟨o, 0, none⟩)] w (APo w base m o ck e mb g R)) :
    Calls Tryz.prog 132 #[.pointer (some ⟨m, 0, none⟩), .int .u8 (b.toNat : Int), .pointer (some ⟨o, 0, none⟩)] w (APo w base m o ck e mb g R) := by
  have c0 := h.at0
  rw [ha] at c0
  have hlt := h.lt
  have hBl := tblank_any b
  have hSk := Lib.hid (askips_any 7)
  have HC := Lib.hid HC
  clear h ha
  cases hb : blankB b with
  | false =>
    rw [hb] at hBl
    have HB := Lib.hid hBl
    clear hBl hb
    go_enter Tryz.func132, Tryz.ntmps132
    go_wp2_with fail
    refine (HB.out _).mono ?_
    rintro E w ⟨rfl, rfl⟩
    go_wp2_with fail
    refine HC.out.mono ?_
    intro E w3 hq
    have HF := Lib.hid hq
    have hE := hq.1
    clear hq
    subst hE
    go_wp2
    go_ret
    exact HF.out
  | true =>
    rw [hb] at hBl
    have HB := Lib.hid hBl
    clear hBl hb
    go_enter Tryz.func132, Tryz.ntmps132
    go_wp2_with fail
    refine (HB.out _).mono ?_
    rintro E w ⟨rfl, rfl⟩
    go_wp2_with fail
    refine (hSk.out _).mono ?_
    rintro E w ⟨rfl, rfl⟩
    rw [show skipsA 7 = false from rfl]
    go_wp2_with fail
    refine HC.out.mono ?_
    intro E w3 hq
    have HF := Lib.hid hq
    have hE := hq.1
    clear hq
    subst hE
    go_wp2
    go_ret
    exact HF.out

set_option maxHeartbeats 2000000 in
theorem astep_8 (b : UInt8) (h : AX w base m o ck e mb g s) (ha : s.m.a = 8)  (R : Ar) (HC : Calls Tryz.prog 143 #[.pointer (some ⟨m, 0, none⟩), .int .u8 (b.toNat : Int), .pointer (some ⟨o, 0, none⟩)] w (APo w base m o ck e mb g R)) :
    Calls Tryz.prog 132 #[.pointer (some ⟨m, 0, none⟩), .int .u8 (b.toNat : Int), .pointer (some ⟨o, 0, none⟩)] w (APo w base m o ck e mb g R) := by
  have c0 := h.at0
  rw [ha] at c0
  have hlt := h.lt
  have hBl := tblank_any b
  have hSk := Lib.hid (askips_any 8)
  have HC := Lib.hid HC
  clear h ha
  cases hb : blankB b with
  | false =>
    rw [hb] at hBl
    have HB := Lib.hid hBl
    clear hBl hb
    go_enter Tryz.func132, Tryz.ntmps132
    go_wp2_with fail
    refine (HB.out _).mono ?_
    rintro E w ⟨rfl, rfl⟩
    go_wp2_with fail
    refine HC.out.mono ?_
    intro E w3 hq
    have HF := Lib.hid hq
    have hE := hq.1
    clear hq
    subst hE
    go_wp2
    go_ret
    exact HF.out
  | true =>
    rw [hb] at hBl
    have HB := Lib.hid hBl
    clear hBl hb
    go_enter Tryz.func132, Tryz.ntmps132
    go_wp2_with fail
    refine (HB.out _).mono ?_
    rintro E w ⟨rfl, rfl⟩
    go_wp2_with fail
    refine (hSk.out _).mono ?_
    rintro E w ⟨rfl, rfl⟩
    rw [show skipsA 8 = false from rfl]
    go_wp2_with fail
    refine HC.out.mono ?_
    intro E w3 hq
    have HF := Lib.hid hq
    have hE := hq.1
    clear hq
    subst hE
    go_wp2
    go_ret
    exact HF.out

set_option maxHeartbeats 2000000 in
theorem astep_9 (b : UInt8) (h : AX w base m o ck e mb g s) (ha : s.m.a = 9) (hns : blankB b = false) (R : Ar) (HC : Calls Tryz.prog 144 #[.pointer (some ⟨m, 0, none⟩), .int .u8 (b.toNat : Int), .pointer (some ⟨o, 0, none⟩)] w (APo w base m o ck e mb g R)) :
    Calls Tryz.prog 132 #[.pointer (some ⟨m, 0, none⟩), .int .u8 (b.toNat : Int), .pointer (some ⟨o, 0, none⟩)] w (APo w base m o ck e mb g R) := by
  have c0 := h.at0
  rw [ha] at c0
  have hlt := h.lt
  have hBl := tblank_any b
  have hSk := Lib.hid (askips_any 9)
  have HC := Lib.hid HC
  clear h ha
  rw [hns] at hBl
  have HB := Lib.hid hBl
  clear hBl hns
  go_enter Tryz.func132, Tryz.ntmps132
  go_wp2_with fail
  refine (HB.out _).mono ?_
  rintro E w ⟨rfl, rfl⟩
  go_wp2_with fail
  refine HC.out.mono ?_
  intro E w3 hq
  have HF := Lib.hid hq
  have hE := hq.1
  clear hq
  subst hE
  go_wp2
  go_ret
  exact HF.out

set_option maxHeartbeats 2000000 in
theorem astep_10 (b : UInt8) (h : AX w base m o ck e mb g s) (ha : s.m.a = 10)  (R : Ar) (HC : Calls Tryz.prog 142 #[.pointer (some ⟨m, 0, none⟩), .int .u8 (b.toNat : Int), .pointer (some ⟨m, 13, none⟩), .int .i64 11, .pointer (some ⟨o, 0, none⟩)] w (APo w base m o ck e mb g R)) :
    Calls Tryz.prog 132 #[.pointer (some ⟨m, 0, none⟩), .int .u8 (b.toNat : Int), .pointer (some ⟨o, 0, none⟩)] w (APo w base m o ck e mb g R) := by
  have c0 := h.at0
  rw [ha] at c0
  have hlt := h.lt
  have hBl := tblank_any b
  have hSk := Lib.hid (askips_any 10)
  have HC := Lib.hid HC
  clear h ha
  cases hb : blankB b with
  | false =>
    rw [hb] at hBl
    have HB := Lib.hid hBl
    clear hBl hb
    go_enter Tryz.func132, Tryz.ntmps132
    go_wp2_with fail
    refine (HB.out _).mono ?_
    rintro E w ⟨rfl, rfl⟩
    go_wp2_with fail
    refine HC.out.mono ?_
    intro E w3 hq
    have HF := Lib.hid hq
    have hE := hq.1
    clear hq
    subst hE
    go_wp2
    go_ret
    exact HF.out
  | true =>
    rw [hb] at hBl
    have HB := Lib.hid hBl
    clear hBl hb
    go_enter Tryz.func132, Tryz.ntmps132
    go_wp2_with fail
    refine (HB.out _).mono ?_
    rintro E w ⟨rfl, rfl⟩
    go_wp2_with fail
    refine (hSk.out _).mono ?_
    rintro E w ⟨rfl, rfl⟩
    rw [show skipsA 10 = false from rfl]
    go_wp2_with fail
    refine HC.out.mono ?_
    intro E w3 hq
    have HF := Lib.hid hq
    have hE := hq.1
    clear hq
    subst hE
    go_wp2
    go_ret
    exact HF.out

set_option maxHeartbeats 2000000 in
theorem astep_11 (b : UInt8) (h : AX w base m o ck e mb g s) (ha : s.m.a = 11)  (R : Ar) (HC : Calls Tryz.prog 145 #[.pointer (some ⟨m, 0, none⟩), .int .u8 (b.toNat : Int)] w (APo w base m o ck e mb g R)) :
    Calls Tryz.prog 132 #[.pointer (some ⟨m, 0, none⟩), .int .u8 (b.toNat : Int), .pointer (some ⟨o, 0, none⟩)] w (APo w base m o ck e mb g R) := by
  have c0 := h.at0
  rw [ha] at c0
  have hlt := h.lt
  have hBl := tblank_any b
  have hSk := Lib.hid (askips_any 11)
  have HC := Lib.hid HC
  clear h ha
  cases hb : blankB b with
  | false =>
    rw [hb] at hBl
    have HB := Lib.hid hBl
    clear hBl hb
    go_enter Tryz.func132, Tryz.ntmps132
    go_wp2_with fail
    refine (HB.out _).mono ?_
    rintro E w ⟨rfl, rfl⟩
    go_wp2_with fail
    refine HC.out.mono ?_
    intro E w3 hq
    have HF := Lib.hid hq
    have hE := hq.1
    clear hq
    subst hE
    go_wp2
    go_ret
    exact HF.out
  | true =>
    rw [hb] at hBl
    have HB := Lib.hid hBl
    clear hBl hb
    go_enter Tryz.func132, Tryz.ntmps132
    go_wp2_with fail
    refine (HB.out _).mono ?_
    rintro E w ⟨rfl, rfl⟩
    go_wp2_with fail
    refine (hSk.out _).mono ?_
    rintro E w ⟨rfl, rfl⟩
    rw [show skipsA 11 = false from rfl]
    go_wp2_with fail
    refine HC.out.mono ?_
    intro E w3 hq
    have HF := Lib.hid hq
    have hE := hq.1
    clear hq
    subst hE
    go_wp2
    go_ret
    exact HF.out

set_option maxHeartbeats 2000000 in
theorem astep_12 (b : UInt8) (h : AX w base m o ck e mb g s) (ha : s.m.a = 12)  (R : Ar) (HC : Calls Tryz.prog 136 #[.pointer (some ⟨m, 0, none⟩), .int .u8 (b.toNat : Int), .int .u8 34, .int .i64 13] w (APo w base m o ck e mb g R)) :
    Calls Tryz.prog 132 #[.pointer (some ⟨m, 0, none⟩), .int .u8 (b.toNat : Int), .pointer (some ⟨o, 0, none⟩)] w (APo w base m o ck e mb g R) := by
  have c0 := h.at0
  rw [ha] at c0
  have hlt := h.lt
  have hBl := tblank_any b
  have hSk := Lib.hid (askips_any 12)
  have HC := Lib.hid HC
  clear h ha
  cases hb : blankB b with
  | false =>
    rw [hb] at hBl
    have HB := Lib.hid hBl
    clear hBl hb
    go_enter Tryz.func132, Tryz.ntmps132
    go_wp2_with fail
    refine (HB.out _).mono ?_
    rintro E w ⟨rfl, rfl⟩
    go_wp2_with fail
    refine HC.out.mono ?_
    intro E w3 hq
    have HF := Lib.hid hq
    have hE := hq.1
    clear hq
    subst hE
    go_wp2
    go_ret
    exact HF.out
  | true =>
    rw [hb] at hBl
    have HB := Lib.hid hBl
    clear hBl hb
    go_enter Tryz.func132, Tryz.ntmps132
    go_wp2_with fail
    refine (HB.out _).mono ?_
    rintro E w ⟨rfl, rfl⟩
    go_wp2_with fail
    refine (hSk.out _).mono ?_
    rintro E w ⟨rfl, rfl⟩
    rw [show skipsA 12 = false from rfl]
    go_wp2_with fail
    refine HC.out.mono ?_
    intro E w3 hq
    have HF := Lib.hid hq
    have hE := hq.1
    clear hq
    subst hE
    go_wp2
    go_ret
    exact HF.out

set_option maxHeartbeats 2000000 in
theorem astep_13 (b : UInt8) (h : AX w base m o ck e mb g s) (ha : s.m.a = 13)  (R : Ar) (HC : Calls Tryz.prog 146 #[.pointer (some ⟨m, 0, none⟩), .int .u8 (b.toNat : Int)] w (APo w base m o ck e mb g R)) :
    Calls Tryz.prog 132 #[.pointer (some ⟨m, 0, none⟩), .int .u8 (b.toNat : Int), .pointer (some ⟨o, 0, none⟩)] w (APo w base m o ck e mb g R) := by
  have c0 := h.at0
  rw [ha] at c0
  have hlt := h.lt
  have hBl := tblank_any b
  have hSk := Lib.hid (askips_any 13)
  have HC := Lib.hid HC
  clear h ha
  cases hb : blankB b with
  | false =>
    rw [hb] at hBl
    have HB := Lib.hid hBl
    clear hBl hb
    go_enter Tryz.func132, Tryz.ntmps132
    go_wp2_with fail
    refine (HB.out _).mono ?_
    rintro E w ⟨rfl, rfl⟩
    go_wp2_with fail
    refine HC.out.mono ?_
    intro E w3 hq
    have HF := Lib.hid hq
    have hE := hq.1
    clear hq
    subst hE
    go_wp2
    go_ret
    exact HF.out
  | true =>
    rw [hb] at hBl
    have HB := Lib.hid hBl
    clear hBl hb
    go_enter Tryz.func132, Tryz.ntmps132
    go_wp2_with fail
    refine (HB.out _).mono ?_
    rintro E w ⟨rfl, rfl⟩
    go_wp2_with fail
    refine (hSk.out _).mono ?_
    rintro E w ⟨rfl, rfl⟩
    rw [show skipsA 13 = false from rfl]
    go_wp2_with fail
    refine HC.out.mono ?_
    intro E w3 hq
    have HF := Lib.hid hq
    have hE := hq.1
    clear hq
    subst hE
    go_wp2
    go_ret
    exact HF.out

set_option maxHeartbeats 2000000 in
theorem astep_14 (b : UInt8) (h : AX w base m o ck e mb g s) (ha : s.m.a = 14)  (R : Ar) (HC : Calls Tryz.prog 147 #[.pointer (some ⟨m, 0, none⟩), .int .u8 (b.toNat : Int), .pointer (some ⟨o, 0, none⟩)] w (APo w base m o ck e mb g R)) :
    Calls Tryz.prog 132 #[.pointer (some ⟨m, 0, none⟩), .int .u8 (b.toNat : Int), .pointer (some ⟨o, 0, none⟩)] w (APo w base m o ck e mb g R) := by
  have c0 := h.at0
  rw [ha] at c0
  have hlt := h.lt
  have hBl := tblank_any b
  have hSk := Lib.hid (askips_any 14)
  have HC := Lib.hid HC
  clear h ha
  cases hb : blankB b with
  | false =>
    rw [hb] at hBl
    have HB := Lib.hid hBl
    clear hBl hb
    go_enter Tryz.func132, Tryz.ntmps132
    go_wp2_with fail
    refine (HB.out _).mono ?_
    rintro E w ⟨rfl, rfl⟩
    go_wp2_with fail
    refine HC.out.mono ?_
    intro E w3 hq
    have HF := Lib.hid hq
    have hE := hq.1
    clear hq
    subst hE
    go_wp2
    go_ret
    exact HF.out
  | true =>
    rw [hb] at hBl
    have HB := Lib.hid hBl
    clear hBl hb
    go_enter Tryz.func132, Tryz.ntmps132
    go_wp2_with fail
    refine (HB.out _).mono ?_
    rintro E w ⟨rfl, rfl⟩
    go_wp2_with fail
    refine (hSk.out _).mono ?_
    rintro E w ⟨rfl, rfl⟩
    rw [show skipsA 14 = false from rfl]
    go_wp2_with fail
    refine HC.out.mono ?_
    intro E w3 hq
    have HF := Lib.hid hq
    have hE := hq.1
    clear hq
    subst hE
    go_wp2
    go_ret
    exact HF.out

set_option maxHeartbeats 2000000 in
theorem astep_15 (b : UInt8) (h : AX w base m o ck e mb g s) (ha : s.m.a = 15)  (R : Ar) (HC : Calls Tryz.prog 148 #[.pointer (some ⟨m, 0, none⟩), .int .u8 (b.toNat : Int), .pointer (some ⟨o, 0, none⟩)] w (APo w base m o ck e mb g R)) :
    Calls Tryz.prog 132 #[.pointer (some ⟨m, 0, none⟩), .int .u8 (b.toNat : Int), .pointer (some ⟨o, 0, none⟩)] w (APo w base m o ck e mb g R) := by
  have c0 := h.at0
  rw [ha] at c0
  have hlt := h.lt
  have hBl := tblank_any b
  have hSk := Lib.hid (askips_any 15)
  have HC := Lib.hid HC
  clear h ha
  cases hb : blankB b with
  | false =>
    rw [hb] at hBl
    have HB := Lib.hid hBl
    clear hBl hb
    go_enter Tryz.func132, Tryz.ntmps132
    go_wp2_with fail
    refine (HB.out _).mono ?_
    rintro E w ⟨rfl, rfl⟩
    go_wp2_with fail
    refine HC.out.mono ?_
    intro E w3 hq
    have HF := Lib.hid hq
    have hE := hq.1
    clear hq
    subst hE
    go_wp2
    go_ret
    exact HF.out
  | true =>
    rw [hb] at hBl
    have HB := Lib.hid hBl
    clear hBl hb
    go_enter Tryz.func132, Tryz.ntmps132
    go_wp2_with fail
    refine (HB.out _).mono ?_
    rintro E w ⟨rfl, rfl⟩
    go_wp2_with fail
    refine (hSk.out _).mono ?_
    rintro E w ⟨rfl, rfl⟩
    rw [show skipsA 15 = false from rfl]
    go_wp2_with fail
    refine HC.out.mono ?_
    intro E w3 hq
    have HF := Lib.hid hq
    have hE := hq.1
    clear hq
    subst hE
    go_wp2
    go_ret
    exact HF.out

set_option maxHeartbeats 2000000 in
theorem astep_16 (b : UInt8) (h : AX w base m o ck e mb g s) (ha : s.m.a = 16)  (R : Ar) (HC : Calls Tryz.prog 142 #[.pointer (some ⟨m, 0, none⟩), .int .u8 (b.toNat : Int), .pointer (some ⟨m, 16, none⟩), .int .i64 17, .pointer (some ⟨o, 0, none⟩)] w (APo w base m o ck e mb g R)) :
    Calls Tryz.prog 132 #[.pointer (some ⟨m, 0, none⟩), .int .u8 (b.toNat : Int), .pointer (some ⟨o, 0, none⟩)] w (APo w base m o ck e mb g R) := by
  have c0 := h.at0
  rw [ha] at c0
  have hlt := h.lt
  have hBl := tblank_any b
  have hSk := Lib.hid (askips_any 16)
  have HC := Lib.hid HC
  clear h ha
  cases hb : blankB b with
  | false =>
    rw [hb] at hBl
    have HB := Lib.hid hBl
    clear hBl hb
    go_enter Tryz.func132, Tryz.ntmps132
    go_wp2_with fail
    refine (HB.out _).mono ?_
    rintro E w ⟨rfl, rfl⟩
    go_wp2_with fail
    refine HC.out.mono ?_
    intro E w3 hq
    have HF := Lib.hid hq
    have hE := hq.1
    clear hq
    subst hE
    go_wp2
    go_ret
    exact HF.out
  | true =>
    rw [hb] at hBl
    have HB := Lib.hid hBl
    clear hBl hb
    go_enter Tryz.func132, Tryz.ntmps132
    go_wp2_with fail
    refine (HB.out _).mono ?_
    rintro E w ⟨rfl, rfl⟩
    go_wp2_with fail
    refine (hSk.out _).mono ?_
    rintro E w ⟨rfl, rfl⟩
    rw [show skipsA 16 = false from rfl]
    go_wp2_with fail
    refine HC.out.mono ?_
    intro E w3 hq
    have HF := Lib.hid hq
    have hE := hq.1
    clear hq
    subst hE
    go_wp2
    go_ret
    exact HF.out

set_option maxHeartbeats 2000000 in
theorem astep_17 (b : UInt8) (h : AX w base m o ck e mb g s) (ha : s.m.a = 17) (hns : blankB b = false) (R : Ar) (HC : Calls Tryz.prog 149 #[.pointer (some ⟨m, 0, none⟩), .int .u8 (b.toNat : Int), .pointer (some ⟨o, 0, none⟩)] w (APo w base m o ck e mb g R)) :
    Calls Tryz.prog 132 #[.pointer (some ⟨m, 0, none⟩), .int .u8 (b.toNat : Int), .pointer (some ⟨o, 0, none⟩)] w (APo w base m o ck e mb g R) := by
  have c0 := h.at0
  rw [ha] at c0
  have hlt := h.lt
  have hBl := tblank_any b
  have hSk := Lib.hid (askips_any 17)
  have HC := Lib.hid HC
  clear h ha
  rw [hns] at hBl
  have HB := Lib.hid hBl
  clear hBl hns
  go_enter Tryz.func132, Tryz.ntmps132
  go_wp2_with fail
  refine (HB.out _).mono ?_
  rintro E w ⟨rfl, rfl⟩
  go_wp2_with fail
  refine HC.out.mono ?_
  intro E w3 hq
  have HF := Lib.hid hq
  have hE := hq.1
  clear hq
  subst hE
  go_wp2
  go_ret
  exact HF.out

set_option maxHeartbeats 2000000 in
theorem astep_18 (b : UInt8) (h : AX w base m o ck e mb g s) (ha : s.m.a = 18) (hns : blankB b = false)  :
    Calls Tryz.prog 132 #[.pointer (some ⟨m, 0, none⟩), .int .u8 (b.toNat : Int), .pointer (some ⟨o, 0, none⟩)] w (APo w base m o ck e mb g ⟨s, 2⟩) := by
  have c0 := h.at0
  rw [ha] at c0
  have hlt := h.lt
  have hBl := tblank_any b
  have hSk := Lib.hid (askips_any 18)
  have HF := Lib.hid (APo.of h (Tch.refl _ _ _) 2)
  clear h ha
  rw [hns] at hBl
  have HB := Lib.hid hBl
  clear hBl hns
  go_enter Tryz.func132, Tryz.ntmps132
  go_wp2_with fail
  refine (HB.out _).mono ?_
  rintro E w ⟨rfl, rfl⟩
  go_wp2
  go_ret
  exact HF.out

set_option maxHeartbeats 2000000 in
theorem astep_skip (b : UInt8) (h : AX w base m o ck e mb g s) (ha : skipsA s.m.a = true) (hb : blankB b = true) :
    Calls Tryz.prog 132 #[.pointer (some ⟨m, 0, none⟩), .int .u8 (b.toNat : Int), .pointer (some ⟨o, 0, none⟩)] w (APo w base m o ck e mb g ⟨s, 0⟩) := by
  have c0 := h.at0
  have hlt := h.lt
  have hBl := tblank_any b
  rw [hb] at hBl
  have HB := Lib.hid hBl
  have hSk := askips_any s.m.a
  rw [ha] at hSk
  have HSk := Lib.hid hSk
  have HF := Lib.hid (APo.of h (Tch.refl _ _ _) 0)
  clear h ha hb hBl hSk
  go_enter Tryz.func132, Tryz.ntmps132
  go_wp2_with fail
  refine (HB.out _).mono ?_
  rintro E w ⟨rfl, rfl⟩
  go_wp2_with fail
  refine (HSk.out _).mono ?_
  rintro E w ⟨rfl, rfl⟩
  go_wp2
  go_ret
  exact HF.out
set_option maxHeartbeats 2000000 in
theorem amend_any (h : AX w base m o ck e mb g s) :
    Calls Tryz.prog 131 #[.pointer (some ⟨m, 0, none⟩), .pointer (some ⟨o, 0, none⟩)] w (APo w base m o ck e mb g ⟨s, endAgE s⟩) := by
  have c0 := h.at0
  have hlt := h.lt
  unfold endAgE
  by_cases ha : s.m.a ≠ 18
  · rw [if_pos ha]
    have z : (s.m.a != 18) = true := by rw [bne_iff_ne]; exact ha
    have HF := Lib.hid (APo.of h (Tch.refl _ _ _) 2)
    clear h ha
    go_enter Tryz.func131, Tryz.ntmps131
    go_wp2
    go_ret
    exact HF.out
  · rw [if_neg ha]
    have z : (s.m.a != 18) = false := by rw [bne_eq_false_iff_eq]; exact Classical.byContradiction ha
    have HF := Lib.hid (APo.of h (Tch.refl _ _ _) 0)
    clear h ha
    go_enter Tryz.func131, Tryz.ntmps131
    go_wp2
    go_ret
    exact HF.out
end
end Go.Proofs.YtjepnddndpmnnaaGreatDoor

/-
  delim: outside, Step, End, path by path.
-/
import Derived.Test.YtalkjgijmceifaaGreatDoorDwA30
namespace Go.Proofs.YtalkjgijmceifaaGreatDoor
open Go.RowKit Go.Maps
set_option maxRecDepth 100000
set_option linter.unusedSimpArgs false
set_option linter.unusedVariables false
set_option linter.unusedSectionVars false
variable [Tab] [Fo]

/-- What holds of the machine ahead of a cell's end. -/
structure DPre (s : Ds) : Prop where
  nc : s.m.hd = true → s.m.n < s.m.cols.length
  n8 : s.m.n ≤ 1000
  cz : ∀ c ∈ s.m.cols, c.length ≤ 48
  c8 : s.m.cols.length ≤ 100
  cl : s.m.c.length ≤ 48
  good : Good s.st
  ln : s.l.length ≤ 900000
theorem DPre.a {s : Ds} (h : DPre s) (v : Int) : DPre (setA s v) := ⟨h.nc, h.n8, h.cz, h.c8, h.cl, h.good, h.ln⟩
theorem DX.at0 {w : World} {base m o ck : Nat} {s : Ds} (h : DX w base m o ck s) : w.cell? ⟨m, 0, none⟩ = some (.int .i64 s.m.a) ∧ w.frozen? ⟨m, 0, none⟩ = false ∧ m < w.heap.size := by
  obtain ⟨cv, g, hM⟩ := h.mc
  exact ⟨hM.cells.1, hM.frz 0, hM.lt⟩
theorem DX.setA {w : World} {base m o ck : Nat} {s : Ds} (h : DX w base m o ck s) (v : Int) : DX (w.setCell ⟨m, 0, none⟩ (.int .i64 v)) base m o ck (setA s v) ∧ Tch base dObj w (w.setCell ⟨m, 0, none⟩ (.int .i64 v)) := by
  obtain ⟨cv, g, hM⟩ := h.mc
  have ht := hM.touch 0 (.int .i64 v)
  exact ⟨h.dm (ht.wide fun _ => dm_of) (hM.set 0 (.int .i64 v) rfl rfl rfl), ht.wide fun _ => d_mo⟩

set_option maxHeartbeats 4000000 in
theorem dout_comma (w : World) (base m o ck : Nat) (s : Ds) (b : UInt8) (h : DX w base m o ck s) (hp : DPre s) (hb : b.toNat = 44) :
    Calls Tryz.prog 151 #[.pointer (some ⟨m, 0, none⟩), .int .u8 (b.toNat : Int), .pointer (some ⟨o, 0, none⟩)] w (DPo w base m o ck (endCellD (setA s 2) false)) := by
  obtain ⟨c0, f0, hlt⟩ := h.at0
  have z44 : ((b.toNat : Int) == 44) = true := by rw [beq_iff_eq]; omega
  obtain ⟨hX, ht⟩ := h.setA 2
  have HC := Lib.hid (dendcell_any _ base m o ck _ false hX (hp.a 2).nc (hp.a 2).n8 (hp.a 2).cz (hp.a 2).c8 (hp.a 2).cl (hp.a 2).good (hp.a 2).ln)
  have HT := Lib.hid ht
  obtain ⟨R, hR⟩ : ∃ R, endCellD (setA s 2) false = R := ⟨_, rfl⟩
  rw [hR] at HC ⊢
  clear h hp hX ht hR
  go_enter Tryz.func151, Tryz.ntmps151
  go_wp2_with fail
  refine HC.out.mono ?_
  intro e w3 hq
  have HF := Lib.hid (hq.pre HT.out)
  have he := hq.1
  clear hq HC HT
  subst he
  go_wp2
  go_ret
  exact HF.out

set_option maxHeartbeats 4000000 in
theorem dout_line (w : World) (base m o ck : Nat) (s : Ds) (b : UInt8) (h : DX w base m o ck s) (hp : DPre s) (hb : b.toNat = 10) :
    Calls Tryz.prog 151 #[.pointer (some ⟨m, 0, none⟩), .int .u8 (b.toNat : Int), .pointer (some ⟨o, 0, none⟩)] w (DPo w base m o ck (endCellD (setA s 1) true)) := by
  obtain ⟨c0, f0, hlt⟩ := h.at0
  have z44 : ((b.toNat : Int) == 44) = false := by rw [beq_eq_false_iff_ne]; omega
  have z10 : ((b.toNat : Int) == 10) = true := by rw [beq_iff_eq]; omega
  obtain ⟨hX, ht⟩ := h.setA 1
  have HC := Lib.hid (dendcell_any _ base m o ck _ true hX (hp.a 1).nc (hp.a 1).n8 (hp.a 1).cz (hp.a 1).c8 (hp.a 1).cl (hp.a 1).good (hp.a 1).ln)
  have HT := Lib.hid ht
  obtain ⟨R, hR⟩ : ∃ R, endCellD (setA s 1) true = R := ⟨_, rfl⟩
  rw [hR] at HC ⊢
  clear h hp hX ht hR
  go_enter Tryz.func151, Tryz.ntmps151
  go_wp2_with fail
  refine HC.out.mono ?_
  intro e w3 hq
  have HF := Lib.hid (hq.pre HT.out)
  have he := hq.1
  clear hq HC HT
  subst he
  go_wp2
  go_ret
  exact HF.out

set_option maxHeartbeats 4000000 in
theorem dout_low (w : World) (base m o ck : Nat) (s : Ds) (b : UInt8) (h : DX w base m o ck s) (hp : DPre s) (hb : b.toNat < 32) (h44 : b.toNat ≠ 44) (h10 : b.toNat ≠ 10) :
    Calls Tryz.prog 151 #[.pointer (some ⟨m, 0, none⟩), .int .u8 (b.toNat : Int), .pointer (some ⟨o, 0, none⟩)] w (DPo w base m o ck (⟨s, 2⟩)) := by
  obtain ⟨c0, f0, hlt⟩ := h.at0
  have z44 : ((b.toNat : Int) == 44) = false := by rw [beq_eq_false_iff_ne]; omega
  have z10 : ((b.toNat : Int) == 10) = false := by rw [beq_eq_false_iff_ne]; omega
  have z32 : decide ((b.toNat : Int) < 32) = true := by simp; omega
  have HF : Hid (DPo w base m o ck ⟨s, 2⟩ (.returned (.int .i64 2)) w) := Lib.hid ⟨rfl, h, Tch.refl _ _ _⟩
  clear h hp
  go_enter Tryz.func151, Tryz.ntmps151
  go_wp2
  go_ret
  exact HF.out

set_option maxHeartbeats 4000000 in
theorem dout_quote (w : World) (base m o ck : Nat) (s : Ds) (b : UInt8) (h : DX w base m o ck s) (hp : DPre s) (hb : b.toNat = 34) :
    Calls Tryz.prog 151 #[.pointer (some ⟨m, 0, none⟩), .int .u8 (b.toNat : Int), .pointer (some ⟨o, 0, none⟩)] w (DPo w base m o ck (⟨s, 2⟩)) := by
  obtain ⟨c0, f0, hlt⟩ := h.at0
  have z44 : ((b.toNat : Int) == 44) = false := by rw [beq_eq_false_iff_ne]; omega
  have z10 : ((b.toNat : Int) == 10) = false := by rw [beq_eq_false_iff_ne]; omega
  have z32 : decide ((b.toNat : Int) < 32) = false := by simp; omega
  have z34 : ((b.toNat : Int) == 34) = true := by rw [beq_iff_eq]; omega
  have HF : Hid (DPo w base m o ck ⟨s, 2⟩ (.returned (.int .i64 2)) w) := Lib.hid ⟨rfl, h, Tch.refl _ _ _⟩
  clear h hp
  go_enter Tryz.func151, Tryz.ntmps151
  go_wp2
  go_ret
  exact HF.out

set_option maxHeartbeats 4000000 in
theorem dout_behind (w : World) (base m o ck : Nat) (s : Ds) (b : UInt8) (h : DX w base m o ck s) (hp : DPre s) (hb : 32 ≤ b.toNat) (h44 : b.toNat ≠ 44) (h34 : b.toNat ≠ 34) (h5 : s.m.a = 5) :
    Calls Tryz.prog 151 #[.pointer (some ⟨m, 0, none⟩), .int .u8 (b.toNat : Int), .pointer (some ⟨o, 0, none⟩)] w (DPo w base m o ck (⟨s, 2⟩)) := by
  obtain ⟨c0, f0, hlt⟩ := h.at0
  have z44 : ((b.toNat : Int) == 44) = false := by rw [beq_eq_false_iff_ne]; omega
  have z10 : ((b.toNat : Int) == 10) = false := by rw [beq_eq_false_iff_ne]; omega
  have z32 : decide ((b.toNat : Int) < 32) = false := by simp; omega
  have z34 : ((b.toNat : Int) == 34) = false := by rw [beq_eq_false_iff_ne]; omega
  have z5 : (s.m.a == 5) = true := by rw [beq_iff_eq]; exact h5
  have HF : Hid (DPo w base m o ck ⟨s, 2⟩ (.returned (.int .i64 2)) w) := Lib.hid ⟨rfl, h, Tch.refl _ _ _⟩
  clear h hp
  go_enter Tryz.func151, Tryz.ntmps151
  go_wp2
  go_ret
  exact HF.out

set_option maxHeartbeats 4000000 in
theorem dout_add (w : World) (base m o ck : Nat) (s : Ds) (b : UInt8) (h : DX w base m o ck s) (hp : DPre s) (hb : 32 ≤ b.toNat) (h44 : b.toNat ≠ 44) (h34 : b.toNat ≠ 34) (h5 : s.m.a ≠ 5) :
    Calls Tryz.prog 151 #[.pointer (some ⟨m, 0, none⟩), .int .u8 (b.toNat : Int), .pointer (some ⟨o, 0, none⟩)] w (DPo w base m o ck (addD s b)) := by
  obtain ⟨c0, f0, hlt⟩ := h.at0
  have z44 : ((b.toNat : Int) == 44) = false := by rw [beq_eq_false_iff_ne]; omega
  have z10 : ((b.toNat : Int) == 10) = false := by rw [beq_eq_false_iff_ne]; omega
  have z32 : decide ((b.toNat : Int) < 32) = false := by simp; omega
  have z34 : ((b.toNat : Int) == 34) = false := by rw [beq_eq_false_iff_ne]; omega
  have z5 : (s.m.a == 5) = false := by rw [beq_eq_false_iff_ne]; exact h5
  have HC := Lib.hid (dadd_any w base m o ck s b h hp.cl)
  obtain ⟨R, hR⟩ : ∃ R, addD s b = R := ⟨_, rfl⟩
  rw [hR] at HC ⊢
  have HT : Hid (Tch base dObj w w) := Lib.hid (Tch.refl _ _ _)
  clear h hp hR h5
  go_enter Tryz.func151, Tryz.ntmps151
  go_wp2_with fail
  refine HC.out.mono ?_
  intro e w3 hq
  have HF := Lib.hid (hq.pre HT.out)
  have he := hq.1
  clear hq HC HT
  subst he
  go_wp2
  go_ret
  exact HF.out

theorem dout_any (w : World) (base m o ck : Nat) (s : Ds) (b : UInt8) (h : DX w base m o ck s) (hp : DPre s) :
    Calls Tryz.prog 151 #[.pointer (some ⟨m, 0, none⟩), .int .u8 (b.toNat : Int), .pointer (some ⟨o, 0, none⟩)] w (DPo w base m o ck (outD s b)) := by
  unfold outD
  by_cases h44 : b.toNat = 44
  · rw [if_pos h44]; exact dout_comma w base m o ck s b h hp h44
  · rw [if_neg h44]
    by_cases h10 : b.toNat = 10
    · rw [if_pos h10]; exact dout_line w base m o ck s b h hp h10
    · rw [if_neg h10]
      by_cases hr : b.toNat < 32 ∨ b.toNat = 34 ∨ s.m.a = 5
      · rw [if_pos hr]
        by_cases hl : b.toNat < 32
        · exact dout_low w base m o ck s b h hp hl h44 h10
        · by_cases h34 : b.toNat = 34
          · exact dout_quote w base m o ck s b h hp h34
          · exact dout_behind w base m o ck s b h hp (by omega) h44 h34 (by rcases hr with h | h | h; exact absurd h hl; exact absurd h h34; exact h)
      · rw [if_neg hr]
        exact dout_add w base m o ck s b h hp (by omega) h44 (fun h => hr (.inr (.inl h))) (fun h => hr (.inr (.inr h)))

set_option maxHeartbeats 4000000 in
theorem dstep_1q (w : World) (base m o ck : Nat) (s : Ds) (b : UInt8) (h : DX w base m o ck s) (hp : DPre s) (ha : s.m.a = 1) (hb : b.toNat = 34) :
    Calls Tryz.prog 147 #[.pointer (some ⟨m, 0, none⟩), .int .u8 (b.toNat : Int), .pointer (some ⟨o, 0, none⟩)] w (DPo w base m o ck (⟨setA s 4, 0⟩)) := by
  obtain ⟨c0, f0, hlt⟩ := h.at0
  rw [ha] at c0
  have z34 : ((b.toNat : Int) == 34) = true := by rw [beq_iff_eq]; omega
  obtain ⟨hX, ht⟩ := h.setA 4
  have HF : Hid (DPo w base m o ck ⟨setA s 4, 0⟩ (.returned (.int .i64 0)) (w.setCell ⟨m, 0, none⟩ (.int .i64 4))) := Lib.hid ⟨rfl, hX, ht⟩
  clear h hp hX ht
  clear ha
  go_enter Tryz.func147, Tryz.ntmps147
  go_wp2
  go_ret
  exact HF.out

set_option maxHeartbeats 4000000 in
theorem dstep_1o (w : World) (base m o ck : Nat) (s : Ds) (b : UInt8) (h : DX w base m o ck s) (hp : DPre s) (ha : s.m.a = 1) (hb : b.toNat ≠ 34) :
    Calls Tryz.prog 147 #[.pointer (some ⟨m, 0, none⟩), .int .u8 (b.toNat : Int), .pointer (some ⟨o, 0, none⟩)] w (DPo w base m o ck (outD (setA s 3) b)) := by
  obtain ⟨c0, f0, hlt⟩ := h.at0
  rw [ha] at c0
  have z34 : ((b.toNat : Int) == 34) = false := by rw [beq_eq_false_iff_ne]; omega
  obtain ⟨hX, ht⟩ := h.setA 3
  have HC := Lib.hid (dout_any _ base m o ck _ b hX (hp.a 3))
  have HT := Lib.hid ht
  obtain ⟨R, hR⟩ : ∃ R, outD (setA s 3) b = R := ⟨_, rfl⟩
  rw [hR] at HC ⊢
  clear h hp hX ht hR
  clear ha
  go_enter Tryz.func147, Tryz.ntmps147
  go_wp2_with fail
  refine HC.out.mono ?_
  intro e w3 hq
  have HF := Lib.hid (hq.pre HT.out)
  have he := hq.1
  clear hq HC HT
  subst he
  go_wp2
  go_ret
  exact HF.out

set_option maxHeartbeats 4000000 in
theorem dstep_2q (w : World) (base m o ck : Nat) (s : Ds) (b : UInt8) (h : DX w base m o ck s) (hp : DPre s) (ha : s.m.a = 2) (hb : b.toNat = 34) :
    Calls Tryz.prog 147 #[.pointer (some ⟨m, 0, none⟩), .int .u8 (b.toNat : Int), .pointer (some ⟨o, 0, none⟩)] w (DPo w base m o ck (⟨setA s 4, 0⟩)) := by
  obtain ⟨c0, f0, hlt⟩ := h.at0
  rw [ha] at c0
  have z34 : ((b.toNat : Int) == 34) = true := by rw [beq_iff_eq]; omega
  obtain ⟨hX, ht⟩ := h.setA 4
  have HF : Hid (DPo w base m o ck ⟨setA s 4, 0⟩ (.returned (.int .i64 0)) (w.setCell ⟨m, 0, none⟩ (.int .i64 4))) := Lib.hid ⟨rfl, hX, ht⟩
  clear h hp hX ht
  clear ha
  go_enter Tryz.func147, Tryz.ntmps147
  go_wp2
  go_ret
  exact HF.out

set_option maxHeartbeats 4000000 in
theorem dstep_2o (w : World) (base m o ck : Nat) (s : Ds) (b : UInt8) (h : DX w base m o ck s) (hp : DPre s) (ha : s.m.a = 2) (hb : b.toNat ≠ 34) :
    Calls Tryz.prog 147 #[.pointer (some ⟨m, 0, none⟩), .int .u8 (b.toNat : Int), .pointer (some ⟨o, 0, none⟩)] w (DPo w base m o ck (outD (setA s 3) b)) := by
  obtain ⟨c0, f0, hlt⟩ := h.at0
  rw [ha] at c0
  have z34 : ((b.toNat : Int) == 34) = false := by rw [beq_eq_false_iff_ne]; omega
  obtain ⟨hX, ht⟩ := h.setA 3
  have HC := Lib.hid (dout_any _ base m o ck _ b hX (hp.a 3))
  have HT := Lib.hid ht
  obtain ⟨R, hR⟩ : ∃ R, outD (setA s 3) b = R := ⟨_, rfl⟩
  rw [hR] at HC ⊢
  clear h hp hX ht hR
  clear ha
  go_enter Tryz.func147, Tryz.ntmps147
  go_wp2_with fail
  refine HC.out.mono ?_
  intro e w3 hq
  have HF := Lib.hid (hq.pre HT.out)
  have he := hq.1
  clear hq HC HT
  subst he
  go_wp2
  go_ret
  exact HF.out

set_option maxHeartbeats 4000000 in
theorem dstep_4q (w : World) (base m o ck : Nat) (s : Ds) (b : UInt8) (h : DX w base m o ck s) (hp : DPre s) (ha : s.m.a = 4) (hb : b.toNat = 34) :
    Calls Tryz.prog 147 #[.pointer (some ⟨m, 0, none⟩), .int .u8 (b.toNat : Int), .pointer (some ⟨o, 0, none⟩)] w (DPo w base m o ck (⟨setA s 5, 0⟩)) := by
  obtain ⟨c0, f0, hlt⟩ := h.at0
  rw [ha] at c0
  have z34 : ((b.toNat : Int) == 34) = true := by rw [beq_iff_eq]; omega
  obtain ⟨hX, ht⟩ := h.setA 5
  have HF : Hid (DPo w base m o ck ⟨setA s 5, 0⟩ (.returned (.int .i64 0)) (w.setCell ⟨m, 0, none⟩ (.int .i64 5))) := Lib.hid ⟨rfl, hX, ht⟩
  clear h hp hX ht
  clear ha
  go_enter Tryz.func147, Tryz.ntmps147
  go_wp2
  go_ret
  exact HF.out

set_option maxHeartbeats 4000000 in
theorem dstep_4o (w : World) (base m o ck : Nat) (s : Ds) (b : UInt8) (h : DX w base m o ck s) (hp : DPre s) (ha : s.m.a = 4) (hb : b.toNat ≠ 34) :
    Calls Tryz.prog 147 #[.pointer (some ⟨m, 0, none⟩), .int .u8 (b.toNat : Int), .pointer (some ⟨o, 0, none⟩)] w (DPo w base m o ck (addD s b)) := by
  obtain ⟨c0, f0, hlt⟩ := h.at0
  rw [ha] at c0
  have z34 : ((b.toNat : Int) == 34) = false := by rw [beq_eq_false_iff_ne]; omega
  have HC := Lib.hid (dadd_any w base m o ck s b h hp.cl)
  obtain ⟨R, hR⟩ : ∃ R, addD s b = R := ⟨_, rfl⟩
  rw [hR] at HC ⊢
  have HT : Hid (Tch base dObj w w) := Lib.hid (Tch.refl _ _ _)
  clear h hp hR
  clear ha
  go_enter Tryz.func147, Tryz.ntmps147
  go_wp2_with fail
  refine HC.out.mono ?_
  intro e w3 hq
  have HF := Lib.hid (hq.pre HT.out)
  have he := hq.1
  clear hq HC HT
  subst he
  go_wp2
  go_ret
  exact HF.out

set_option maxHeartbeats 4000000 in
theorem dstep_5q (w : World) (base m o ck : Nat) (s : Ds) (b : UInt8) (h : DX w base m o ck s) (hp : DPre s) (ha : s.m.a = 5) (hb : b.toNat = 34) :
    Calls Tryz.prog 147 #[.pointer (some ⟨m, 0, none⟩), .int .u8 (b.toNat : Int), .pointer (some ⟨o, 0, none⟩)] w (DPo w base m o ck (addD (setA s 4) b)) := by
  obtain ⟨c0, f0, hlt⟩ := h.at0
  rw [ha] at c0
  have z34 : ((b.toNat : Int) == 34) = true := by rw [beq_iff_eq]; omega
  obtain ⟨hX, ht⟩ := h.setA 4
  have HC := Lib.hid (dadd_any _ base m o ck (setA s 4) b hX hp.cl)
  have HT := Lib.hid ht
  obtain ⟨R, hR⟩ : ∃ R, addD (setA s 4) b = R := ⟨_, rfl⟩
  have hbi : (b.toNat : Int) = 34 := by omega
  rw [hR] at HC ⊢
  rw [hbi] at HC
  clear hbi
  clear h hp hX ht hR
  clear ha
  go_enter Tryz.func147, Tryz.ntmps147
  go_wp2_with fail
  refine HC.out.mono ?_
  intro e w3 hq
  have HF := Lib.hid (hq.pre HT.out)
  have he := hq.1
  clear hq HC HT
  subst he
  go_wp2
  go_ret
  exact HF.out

set_option maxHeartbeats 4000000 in
theorem dstep_5o (w : World) (base m o ck : Nat) (s : Ds) (b : UInt8) (h : DX w base m o ck s) (hp : DPre s) (ha : s.m.a = 5) (hb : b.toNat ≠ 34) :
    Calls Tryz.prog 147 #[.pointer (some ⟨m, 0, none⟩), .int .u8 (b.toNat : Int), .pointer (some ⟨o, 0, none⟩)] w (DPo w base m o ck (outD s b)) := by
  obtain ⟨c0, f0, hlt⟩ := h.at0
  rw [ha] at c0
  have z34 : ((b.toNat : Int) == 34) = false := by rw [beq_eq_false_iff_ne]; omega
  have HC := Lib.hid (dout_any _ base m o ck _ b h hp)
  have HT : Hid (Tch base dObj w w) := Lib.hid (Tch.refl _ _ _)
  obtain ⟨R, hR⟩ : ∃ R, outD s b = R := ⟨_, rfl⟩
  rw [hR] at HC ⊢
  clear h hp hR
  clear ha
  go_enter Tryz.func147, Tryz.ntmps147
  go_wp2_with fail
  refine HC.out.mono ?_
  intro e w3 hq
  have HF := Lib.hid (hq.pre HT.out)
  have he := hq.1
  clear hq HC HT
  subst he
  go_wp2
  go_ret
  exact HF.out

set_option maxHeartbeats 4000000 in
theorem dstep_3 (w : World) (base m o ck : Nat) (s : Ds) (b : UInt8) (h : DX w base m o ck s) (hp : DPre s) (ha : s.m.a = 3)  :
    Calls Tryz.prog 147 #[.pointer (some ⟨m, 0, none⟩), .int .u8 (b.toNat : Int), .pointer (some ⟨o, 0, none⟩)] w (DPo w base m o ck (outD s b)) := by
  obtain ⟨c0, f0, hlt⟩ := h.at0
  rw [ha] at c0
  have HC := Lib.hid (dout_any _ base m o ck _ b h hp)
  have HT : Hid (Tch base dObj w w) := Lib.hid (Tch.refl _ _ _)
  obtain ⟨R, hR⟩ : ∃ R, outD s b = R := ⟨_, rfl⟩
  rw [hR] at HC ⊢
  clear h hp hR
  clear ha
  go_enter Tryz.func147, Tryz.ntmps147
  go_wp2_with fail
  refine HC.out.mono ?_
  intro e w3 hq
  have HF := Lib.hid (hq.pre HT.out)
  have he := hq.1
  clear hq HC HT
  subst he
  go_wp2
  go_ret
  exact HF.out

set_option maxHeartbeats 4000000 in
theorem dstep_0q (w : World) (base m o ck : Nat) (s : Ds) (b : UInt8) (h : DX w base m o ck s) (hp : DPre s) (ha : s.m.a = 0) (hb : b.toNat = 34) (hl9 : s.l.length + 1 ≤ 900000) :
    Calls Tryz.prog 147 #[.pointer (some ⟨m, 0, none⟩), .int .u8 (b.toNat : Int), .pointer (some ⟨o, 0, none⟩)] w (DPo w base m o ck (if (listD s).e ≠ 0 then listD s else cellD (listD s).b b)) := by
  obtain ⟨c0, f0, hlt⟩ := h.at0
  rw [ha] at c0
  have z34 : ((b.toNat : Int) == 34) = true := by rw [beq_iff_eq]; omega
  have HTl := Lib.hid (h.tell (bare 5) hp.good (by decide) (bare_size 5) (Nat.le_trans hp.ln (by decide)))
  obtain ⟨R, hR⟩ : ∃ R, (if (listD s).e ≠ 0 then listD s else cellD (listD s).b b) = R := ⟨_, rfl⟩
  rw [hR]
  have hL : listD s = tellD s.m s.st s.l (bare 5) := rfl
  have HP : Hid (∀ s1 : Ds, s1 = (listD s).b → s1.l.length ≤ 900000 → DPre s1) := Lib.hid (fun s1 e hl1 => by subst e; exact ⟨hp.nc, hp.n8, hp.cz, hp.c8, hp.cl, good_step hp.good _, hl1⟩)
  have HLen : Hid (s.l.length + 1 ≤ 900000) := Lib.hid hl9
  clear h ha hp
  go_enter Tryz.func147, Tryz.ntmps147
  go_wp2_with fail
  refine HTl.out.mono ?_
  rintro e w1 ⟨rfl, hX, ht⟩
  have HT1 := Lib.hid (ht.wide (q := dObj) fun _ => d_t)
  clear HTl ht c0 f0 hlt
  by_cases h1 : stepE s.st (bare 5) = 0
  case neg =>
    have z1 : (stepE s.st (bare 5) == 0) = false := by rw [beq_eq_false_iff_ne]; exact h1
    have z2 : (stepE s.st (bare 5) != 0) = true := by simp [bne, z1]
    rw [if_pos (by rw [hL]; exact h1), hL] at hR
    have HF : Hid (DPo w base m o ck R (.returned (.int .i64 (stepE s.st (bare 5)))) w1) := Lib.hid (by rw [← hR]; exact ⟨rfl, hX, HT1.out⟩)
    clear hX h1 hR hL HP HLen
    generalize stepE s.st (bare 5) = E at *
    go_wp2
    go_ret
    exact HF.out
  case pos =>
    rw [if_neg (by rw [hL]; exact fun h => h h1)] at hR
    have hX' : DX w1 base m o ck (listD s).b := hX
    have hp1 := HP.out _ rfl (by show (tellL _ _ _).length ≤ _; have := tellL_len s.st s.l (bare 5); have := HLen.out; omega)
    obtain ⟨c0, f0, hlt⟩ := hX'.at0
    rw [h1]
    clear hX HP HLen h1 hL
    generalize (listD s).b = s1 at *
    unfold cellD at hR
    rw [if_pos hb] at hR
    obtain ⟨hX2, ht2⟩ := hX'.setA 4
    have HF : Hid (DPo w base m o ck R (.returned (.int .i64 0)) (w1.setCell ⟨m, 0, none⟩ (.int .i64 4))) := Lib.hid (by rw [← hR]; exact ⟨rfl, hX2, HT1.out.trans ht2⟩)
    clear hX' hp1 hX2 ht2 hR HT1
    go_wp2
    go_ret
    exact HF.out

set_option maxHeartbeats 4000000 in
theorem dstep_0o (w : World) (base m o ck : Nat) (s : Ds) (b : UInt8) (h : DX w base m o ck s) (hp : DPre s) (ha : s.m.a = 0) (hb : b.toNat ≠ 34) (hl9 : s.l.length + 1 ≤ 900000) :
    Calls Tryz.prog 147 #[.pointer (some ⟨m, 0, none⟩), .int .u8 (b.toNat : Int), .pointer (some ⟨o, 0, none⟩)] w (DPo w base m o ck (if (listD s).e ≠ 0 then listD s else cellD (listD s).b b)) := by
  obtain ⟨c0, f0, hlt⟩ := h.at0
  rw [ha] at c0
  have z34 : ((b.toNat : Int) == 34) = false := by rw [beq_eq_false_iff_ne]; omega
  have HTl := Lib.hid (h.tell (bare 5) hp.good (by decide) (bare_size 5) (Nat.le_trans hp.ln (by decide)))
  obtain ⟨R, hR⟩ : ∃ R, (if (listD s).e ≠ 0 then listD s else cellD (listD s).b b) = R := ⟨_, rfl⟩
  rw [hR]
  have hL : listD s = tellD s.m s.st s.l (bare 5) := rfl
  have HP : Hid (∀ s1 : Ds, s1 = (listD s).b → s1.l.length ≤ 900000 → DPre s1) := Lib.hid (fun s1 e hl1 => by subst e; exact ⟨hp.nc, hp.n8, hp.cz, hp.c8, hp.cl, good_step hp.good _, hl1⟩)
  have HLen : Hid (s.l.length + 1 ≤ 900000) := Lib.hid hl9
  clear h ha hp
  go_enter Tryz.func147, Tryz.ntmps147
  go_wp2_with fail
  refine HTl.out.mono ?_
  rintro e w1 ⟨rfl, hX, ht⟩
  have HT1 := Lib.hid (ht.wide (q := dObj) fun _ => d_t)
  clear HTl ht c0 f0 hlt
  by_cases h1 : stepE s.st (bare 5) = 0
  case neg =>
    have z1 : (stepE s.st (bare 5) == 0) = false := by rw [beq_eq_false_iff_ne]; exact h1
    have z2 : (stepE s.st (bare 5) != 0) = true := by simp [bne, z1]
    rw [if_pos (by rw [hL]; exact h1), hL] at hR
    have HF : Hid (DPo w base m o ck R (.returned (.int .i64 (stepE s.st (bare 5)))) w1) := Lib.hid (by rw [← hR]; exact ⟨rfl, hX, HT1.out⟩)
    clear hX h1 hR hL HP HLen
    generalize stepE s.st (bare 5) = E at *
    go_wp2
    go_ret
    exact HF.out
  case pos =>
    rw [if_neg (by rw [hL]; exact fun h => h h1)] at hR
    have hX' : DX w1 base m o ck (listD s).b := hX
    have hp1 := HP.out _ rfl (by show (tellL _ _ _).length ≤ _; have := tellL_len s.st s.l (bare 5); have := HLen.out; omega)
    obtain ⟨c0, f0, hlt⟩ := hX'.at0
    rw [h1]
    clear hX HP HLen h1 hL
    generalize (listD s).b = s1 at *
    unfold cellD at hR
    rw [if_neg hb] at hR
    obtain ⟨hX2, ht2⟩ := hX'.setA 3
    have HC := Lib.hid (dout_any _ base m o ck _ b hX2 (hp1.a 3))
    have HT := Lib.hid (HT1.out.trans ht2)
    rw [hR] at HC
    clear hX' hp1 hX2 ht2 hR HT1
    go_wp2_with fail
    refine HC.out.mono ?_
    intro e w3 hq
    have HF := Lib.hid (hq.pre HT.out)
    have he := hq.1
    clear hq HC HT
    subst he
    go_wp2
    go_ret
    exact HF.out

theorem dstep_all (w : World) (base m o ck : Nat) (s : Ds) (b : UInt8) (h : DX w base m o ck s) (hp : DPre s) (ha : 0 ≤ s.m.a ∧ s.m.a ≤ 5) (hl9 : s.l.length + 1 ≤ 900000) :
    Calls Tryz.prog 147 #[.pointer (some ⟨m, 0, none⟩), .int .u8 (b.toNat : Int), .pointer (some ⟨o, 0, none⟩)] w (DPo w base m o ck (stepD s b)) := by
  unfold stepD
  by_cases h0 : s.m.a = 0
  · rw [if_pos h0]
    by_cases hb : b.toNat = 34
    · exact dstep_0q w base m o ck s b h hp h0 hb hl9
    · exact dstep_0o w base m o ck s b h hp h0 hb hl9
  · rw [if_neg h0]
    by_cases h12 : s.m.a = 1 ∨ s.m.a = 2
    · rw [if_pos h12]
      unfold cellD
      by_cases hb : b.toNat = 34
      · rw [if_pos hb]
        rcases h12 with h1 | h2
        · exact dstep_1q w base m o ck s b h hp h1 hb
        · exact dstep_2q w base m o ck s b h hp h2 hb
      · rw [if_neg hb]
        rcases h12 with h1 | h2
        · exact dstep_1o w base m o ck s b h hp h1 hb
        · exact dstep_2o w base m o ck s b h hp h2 hb
    · rw [if_neg h12]
      by_cases h4 : s.m.a = 4
      · rw [if_pos h4]
        by_cases hb : b.toNat = 34
        · rw [if_pos hb]; exact dstep_4q w base m o ck s b h hp h4 hb
        · rw [if_neg hb]; exact dstep_4o w base m o ck s b h hp h4 hb
      · rw [if_neg h4]
        by_cases h5 : s.m.a = 5
        · by_cases hb : b.toNat = 34
          · rw [if_pos ⟨h5, hb⟩]; exact dstep_5q w base m o ck s b h hp h5 hb
          · rw [if_neg (fun h => hb h.2)]; exact dstep_5o w base m o ck s b h hp h5 hb
        · rw [if_neg (fun h => h5 h.1)]
          exact dstep_3 w base m o ck s b h hp (by omega)

theorem endCellD_facts {s : Ds} (last : Bool) (hg : Good s.st) : Good (endCellD s last).b.st ∧ (endCellD s last).b.l.length ≤ s.l.length + 4 := by
  unfold endCellD
  split
  · unfold addColD
    split <;> exact ⟨hg, Nat.le_add_right _ _⟩
  · obtain ⟨h1, h2, -⟩ := tellCellD_facts (s := emptyD s) s.m.c hg
    have h2' : (tellCellD (emptyD s) s.m.c).b.l.length ≤ s.l.length + 3 := h2
    split
    · exact ⟨h1, Nat.le_trans h2' (by omega)⟩
    · unfold countD
      split
      · exact ⟨h1, Nat.le_trans h2' (by omega)⟩
      · split
        · exact ⟨h1, Nat.le_trans h2' (by omega)⟩
        · exact ⟨good_step h1 _, by have := tellL_len (tellCellD (emptyD s) s.m.c).b.st (tellCellD (emptyD s) s.m.c).b.l (bare 9); show (tellL _ _ _).length ≤ _; omega⟩

set_option maxHeartbeats 4000000 in
theorem dend_2 (w : World) (base m o ck : Nat) (s : Ds) (h : DX w base m o ck s) (hp : DPre s) (ha : s.m.a = 2) (hl9 : s.l.length + 1 ≤ 900000) :
    Calls Tryz.prog 146 #[.pointer (some ⟨m, 0, none⟩), .pointer (some ⟨o, 0, none⟩)] w (DPo w base m o ck (if (endCellD s true).e ≠ 0 then endCellD s true else tellD (endCellD s true).b.m (endCellD s true).b.st (endCellD s true).b.l (bare 6))) := by
  obtain ⟨c0, f0, hlt⟩ := h.at0
  rw [ha] at c0
  obtain ⟨R, hR⟩ : ∃ R, (if (endCellD s true).e ≠ 0 then endCellD s true else tellD (endCellD s true).b.m (endCellD s true).b.st (endCellD s true).b.l (bare 6)) = R := ⟨_, rfl⟩
  rw [hR]
  have HC := Lib.hid (dendcell_any _ base m o ck _ true h hp.nc hp.n8 hp.cz hp.c8 hp.cl hp.good hp.ln)
  have hG := endCellD_facts (s := s) true hp.good
  have hG2 : (endCellD s true).b.l.length ≤ 1000000 := by have := hG.2; have := hp.ln; omega
  have HGG := Lib.hid (And.intro hG.1 hG2)
  clear hG hG2
  generalize endCellD s true = r at *
  obtain ⟨rb, re⟩ := r
  clear h hp
  clear ha
  go_enter Tryz.func146, Tryz.ntmps146
  go_wp2_with fail
  refine HC.out.mono ?_
  rintro e w1 ⟨rfl, hX, ht⟩
  have HT1 := Lib.hid ht
  have hG := HGG.out
  simp only at hR hX hG ⊢
  clear HC HGG ht c0 f0 hlt
  by_cases hz : re = 0
  case neg =>
    have z1 : (re == 0) = false := by rw [beq_eq_false_iff_ne]; exact hz
    have z2 : (re != 0) = true := by simp [bne, z1]
    rw [if_pos hz] at hR
    have HF : Hid (DPo w base m o ck R (.returned (.int .i64 re)) w1) := Lib.hid (by rw [← hR]; exact ⟨rfl, hX, HT1.out⟩)
    clear hX hz hR hG
    go_wp2
    go_ret
    exact HF.out
  case pos =>
    subst hz
    rw [if_neg (fun h => h rfl)] at hR
    have HTl := Lib.hid (hX.tell (bare 6) hG.1 (by decide) (bare_size 6) hG.2)
    have HG : Hid (∀ e w3, DTell w1 base m o ck rb (bare 6) e w3 → DPo w base m o ck R e w3) := Lib.hid (fun e w3 hp => by rw [← hR]; exact hp.p HT1.out)
    clear hX hR HT1 hG
    go_wp2_with fail
    refine HTl.out.mono ?_
    intro e w5 hp
    have HF := Lib.hid (HG.out e w5 hp)
    have he := hp.1
    clear hp HTl HG
    subst he
    go_wp2
    go_ret
    exact HF.out

set_option maxHeartbeats 4000000 in
theorem dend_3 (w : World) (base m o ck : Nat) (s : Ds) (h : DX w base m o ck s) (hp : DPre s) (ha : s.m.a = 3) (hl9 : s.l.length + 1 ≤ 900000) :
    Calls Tryz.prog 146 #[.pointer (some ⟨m, 0, none⟩), .pointer (some ⟨o, 0, none⟩)] w (DPo w base m o ck (if (endCellD s true).e ≠ 0 then endCellD s true else tellD (endCellD s true).b.m (endCellD s true).b.st (endCellD s true).b.l (bare 6))) := by
  obtain ⟨c0, f0, hlt⟩ := h.at0
  rw [ha] at c0
  obtain ⟨R, hR⟩ : ∃ R, (if (endCellD s true).e ≠ 0 then endCellD s true else tellD (endCellD s true).b.m (endCellD s true).b.st (endCellD s true).b.l (bare 6)) = R := ⟨_, rfl⟩
  rw [hR]
  have HC := Lib.hid (dendcell_any _ base m o ck _ true h hp.nc hp.n8 hp.cz hp.c8 hp.cl hp.good hp.ln)
  have hG := endCellD_facts (s := s) true hp.good
  have hG2 : (endCellD s true).b.l.length ≤ 1000000 := by have := hG.2; have := hp.ln; omega
  have HGG := Lib.hid (And.intro hG.1 hG2)
  clear hG hG2
  generalize endCellD s true = r at *
  obtain ⟨rb, re⟩ := r
  clear h hp
  clear ha
  go_enter Tryz.func146, Tryz.ntmps146
  go_wp2_with fail
  refine HC.out.mono ?_
  rintro e w1 ⟨rfl, hX, ht⟩
  have HT1 := Lib.hid ht
  have hG := HGG.out
  simp only at hR hX hG ⊢
  clear HC HGG ht c0 f0 hlt
  by_cases hz : re = 0
  case neg =>
    have z1 : (re == 0) = false := by rw [beq_eq_false_iff_ne]; exact hz
    have z2 : (re != 0) = true := by simp [bne, z1]
    rw [if_pos hz] at hR
    have HF : Hid (DPo w base m o ck R (.returned (.int .i64 re)) w1) := Lib.hid (by rw [← hR]; exact ⟨rfl, hX, HT1.out⟩)
    clear hX hz hR hG
    go_wp2
    go_ret
    exact HF.out
  case pos =>
    subst hz
    rw [if_neg (fun h => h rfl)] at hR
    have HTl := Lib.hid (hX.tell (bare 6) hG.1 (by decide) (bare_size 6) hG.2)
    have HG : Hid (∀ e w3, DTell w1 base m o ck rb (bare 6) e w3 → DPo w base m o ck R e w3) := Lib.hid (fun e w3 hp => by rw [← hR]; exact hp.p HT1.out)
    clear hX hR HT1 hG
    go_wp2_with fail
    refine HTl.out.mono ?_
    intro e w5 hp
    have HF := Lib.hid (HG.out e w5 hp)
    have he := hp.1
    clear hp HTl HG
    subst he
    go_wp2
    go_ret
    exact HF.out

set_option maxHeartbeats 4000000 in
theorem dend_5 (w : World) (base m o ck : Nat) (s : Ds) (h : DX w base m o ck s) (hp : DPre s) (ha : s.m.a = 5) (hl9 : s.l.length + 1 ≤ 900000) :
    Calls Tryz.prog 146 #[.pointer (some ⟨m, 0, none⟩), .pointer (some ⟨o, 0, none⟩)] w (DPo w base m o ck (if (endCellD s true).e ≠ 0 then endCellD s true else tellD (endCellD s true).b.m (endCellD s true).b.st (endCellD s true).b.l (bare 6))) := by
  obtain ⟨c0, f0, hlt⟩ := h.at0
  rw [ha] at c0
  obtain ⟨R, hR⟩ : ∃ R, (if (endCellD s true).e ≠ 0 then endCellD s true else tellD (endCellD s true).b.m (endCellD s true).b.st (endCellD s true).b.l (bare 6)) = R := ⟨_, rfl⟩
  rw [hR]
  have HC := Lib.hid (dendcell_any _ base m o ck _ true h hp.nc hp.n8 hp.cz hp.c8 hp.cl hp.good hp.ln)
  have hG := endCellD_facts (s := s) true hp.good
  have hG2 : (endCellD s true).b.l.length ≤ 1000000 := by have := hG.2; have := hp.ln; omega
  have HGG := Lib.hid (And.intro hG.1 hG2)
  clear hG hG2
  generalize endCellD s true = r at *
  obtain ⟨rb, re⟩ := r
  clear h hp
  clear ha
  go_enter Tryz.func146, Tryz.ntmps146
  go_wp2_with fail
  refine HC.out.mono ?_
  rintro e w1 ⟨rfl, hX, ht⟩
  have HT1 := Lib.hid ht
  have hG := HGG.out
  simp only at hR hX hG ⊢
  clear HC HGG ht c0 f0 hlt
  by_cases hz : re = 0
  case neg =>
    have z1 : (re == 0) = false := by rw [beq_eq_false_iff_ne]; exact hz
    have z2 : (re != 0) = true := by simp [bne, z1]
    rw [if_pos hz] at hR
    have HF : Hid (DPo w base m o ck R (.returned (.int .i64 re)) w1) := Lib.hid (by rw [← hR]; exact ⟨rfl, hX, HT1.out⟩)
    clear hX hz hR hG
    go_wp2
    go_ret
    exact HF.out
  case pos =>
    subst hz
    rw [if_neg (fun h => h rfl)] at hR
    have HTl := Lib.hid (hX.tell (bare 6) hG.1 (by decide) (bare_size 6) hG.2)
    have HG : Hid (∀ e w3, DTell w1 base m o ck rb (bare 6) e w3 → DPo w base m o ck R e w3) := Lib.hid (fun e w3 hp => by rw [← hR]; exact hp.p HT1.out)
    clear hX hR HT1 hG
    go_wp2_with fail
    refine HTl.out.mono ?_
    intro e w5 hp
    have HF := Lib.hid (HG.out e w5 hp)
    have he := hp.1
    clear hp HTl HG
    subst he
    go_wp2
    go_ret
    exact HF.out

set_option maxHeartbeats 4000000 in
theorem dend_0 (w : World) (base m o ck : Nat) (s : Ds) (h : DX w base m o ck s) (hp : DPre s) (ha : s.m.a = 0) (hl9 : s.l.length + 1 ≤ 900000) :
    Calls Tryz.prog 146 #[.pointer (some ⟨m, 0, none⟩), .pointer (some ⟨o, 0, none⟩)] w (DPo w base m o ck (if (listD s).e ≠ 0 then listD s else tellD (listD s).b.m (listD s).b.st (listD s).b.l (bare 6))) := by
  obtain ⟨c0, f0, hlt⟩ := h.at0
  rw [ha] at c0
  obtain ⟨R, hR⟩ : ∃ R, (if (listD s).e ≠ 0 then listD s else tellD (listD s).b.m (listD s).b.st (listD s).b.l (bare 6)) = R := ⟨_, rfl⟩
  rw [hR]
  have HC := Lib.hid (h.tell (bare 5) hp.good (by decide) (bare_size 5) (Nat.le_trans hp.ln (by decide)))
  have hG : Good (listD s).b.st := good_step hp.good _
  have hG2 : (listD s).b.l.length ≤ 1000000 := by show (tellL _ _ _).length ≤ _; have := tellL_len s.st s.l (bare 5); omega
  have HGG := Lib.hid (And.intro hG hG2)
  have HCC : Hid (Calls Tryz.prog 149 #[.pointer (some ⟨o, 0, none⟩), .agg #[.int .i64 5, .string ⟨#[]⟩, .string ⟨#[]⟩], .slice none 0 0] w (DPo w base m o ck (listD s))) := Lib.hid (HC.out.mono fun e w' hp => hp.p (Tch.refl _ _ _))
  clear hG hG2 HC
  generalize listD s = r at *
  obtain ⟨rb, re⟩ := r
  clear h hp
  clear ha
  go_enter Tryz.func146, Tryz.ntmps146
  go_wp2_with fail
  refine HCC.out.mono ?_
  rintro e w1 ⟨rfl, hX, ht⟩
  have HT1 := Lib.hid ht
  have hG := HGG.out
  simp only at hR hX hG ⊢
  clear HCC HGG ht c0 f0 hlt
  by_cases hz : re = 0
  case neg =>
    have z1 : (re == 0) = false := by rw [beq_eq_false_iff_ne]; exact hz
    have z2 : (re != 0) = true := by simp [bne, z1]
    rw [if_pos hz] at hR
    have HF : Hid (DPo w base m o ck R (.returned (.int .i64 re)) w1) := Lib.hid (by rw [← hR]; exact ⟨rfl, hX, HT1.out⟩)
    clear hX hz hR hG
    go_wp2
    go_ret
    exact HF.out
  case pos =>
    subst hz
    rw [if_neg (fun h => h rfl)] at hR
    have HTl := Lib.hid (hX.tell (bare 6) hG.1 (by decide) (bare_size 6) hG.2)
    have HG : Hid (∀ e w3, DTell w1 base m o ck rb (bare 6) e w3 → DPo w base m o ck R e w3) := Lib.hid (fun e w3 hp => by rw [← hR]; exact hp.p HT1.out)
    clear hX hR HT1 hG
    go_wp2_with fail
    refine HTl.out.mono ?_
    intro e w5 hp
    have HF := Lib.hid (HG.out e w5 hp)
    have he := hp.1
    clear hp HTl HG
    subst he
    go_wp2
    go_ret
    exact HF.out

set_option maxHeartbeats 4000000 in
theorem dend_4 (w : World) (base m o ck : Nat) (s : Ds) (h : DX w base m o ck s) (ha : s.m.a = 4) :
    Calls Tryz.prog 146 #[.pointer (some ⟨m, 0, none⟩), .pointer (some ⟨o, 0, none⟩)] w (DPo w base m o ck ⟨s, 2⟩) := by
  obtain ⟨c0, f0, hlt⟩ := h.at0
  rw [ha] at c0
  have HF : Hid (DPo w base m o ck ⟨s, 2⟩ (.returned (.int .i64 2)) w) := Lib.hid ⟨rfl, h, Tch.refl _ _ _⟩
  clear h ha
  go_enter Tryz.func146, Tryz.ntmps146
  go_wp2
  go_ret
  exact HF.out

set_option maxHeartbeats 4000000 in
theorem dend_1 (w : World) (base m o ck : Nat) (s : Ds) (h : DX w base m o ck s) (hp : DPre s) (ha : s.m.a = 1) :
    Calls Tryz.prog 146 #[.pointer (some ⟨m, 0, none⟩), .pointer (some ⟨o, 0, none⟩)] w (DPo w base m o ck (tellD s.m s.st s.l (bare 6))) := by
  obtain ⟨c0, f0, hlt⟩ := h.at0
  rw [ha] at c0
  have HC := Lib.hid (h.tell (bare 6) hp.good (by decide) (bare_size 6) (Nat.le_trans hp.ln (by decide)))
  obtain ⟨R, hR⟩ : ∃ R, tellD s.m s.st s.l (bare 6) = R := ⟨_, rfl⟩
  have HG : Hid (∀ e w3, DTell w base m o ck s (bare 6) e w3 → DPo w base m o ck R e w3) := Lib.hid (fun e w3 hp => by rw [← hR]; exact hp.p (Tch.refl _ _ _))
  rw [hR]
  clear h ha hp hR
  go_enter Tryz.func146, Tryz.ntmps146
  go_wp2_with fail
  refine HC.out.mono ?_
  intro e w5 hp
  have HF := Lib.hid (HG.out e w5 hp)
  have he := hp.1
  clear hp HC HG
  subst he
  go_wp2
  go_ret
  exact HF.out
theorem dend_all (w : World) (base m o ck : Nat) (s : Ds) (h : DX w base m o ck s) (hp : DPre s) (ha : 0 ≤ s.m.a ∧ s.m.a ≤ 5) (hl9 : s.l.length + 1 ≤ 900000) :
    Calls Tryz.prog 146 #[.pointer (some ⟨m, 0, none⟩), .pointer (some ⟨o, 0, none⟩)] w (DPo w base m o ck (finD s)) := by
  unfold finD endD
  by_cases h0 : s.m.a = 0
  · simp only [if_pos h0]; exact dend_0 w base m o ck s h hp h0 hl9
  · simp only [if_neg h0]
    by_cases h4 : s.m.a = 4
    · simp only [if_pos h4]; rw [if_pos (by decide)]; exact dend_4 w base m o ck s h h4
    · simp only [if_neg h4]
      by_cases h1 : s.m.a = 1
      · simp only [if_pos h1]; rw [if_neg (fun h => h rfl)]; exact dend_1 w base m o ck s h hp h1
      · simp only [if_neg h1]
        have h235 : s.m.a = 2 ∨ s.m.a = 3 ∨ s.m.a = 5 := by omega
        rcases h235 with h2 | h3 | h5
        · exact dend_2 w base m o ck s h hp h2 hl9
        · exact dend_3 w base m o ck s h hp h3 hl9
        · exact dend_5 w base m o ck s h hp h5 hl9
end Go.Proofs.YtalkjgijmceifaaGreatDoor

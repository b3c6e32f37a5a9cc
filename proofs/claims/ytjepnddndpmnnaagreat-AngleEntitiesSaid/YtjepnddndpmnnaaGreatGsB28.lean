/-
  angle: tell: the event of an element or of an attribute, with its full name.
-/
import Derived.Test.YtjepnddndpmnnaaGreatGsB27
namespace Go.Proofs.YtjepnddndpmnnaaGreat
open Go.RowKit Go.Maps
set_option maxRecDepth 100000
set_option linter.unusedSimpArgs false
set_option linter.unusedVariables false
set_option linter.unusedSectionVars false
set_option linter.unusedSectionVars false
variable [Tab] [Fo]

section
variable {w w' : World} {base m o ck e mb g : Nat} {s : As} {M M' : Ag} {av ov : Value}
def kEl (el : Bool) : Int := if el = true then 10 else 11
theorem full_size {sp l f : List UInt8} (h : joinL sp l = some f) : f.length ≤ 48 := by
  unfold joinL at h
  split at h
  · rename_i hc
    have := local_len hc.1
    split at h
    · injection h with h; subst h; omega
    · split at h
      · cases h
      · injection h with h
        subst h
        simp
        omega
  · cases h
/-- What a boxed event and a boxed name leave of a world. -/
theorem box2 (w : World) (o1 o2 : Obj) : Below w.heap.size w ((w.alloc o1).alloc o2) := ((Below.refl _ w).alloc (Nat.le_refl _) o1).alloc (by simp) o2

set_option maxHeartbeats 4000000 in
theorem atell_el_some_ok (n : Na) (v : List UInt8) (h : AX w base m o ck e mb g s) (hg : Good s.st) (hle : s.l.length ≤ 1000000) (hn1 : n.p.length ≤ 1000) (hn2 : n.l.length ≤ 1000) (sp : List UInt8) (hsp : Ns.spaceS n.p s.m.sc = some sp) (hsl : sp.length ≤ 100000) (f : List UInt8) (hj : joinL sp n.l = some f) :
    Calls Tryz.prog 151 #[.pointer (some ⟨m, 0, none⟩), .agg #[.int .i64 10, .string ⟨#[]⟩, .string ⟨v.toArray⟩], .agg #[.string ⟨n.p.toArray⟩, .string ⟨n.l.toArray⟩], .pointer (some ⟨o, 0, none⟩)] w (TPo w base m o ck e mb g (tellA s ⟨10, bs f, bs v⟩)) := by
  have hlt := h.lt
  have hb2 := box2 w (.cells #[.int .i64 10, .string ⟨#[]⟩, .string ⟨v.toArray⟩] 46) (.cells #[.string ⟨n.p.toArray⟩, .string ⟨n.l.toArray⟩] 97)
  obtain ⟨W, hW⟩ : ∃ W, (w.alloc (.cells #[.int .i64 10, .string ⟨#[]⟩, .string ⟨v.toArray⟩] 46)).alloc (.cells #[.string ⟨n.p.toArray⟩, .string ⟨n.l.toArray⟩] 97) = W := ⟨_, rfl⟩
  have k1 : Blk W w.heap.size 46 #[.int .i64 10, .string ⟨#[]⟩, .string ⟨v.toArray⟩] := by rw [← hW]; exact (Blk.new w _ _).alloc _
  have k2 : Blk W (w.heap.size + 1) 97 #[.string ⟨n.p.toArray⟩, .string ⟨n.l.toArray⟩] := by
    rw [← hW]
    have := Blk.new (w.alloc (.cells #[.int .i64 10, .string ⟨#[]⟩, .string ⟨v.toArray⟩] 46)) 97 #[.string ⟨n.p.toArray⟩, .string ⟨n.l.toArray⟩]
    rw [World.size_alloc] at this
    exact this
  rw [hW] at hb2
  have hsz : W.heap.size = w.heap.size + 2 := by rw [← hW]; simp
  have hSE : Ns.SpaceEnd n.p s.m.sc = .returned (.tuple #[.string ⟨sp.toArray⟩, .bool true]) := by unfold Ns.SpaceEnd; rw [hsp]
  have hWd := hb2.trans (below_drew (B := w.heap.size) (Below.refl _ W))
  have hAd := h.below hWd
  have c19 : W.drew.cell? ⟨m, 19, none⟩ = some (.pointer (some ⟨g, 0, none⟩)) := by obtain ⟨_, _, q⟩ := hAd.mc; exact q.cells2.2.2.2.2.2.2.2.2
  have cb2 : W.drew.cell? ⟨w.heap.size + 1, 0, none⟩ = some (.string ⟨n.p.toArray⟩) := k2.cell 0
  have hS := hAd.space n.p hn1
  rw [hSE] at hS
  have HS := Lib.hid hS
  have HP : Hid (∀ w4, Below W.drew.heap.size W.drew w4 → Below w.heap.size w w4 ∧ Blk w4 w.heap.size 46 #[.int .i64 10, .string ⟨#[]⟩, .string ⟨v.toArray⟩] ∧ Blk w4 (w.heap.size + 1) 97 #[.string ⟨n.p.toArray⟩, .string ⟨n.l.toArray⟩] ∧ w4.cell? ⟨m, 19, none⟩ = some (.pointer (some ⟨g, 0, none⟩))) := Lib.hid fun w4 hb => ⟨hWd.trans (hb.mono (by show w.heap.size ≤ W.heap.size; omega)), (show Blk W.drew _ _ _ from k1).below hb (by show w.heap.size < W.heap.size; omega), (show Blk W.drew _ _ _ from k2).below hb (by show w.heap.size + 1 < W.heap.size; omega), (hb.cell (p := ⟨m, 19, none⟩) (by show m < W.heap.size; omega)).trans c19⟩
  have hj' : joinL (⟨(sp : List UInt8).toArray⟩ : ByteArray).data.toList (⟨n.l.toArray⟩ : ByteArray).data.toList = some f := hj
  have hJE : ∀ w4, Calls Tryz.prog 159 #[.string ⟨(sp : List UInt8).toArray⟩, .string ⟨n.l.toArray⟩] w4 fun e w' => e = .returned (.tuple #[.string ⟨f.toArray⟩, .bool true]) ∧ Below w4.heap.size w4 w' := fun w4 => by
    have hq := join_any ⟨(sp : List UInt8).toArray⟩ ⟨n.l.toArray⟩ w4 (by rw [svSize]; omega) (by rw [svSize]; omega)
    unfold JoinEnd at hq
    rw [hj'] at hq
    exact hq
  have HJ := Lib.hid hJE
  have hfl := full_size hj
  have HTl : Hid (∀ w5, Below w.heap.size w w5 → Calls Tryz.prog 133 #[.pointer (some ⟨o, 0, none⟩), .agg #[.int .i64 10, .string ⟨f.toArray⟩, .string ⟨v.toArray⟩], .slice none 0 0] w5 (TPo w base m o ck e mb g (tellA s ⟨10, bs f, bs v⟩))) := Lib.hid fun w5 hb => by
    refine ((h.below hb).tell ⟨10, bs f, bs v⟩ hg (by show (10 : Int) ≠ 3; decide) (by show f.toArray.size ≤ _; simp; omega) hle).mono ?_
    rintro E w' ⟨h1, h2, h3⟩
    exact ⟨h1, h2, (Tch.of_below hb).trans h3⟩
  clear h hg hle hj hj' hJE hsp hSE hWd hAd hS
  go_enter Tryz.func151, Tryz.ntmps151
  have e0 : W.cell? ⟨w.heap.size, 0, none⟩ = some (.int .i64 10) := k1.cell 0
  have e2 : W.cell? ⟨w.heap.size + 1, 0, none⟩ = some (.string ⟨n.p.toArray⟩) := k2.cell 0
  have hlW : w.heap.size + 1 < W.heap.size := k2.lt
  go_wp2
  clear e0 e2 hlW
  refine region_g [11] (S := (fun V => V.cell? ⟨m, 19, none⟩ = some (.pointer (some ⟨g, 0, none⟩)) ∧ V.cell? ⟨w.heap.size + 1, 0, none⟩ = some (.string ⟨n.p.toArray⟩))) (by kernel_rfl) ⟨c19, cb2⟩ (fun hH => ?_)
  refine g_take (i := 0) (v := .pointer (some ⟨m, 0, none⟩)) (by rfl) (by kernel_rfl) (by kernel_rfl) (by kernel_rfl) (by kernel_rfl) (fun _ _ _ h => (by cases h.1)) (Or.inl ⟨by kernel_rfl, fun W hS => (by obtain ⟨s0, s1⟩ := hS; go_simp)⟩) hH ?_
  simp only [Act.put, List.setIfInBounds_toArray, List.set_cons_zero, List.set_cons_succ]
  refine g_take (i := 1) (v := .pointer (some ⟨m, 0, none⟩)) (by rfl) (by kernel_rfl) (by kernel_rfl) (by kernel_rfl) (by kernel_rfl) (fun _ _ _ h => (by cases h.1)) (Or.inl ⟨by kernel_rfl, fun W hS => (by obtain ⟨s0, s1⟩ := hS; go_simp)⟩) hH ?_
  simp only [Act.put, List.setIfInBounds_toArray, List.set_cons_zero, List.set_cons_succ]
  refine g_take (i := 2) (v := .pointer (some ⟨m, 19, none⟩)) (by rfl) (by kernel_rfl) (by kernel_rfl) (by kernel_rfl) (by kernel_rfl) (fun _ _ _ h => (by cases h.1)) (Or.inl ⟨by kernel_rfl, fun W hS => (by obtain ⟨s0, s1⟩ := hS; go_simp)⟩) hH ?_
  simp only [Act.put, List.setIfInBounds_toArray, List.set_cons_zero, List.set_cons_succ]
  refine g_take (i := 3) (v := .pointer (some ⟨g, 0, none⟩)) (by rfl) (by kernel_rfl) (by kernel_rfl) (by kernel_rfl) (by kernel_rfl) (fun _ _ _ h => (by cases h.1)) (Or.inl ⟨by kernel_rfl, fun W hS => (by obtain ⟨s0, s1⟩ := hS; go_simp)⟩) hH ?_
  simp only [Act.put, List.setIfInBounds_toArray, List.set_cons_zero, List.set_cons_succ]
  refine g_take (i := 4) (v := .pointer (some ⟨w.heap.size + 1, 0, none⟩)) (by rfl) (by kernel_rfl) (by kernel_rfl) (by kernel_rfl) (by kernel_rfl) (fun _ _ _ h => (by cases h.1)) (Or.inl ⟨by kernel_rfl, fun W hS => (by obtain ⟨s0, s1⟩ := hS; go_simp)⟩) hH ?_
  simp only [Act.put, List.setIfInBounds_toArray, List.set_cons_zero, List.set_cons_succ]
  refine g_take (i := 5) (v := .string ⟨n.p.toArray⟩) (by rfl) (by kernel_rfl) (by kernel_rfl) (by kernel_rfl) (by kernel_rfl) (fun _ _ _ h => (by cases h.1)) (Or.inl ⟨by kernel_rfl, fun W hS => (by obtain ⟨s0, s1⟩ := hS; go_simp)⟩) hH ?_
  simp only [Act.put, List.setIfInBounds_toArray, List.set_cons_zero, List.set_cons_succ]
  refine g_one (i := 6) (by kernel_rfl) (by rfl) (fun K hK => ?_)
  go_simp
  refine HS.out.mono ?_
  rintro E w4 ⟨rfl, hb4⟩
  obtain ⟨hB4, j1, j2, j19⟩ := HP.out w4 hb4
  have jb2 : w4.cell? ⟨w.heap.size + 1, 0, none⟩ = some (.string ⟨n.p.toArray⟩) := j2.cell 0
  clear hb4
  refine hK.out _ _ (fun _ => ⟨j19, jb2⟩) (fun _ => ?_)
  clear hK K hH
  try simp only [Act.put, List.setIfInBounds_toArray, List.set_cons_zero, List.set_cons_succ]
  have hH : w4.cell? ⟨m, 19, none⟩ = some (.pointer (some ⟨g, 0, none⟩)) ∧ w4.cell? ⟨w.heap.size + 1, 0, none⟩ = some (.string ⟨n.p.toArray⟩) := ⟨j19, jb2⟩
  refine g_take (i := 7) (v := .tuple #[.string ⟨sp.toArray⟩, .bool true]) (by rfl) (by kernel_rfl) (by kernel_rfl) (by kernel_rfl) (by kernel_rfl) (fun _ _ _ h => (by cases h.1)) (Or.inl ⟨by kernel_rfl, fun W hS => (by obtain ⟨s0, s1⟩ := hS; go_simp)⟩) hH ?_
  simp only [Act.put, List.setIfInBounds_toArray, List.set_cons_zero, List.set_cons_succ]
  refine g_take (i := 8) (v := .string ⟨sp.toArray⟩) (by rfl) (by kernel_rfl) (by kernel_rfl) (by kernel_rfl) (by kernel_rfl) (fun _ _ _ h => (by cases h.1)) (Or.inl ⟨by kernel_rfl, fun W hS => (by obtain ⟨s0, s1⟩ := hS; go_simp)⟩) hH ?_
  simp only [Act.put, List.setIfInBounds_toArray, List.set_cons_zero, List.set_cons_succ]
  refine g_take (i := 9) (v := .bool true) (by rfl) (by kernel_rfl) (by kernel_rfl) (by kernel_rfl) (by kernel_rfl) (fun _ _ _ h => (by cases h.1)) (Or.inl ⟨by kernel_rfl, fun W hS => (by obtain ⟨s0, s1⟩ := hS; go_simp)⟩) hH ?_
  simp only [Act.put, List.setIfInBounds_toArray, List.set_cons_zero, List.set_cons_succ]
  refine g_one (i := 10) (by kernel_rfl) (by rfl) (fun K hK => ?_)
  go_simp
  refine hK.out _ _ (fun _ => ⟨j19, jb2⟩) (fun _ => ?_)
  clear hK K hH
  try simp only [Act.put, List.setIfInBounds_toArray, List.set_cons_zero, List.set_cons_succ]
  refine g_one (i := 11) (by kernel_rfl) (by rfl) (fun K hK => ?_)
  go_simp
  refine hK.out _ _ (fun h => absurd (List.mem_singleton.2 rfl) h) (fun _ => ?_)
  clear hK K
  refine g_done (by kernel_rfl) ⟨by first | rfl | trivial, ?_⟩ _
  have r2 : w4.cell? ⟨w.heap.size + 1, 1, none⟩ = some (.string ⟨n.l.toArray⟩) := j2.cell 1
  have q1 : w4.cell? ⟨w.heap.size, 1, none⟩ = some (.string ⟨#[]⟩) := j1.cell 1
  have hl4 : w.heap.size + 1 < w4.heap.size := j2.lt
  have HB4 := Lib.hid hB4
  have HJ1 := Lib.hid j1
  clear j1 j2 j19 hB4 HP HS c19 cb2 k1 k2
  go_wp2_with fail
  refine (HJ.out _).mono ?_
  rintro E w5 ⟨rfl, hb5⟩
  have hB5 := HB4.out.trans (hb5.mono HB4.out.size)
  have i1 := HJ1.out.below hb5 (HJ1.out.lt)
  have p1 : w5.cell? ⟨w.heap.size, 1, none⟩ = some (.string ⟨#[]⟩) := i1.cell 1
  have p0 : w5.cell? ⟨w.heap.size, 0, none⟩ = some (.int .i64 10) := i1.cell 0
  have p2 : w5.cell? ⟨w.heap.size, 2, none⟩ = some (.string ⟨v.toArray⟩) := i1.cell 2
  have pf := i1.frozen 1
  have pl := i1.lt
  have HB6 := Lib.hid (hB5.setCell (p := ⟨w.heap.size, 1, none⟩) (Nat.le_refl _) (.string ⟨f.toArray⟩))
  clear hb5 hB5 i1 HJ1 HB4 HJ
  go_wp2_with fail
  refine (HTl.out _ HB6.out).mono ?_
  intro E w6 hq
  have HF := Lib.hid hq
  have hE := hq.1
  clear hq
  subst hE
  go_wp2
  go_ret
  exact HF.out

set_option maxHeartbeats 4000000 in
theorem atell_el_some_no (n : Na) (v : List UInt8) (h : AX w base m o ck e mb g s) (hg : Good s.st) (hle : s.l.length ≤ 1000000) (hn1 : n.p.length ≤ 1000) (hn2 : n.l.length ≤ 1000) (sp : List UInt8) (hsp : Ns.spaceS n.p s.m.sc = some sp) (hsl : sp.length ≤ 100000) (hj : joinL sp n.l = none) :
    Calls Tryz.prog 151 #[.pointer (some ⟨m, 0, none⟩), .agg #[.int .i64 10, .string ⟨#[]⟩, .string ⟨v.toArray⟩], .agg #[.string ⟨n.p.toArray⟩, .string ⟨n.l.toArray⟩], .pointer (some ⟨o, 0, none⟩)] w (TPo w base m o ck e mb g ⟨s, 18⟩) := by
  have hlt := h.lt
  have hb2 := box2 w (.cells #[.int .i64 10, .string ⟨#[]⟩, .string ⟨v.toArray⟩] 46) (.cells #[.string ⟨n.p.toArray⟩, .string ⟨n.l.toArray⟩] 97)
  obtain ⟨W, hW⟩ : ∃ W, (w.alloc (.cells #[.int .i64 10, .string ⟨#[]⟩, .string ⟨v.toArray⟩] 46)).alloc (.cells #[.string ⟨n.p.toArray⟩, .string ⟨n.l.toArray⟩] 97) = W := ⟨_, rfl⟩
  have k1 : Blk W w.heap.size 46 #[.int .i64 10, .string ⟨#[]⟩, .string ⟨v.toArray⟩] := by rw [← hW]; exact (Blk.new w _ _).alloc _
  have k2 : Blk W (w.heap.size + 1) 97 #[.string ⟨n.p.toArray⟩, .string ⟨n.l.toArray⟩] := by
    rw [← hW]
    have := Blk.new (w.alloc (.cells #[.int .i64 10, .string ⟨#[]⟩, .string ⟨v.toArray⟩] 46)) 97 #[.string ⟨n.p.toArray⟩, .string ⟨n.l.toArray⟩]
    rw [World.size_alloc] at this
    exact this
  rw [hW] at hb2
  have hsz : W.heap.size = w.heap.size + 2 := by rw [← hW]; simp
  have hSE : Ns.SpaceEnd n.p s.m.sc = .returned (.tuple #[.string ⟨sp.toArray⟩, .bool true]) := by unfold Ns.SpaceEnd; rw [hsp]
  have hWd := hb2.trans (below_drew (B := w.heap.size) (Below.refl _ W))
  have hAd := h.below hWd
  have c19 : W.drew.cell? ⟨m, 19, none⟩ = some (.pointer (some ⟨g, 0, none⟩)) := by obtain ⟨_, _, q⟩ := hAd.mc; exact q.cells2.2.2.2.2.2.2.2.2
  have cb2 : W.drew.cell? ⟨w.heap.size + 1, 0, none⟩ = some (.string ⟨n.p.toArray⟩) := k2.cell 0
  have hS := hAd.space n.p hn1
  rw [hSE] at hS
  have HS := Lib.hid hS
  have HP : Hid (∀ w4, Below W.drew.heap.size W.drew w4 → Below w.heap.size w w4 ∧ Blk w4 w.heap.size 46 #[.int .i64 10, .string ⟨#[]⟩, .string ⟨v.toArray⟩] ∧ Blk w4 (w.heap.size + 1) 97 #[.string ⟨n.p.toArray⟩, .string ⟨n.l.toArray⟩] ∧ w4.cell? ⟨m, 19, none⟩ = some (.pointer (some ⟨g, 0, none⟩))) := Lib.hid fun w4 hb => ⟨hWd.trans (hb.mono (by show w.heap.size ≤ W.heap.size; omega)), (show Blk W.drew _ _ _ from k1).below hb (by show w.heap.size < W.heap.size; omega), (show Blk W.drew _ _ _ from k2).below hb (by show w.heap.size + 1 < W.heap.size; omega), (hb.cell (p := ⟨m, 19, none⟩) (by show m < W.heap.size; omega)).trans c19⟩
  have hj' : joinL (⟨(sp : List UInt8).toArray⟩ : ByteArray).data.toList (⟨n.l.toArray⟩ : ByteArray).data.toList = none := hj
  have hJE : ∀ w4, Calls Tryz.prog 159 #[.string ⟨(sp : List UInt8).toArray⟩, .string ⟨n.l.toArray⟩] w4 fun e w' => e = .returned (.tuple #[.string ⟨#[]⟩, .bool false]) ∧ Below w4.heap.size w4 w' := fun w4 => by
    have hq := join_any ⟨(sp : List UInt8).toArray⟩ ⟨n.l.toArray⟩ w4 (by rw [svSize]; omega) (by rw [svSize]; omega)
    unfold JoinEnd at hq
    rw [hj'] at hq
    exact hq
  have HJ := Lib.hid hJE
  have HF : Hid (∀ w5, Below w.heap.size w w5 → TPo w base m o ck e mb g ⟨s, 18⟩ (.returned (.int .i64 18)) w5) := Lib.hid fun w5 hb => ⟨rfl, h.below hb, Tch.of_below hb⟩
  clear h hg hle hj hj' hJE hsp hSE hWd hAd hS
  go_enter Tryz.func151, Tryz.ntmps151
  have e0 : W.cell? ⟨w.heap.size, 0, none⟩ = some (.int .i64 10) := k1.cell 0
  have e2 : W.cell? ⟨w.heap.size + 1, 0, none⟩ = some (.string ⟨n.p.toArray⟩) := k2.cell 0
  have hlW : w.heap.size + 1 < W.heap.size := k2.lt
  go_wp2
  clear e0 e2 hlW
  refine region_g [11] (S := (fun V => V.cell? ⟨m, 19, none⟩ = some (.pointer (some ⟨g, 0, none⟩)) ∧ V.cell? ⟨w.heap.size + 1, 0, none⟩ = some (.string ⟨n.p.toArray⟩))) (by kernel_rfl) ⟨c19, cb2⟩ (fun hH => ?_)
  refine g_take (i := 0) (v := .pointer (some ⟨m, 0, none⟩)) (by rfl) (by kernel_rfl) (by kernel_rfl) (by kernel_rfl) (by kernel_rfl) (fun _ _ _ h => (by cases h.1)) (Or.inl ⟨by kernel_rfl, fun W hS => (by obtain ⟨s0, s1⟩ := hS; go_simp)⟩) hH ?_
  simp only [Act.put, List.setIfInBounds_toArray, List.set_cons_zero, List.set_cons_succ]
  refine g_take (i := 1) (v := .pointer (some ⟨m, 0, none⟩)) (by rfl) (by kernel_rfl) (by kernel_rfl) (by kernel_rfl) (by kernel_rfl) (fun _ _ _ h => (by cases h.1)) (Or.inl ⟨by kernel_rfl, fun W hS => (by obtain ⟨s0, s1⟩ := hS; go_simp)⟩) hH ?_
  simp only [Act.put, List.setIfInBounds_toArray, List.set_cons_zero, List.set_cons_succ]
  refine g_take (i := 2) (v := .pointer (some ⟨m, 19, none⟩)) (by rfl) (by kernel_rfl) (by kernel_rfl) (by kernel_rfl) (by kernel_rfl) (fun _ _ _ h => (by cases h.1)) (Or.inl ⟨by kernel_rfl, fun W hS => (by obtain ⟨s0, s1⟩ := hS; go_simp)⟩) hH ?_
  simp only [Act.put, List.setIfInBounds_toArray, List.set_cons_zero, List.set_cons_succ]
  refine g_take (i := 3) (v := .pointer (some ⟨g, 0, none⟩)) (by rfl) (by kernel_rfl) (by kernel_rfl) (by kernel_rfl) (by kernel_rfl) (fun _ _ _ h => (by cases h.1)) (Or.inl ⟨by kernel_rfl, fun W hS => (by obtain ⟨s0, s1⟩ := hS; go_simp)⟩) hH ?_
  simp only [Act.put, List.setIfInBounds_toArray, List.set_cons_zero, List.set_cons_succ]
  refine g_take (i := 4) (v := .pointer (some ⟨w.heap.size + 1, 0, none⟩)) (by rfl) (by kernel_rfl) (by kernel_rfl) (by kernel_rfl) (by kernel_rfl) (fun _ _ _ h => (by cases h.1)) (Or.inl ⟨by kernel_rfl, fun W hS => (by obtain ⟨s0, s1⟩ := hS; go_simp)⟩) hH ?_
  simp only [Act.put, List.setIfInBounds_toArray, List.set_cons_zero, List.set_cons_succ]
  refine g_take (i := 5) (v := .string ⟨n.p.toArray⟩) (by rfl) (by kernel_rfl) (by kernel_rfl) (by kernel_rfl) (by kernel_rfl) (fun _ _ _ h => (by cases h.1)) (Or.inl ⟨by kernel_rfl, fun W hS => (by obtain ⟨s0, s1⟩ := hS; go_simp)⟩) hH ?_
  simp only [Act.put, List.setIfInBounds_toArray, List.set_cons_zero, List.set_cons_succ]
  refine g_one (i := 6) (by kernel_rfl) (by rfl) (fun K hK => ?_)
  go_simp
  refine HS.out.mono ?_
  rintro E w4 ⟨rfl, hb4⟩
  obtain ⟨hB4, j1, j2, j19⟩ := HP.out w4 hb4
  have jb2 : w4.cell? ⟨w.heap.size + 1, 0, none⟩ = some (.string ⟨n.p.toArray⟩) := j2.cell 0
  clear hb4
  refine hK.out _ _ (fun _ => ⟨j19, jb2⟩) (fun _ => ?_)
  clear hK K hH
  try simp only [Act.put, List.setIfInBounds_toArray, List.set_cons_zero, List.set_cons_succ]
  have hH : w4.cell? ⟨m, 19, none⟩ = some (.pointer (some ⟨g, 0, none⟩)) ∧ w4.cell? ⟨w.heap.size + 1, 0, none⟩ = some (.string ⟨n.p.toArray⟩) := ⟨j19, jb2⟩
  refine g_take (i := 7) (v := .tuple #[.string ⟨sp.toArray⟩, .bool true]) (by rfl) (by kernel_rfl) (by kernel_rfl) (by kernel_rfl) (by kernel_rfl) (fun _ _ _ h => (by cases h.1)) (Or.inl ⟨by kernel_rfl, fun W hS => (by obtain ⟨s0, s1⟩ := hS; go_simp)⟩) hH ?_
  simp only [Act.put, List.setIfInBounds_toArray, List.set_cons_zero, List.set_cons_succ]
  refine g_take (i := 8) (v := .string ⟨sp.toArray⟩) (by rfl) (by kernel_rfl) (by kernel_rfl) (by kernel_rfl) (by kernel_rfl) (fun _ _ _ h => (by cases h.1)) (Or.inl ⟨by kernel_rfl, fun W hS => (by obtain ⟨s0, s1⟩ := hS; go_simp)⟩) hH ?_
  simp only [Act.put, List.setIfInBounds_toArray, List.set_cons_zero, List.set_cons_succ]
  refine g_take (i := 9) (v := .bool true) (by rfl) (by kernel_rfl) (by kernel_rfl) (by kernel_rfl) (by kernel_rfl) (fun _ _ _ h => (by cases h.1)) (Or.inl ⟨by kernel_rfl, fun W hS => (by obtain ⟨s0, s1⟩ := hS; go_simp)⟩) hH ?_
  simp only [Act.put, List.setIfInBounds_toArray, List.set_cons_zero, List.set_cons_succ]
  refine g_one (i := 10) (by kernel_rfl) (by rfl) (fun K hK => ?_)
  go_simp
  refine hK.out _ _ (fun _ => ⟨j19, jb2⟩) (fun _ => ?_)
  clear hK K hH
  try simp only [Act.put, List.setIfInBounds_toArray, List.set_cons_zero, List.set_cons_succ]
  refine g_one (i := 11) (by kernel_rfl) (by rfl) (fun K hK => ?_)
  go_simp
  refine hK.out _ _ (fun h => absurd (List.mem_singleton.2 rfl) h) (fun _ => ?_)
  clear hK K
  refine g_done (by kernel_rfl) ⟨by first | rfl | trivial, ?_⟩ _
  have r2 : w4.cell? ⟨w.heap.size + 1, 1, none⟩ = some (.string ⟨n.l.toArray⟩) := j2.cell 1
  have q1 : w4.cell? ⟨w.heap.size, 1, none⟩ = some (.string ⟨#[]⟩) := j1.cell 1
  have hl4 : w.heap.size + 1 < w4.heap.size := j2.lt
  have HB4 := Lib.hid hB4
  have HJ1 := Lib.hid j1
  clear j1 j2 j19 hB4 HP HS c19 cb2 k1 k2
  go_wp2_with fail
  refine (HJ.out _).mono ?_
  rintro E w5 ⟨rfl, hb5⟩
  have HB5 := Lib.hid (HB4.out.trans (hb5.mono HB4.out.size))
  clear hb5 HJ1 HB4 HJ
  go_wp2
  go_ret
  exact HF.out _ HB5.out

set_option maxHeartbeats 4000000 in
theorem atell_el_emp_ok (n : Na) (v : List UInt8) (h : AX w base m o ck e mb g s) (hg : Good s.st) (hle : s.l.length ≤ 1000000) (hn1 : n.p.length ≤ 1000) (hn2 : n.l.length ≤ 1000) (hsp : Ns.spaceS n.p s.m.sc = none) (hpe : n.p = []) (f : List UInt8) (hj : joinL [] n.l = some f) :
    Calls Tryz.prog 151 #[.pointer (some ⟨m, 0, none⟩), .agg #[.int .i64 10, .string ⟨#[]⟩, .string ⟨v.toArray⟩], .agg #[.string ⟨n.p.toArray⟩, .string ⟨n.l.toArray⟩], .pointer (some ⟨o, 0, none⟩)] w (TPo w base m o ck e mb g (tellA s ⟨10, bs f, bs v⟩)) := by
  have hlt := h.lt
  have hb2 := box2 w (.cells #[.int .i64 10, .string ⟨#[]⟩, .string ⟨v.toArray⟩] 46) (.cells #[.string ⟨n.p.toArray⟩, .string ⟨n.l.toArray⟩] 97)
  obtain ⟨W, hW⟩ : ∃ W, (w.alloc (.cells #[.int .i64 10, .string ⟨#[]⟩, .string ⟨v.toArray⟩] 46)).alloc (.cells #[.string ⟨n.p.toArray⟩, .string ⟨n.l.toArray⟩] 97) = W := ⟨_, rfl⟩
  have k1 : Blk W w.heap.size 46 #[.int .i64 10, .string ⟨#[]⟩, .string ⟨v.toArray⟩] := by rw [← hW]; exact (Blk.new w _ _).alloc _
  have k2 : Blk W (w.heap.size + 1) 97 #[.string ⟨n.p.toArray⟩, .string ⟨n.l.toArray⟩] := by
    rw [← hW]
    have := Blk.new (w.alloc (.cells #[.int .i64 10, .string ⟨#[]⟩, .string ⟨v.toArray⟩] 46)) 97 #[.string ⟨n.p.toArray⟩, .string ⟨n.l.toArray⟩]
    rw [World.size_alloc] at this
    exact this
  rw [hW] at hb2
  have hsz : W.heap.size = w.heap.size + 2 := by rw [← hW]; simp
  have hSE : Ns.SpaceEnd n.p s.m.sc = .returned (.tuple #[.string ⟨#[]⟩, .bool true]) := by unfold Ns.SpaceEnd; rw [hsp]; simp [hpe]
  have hWd := hb2.trans (below_drew (B := w.heap.size) (Below.refl _ W))
  have hAd := h.below hWd
  have c19 : W.drew.cell? ⟨m, 19, none⟩ = some (.pointer (some ⟨g, 0, none⟩)) := by obtain ⟨_, _, q⟩ := hAd.mc; exact q.cells2.2.2.2.2.2.2.2.2
  have cb2 : W.drew.cell? ⟨w.heap.size + 1, 0, none⟩ = some (.string ⟨n.p.toArray⟩) := k2.cell 0
  have hS := hAd.space n.p hn1
  rw [hSE] at hS
  have HS := Lib.hid hS
  have HP : Hid (∀ w4, Below W.drew.heap.size W.drew w4 → Below w.heap.size w w4 ∧ Blk w4 w.heap.size 46 #[.int .i64 10, .string ⟨#[]⟩, .string ⟨v.toArray⟩] ∧ Blk w4 (w.heap.size + 1) 97 #[.string ⟨n.p.toArray⟩, .string ⟨n.l.toArray⟩] ∧ w4.cell? ⟨m, 19, none⟩ = some (.pointer (some ⟨g, 0, none⟩))) := Lib.hid fun w4 hb => ⟨hWd.trans (hb.mono (by show w.heap.size ≤ W.heap.size; omega)), (show Blk W.drew _ _ _ from k1).below hb (by show w.heap.size < W.heap.size; omega), (show Blk W.drew _ _ _ from k2).below hb (by show w.heap.size + 1 < W.heap.size; omega), (hb.cell (p := ⟨m, 19, none⟩) (by show m < W.heap.size; omega)).trans c19⟩
  have hj' : joinL (⟨([] : List UInt8).toArray⟩ : ByteArray).data.toList (⟨n.l.toArray⟩ : ByteArray).data.toList = some f := hj
  have hJE : ∀ w4, Calls Tryz.prog 159 #[.string ⟨([] : List UInt8).toArray⟩, .string ⟨n.l.toArray⟩] w4 fun e w' => e = .returned (.tuple #[.string ⟨f.toArray⟩, .bool true]) ∧ Below w4.heap.size w4 w' := fun w4 => by
    have hq := join_any ⟨([] : List UInt8).toArray⟩ ⟨n.l.toArray⟩ w4 (by rw [svSize]; simp) (by rw [svSize]; omega)
    unfold JoinEnd at hq
    rw [hj'] at hq
    exact hq
  have HJ := Lib.hid hJE
  have hfl := full_size hj
  have HTl : Hid (∀ w5, Below w.heap.size w w5 → Calls Tryz.prog 133 #[.pointer (some ⟨o, 0, none⟩), .agg #[.int .i64 10, .string ⟨f.toArray⟩, .string ⟨v.toArray⟩], .slice none 0 0] w5 (TPo w base m o ck e mb g (tellA s ⟨10, bs f, bs v⟩))) := Lib.hid fun w5 hb => by
    refine ((h.below hb).tell ⟨10, bs f, bs v⟩ hg (by show (10 : Int) ≠ 3; decide) (by show f.toArray.size ≤ _; simp; omega) hle).mono ?_
    rintro E w' ⟨h1, h2, h3⟩
    exact ⟨h1, h2, (Tch.of_below hb).trans h3⟩
  clear h hg hle hj hj' hJE hsp hSE hWd hAd hS hpe
  go_enter Tryz.func151, Tryz.ntmps151
  have e0 : W.cell? ⟨w.heap.size, 0, none⟩ = some (.int .i64 10) := k1.cell 0
  have e2 : W.cell? ⟨w.heap.size + 1, 0, none⟩ = some (.string ⟨n.p.toArray⟩) := k2.cell 0
  have hlW : w.heap.size + 1 < W.heap.size := k2.lt
  go_wp2
  clear e0 e2 hlW
  refine region_g [11] (S := (fun V => V.cell? ⟨m, 19, none⟩ = some (.pointer (some ⟨g, 0, none⟩)) ∧ V.cell? ⟨w.heap.size + 1, 0, none⟩ = some (.string ⟨n.p.toArray⟩))) (by kernel_rfl) ⟨c19, cb2⟩ (fun hH => ?_)
  refine g_take (i := 0) (v := .pointer (some ⟨m, 0, none⟩)) (by rfl) (by kernel_rfl) (by kernel_rfl) (by kernel_rfl) (by kernel_rfl) (fun _ _ _ h => (by cases h.1)) (Or.inl ⟨by kernel_rfl, fun W hS => (by obtain ⟨s0, s1⟩ := hS; go_simp)⟩) hH ?_
  simp only [Act.put, List.setIfInBounds_toArray, List.set_cons_zero, List.set_cons_succ]
  refine g_take (i := 1) (v := .pointer (some ⟨m, 0, none⟩)) (by rfl) (by kernel_rfl) (by kernel_rfl) (by kernel_rfl) (by kernel_rfl) (fun _ _ _ h => (by cases h.1)) (Or.inl ⟨by kernel_rfl, fun W hS => (by obtain ⟨s0, s1⟩ := hS; go_simp)⟩) hH ?_
  simp only [Act.put, List.setIfInBounds_toArray, List.set_cons_zero, List.set_cons_succ]
  refine g_take (i := 2) (v := .pointer (some ⟨m, 19, none⟩)) (by rfl) (by kernel_rfl) (by kernel_rfl) (by kernel_rfl) (by kernel_rfl) (fun _ _ _ h => (by cases h.1)) (Or.inl ⟨by kernel_rfl, fun W hS => (by obtain ⟨s0, s1⟩ := hS; go_simp)⟩) hH ?_
  simp only [Act.put, List.setIfInBounds_toArray, List.set_cons_zero, List.set_cons_succ]
  refine g_take (i := 3) (v := .pointer (some ⟨g, 0, none⟩)) (by rfl) (by kernel_rfl) (by kernel_rfl) (by kernel_rfl) (by kernel_rfl) (fun _ _ _ h => (by cases h.1)) (Or.inl ⟨by kernel_rfl, fun W hS => (by obtain ⟨s0, s1⟩ := hS; go_simp)⟩) hH ?_
  simp only [Act.put, List.setIfInBounds_toArray, List.set_cons_zero, List.set_cons_succ]
  refine g_take (i := 4) (v := .pointer (some ⟨w.heap.size + 1, 0, none⟩)) (by rfl) (by kernel_rfl) (by kernel_rfl) (by kernel_rfl) (by kernel_rfl) (fun _ _ _ h => (by cases h.1)) (Or.inl ⟨by kernel_rfl, fun W hS => (by obtain ⟨s0, s1⟩ := hS; go_simp)⟩) hH ?_
  simp only [Act.put, List.setIfInBounds_toArray, List.set_cons_zero, List.set_cons_succ]
  refine g_take (i := 5) (v := .string ⟨n.p.toArray⟩) (by rfl) (by kernel_rfl) (by kernel_rfl) (by kernel_rfl) (by kernel_rfl) (fun _ _ _ h => (by cases h.1)) (Or.inl ⟨by kernel_rfl, fun W hS => (by obtain ⟨s0, s1⟩ := hS; go_simp)⟩) hH ?_
  simp only [Act.put, List.setIfInBounds_toArray, List.set_cons_zero, List.set_cons_succ]
  refine g_one (i := 6) (by kernel_rfl) (by rfl) (fun K hK => ?_)
  go_simp
  refine HS.out.mono ?_
  rintro E w4 ⟨rfl, hb4⟩
  obtain ⟨hB4, j1, j2, j19⟩ := HP.out w4 hb4
  have jb2 : w4.cell? ⟨w.heap.size + 1, 0, none⟩ = some (.string ⟨n.p.toArray⟩) := j2.cell 0
  clear hb4
  refine hK.out _ _ (fun _ => ⟨j19, jb2⟩) (fun _ => ?_)
  clear hK K hH
  try simp only [Act.put, List.setIfInBounds_toArray, List.set_cons_zero, List.set_cons_succ]
  have hH : w4.cell? ⟨m, 19, none⟩ = some (.pointer (some ⟨g, 0, none⟩)) ∧ w4.cell? ⟨w.heap.size + 1, 0, none⟩ = some (.string ⟨n.p.toArray⟩) := ⟨j19, jb2⟩
  refine g_take (i := 7) (v := .tuple #[.string ⟨#[]⟩, .bool true]) (by rfl) (by kernel_rfl) (by kernel_rfl) (by kernel_rfl) (by kernel_rfl) (fun _ _ _ h => (by cases h.1)) (Or.inl ⟨by kernel_rfl, fun W hS => (by obtain ⟨s0, s1⟩ := hS; go_simp)⟩) hH ?_
  simp only [Act.put, List.setIfInBounds_toArray, List.set_cons_zero, List.set_cons_succ]
  refine g_take (i := 8) (v := .string ⟨#[]⟩) (by rfl) (by kernel_rfl) (by kernel_rfl) (by kernel_rfl) (by kernel_rfl) (fun _ _ _ h => (by cases h.1)) (Or.inl ⟨by kernel_rfl, fun W hS => (by obtain ⟨s0, s1⟩ := hS; go_simp)⟩) hH ?_
  simp only [Act.put, List.setIfInBounds_toArray, List.set_cons_zero, List.set_cons_succ]
  refine g_take (i := 9) (v := .bool true) (by rfl) (by kernel_rfl) (by kernel_rfl) (by kernel_rfl) (by kernel_rfl) (fun _ _ _ h => (by cases h.1)) (Or.inl ⟨by kernel_rfl, fun W hS => (by obtain ⟨s0, s1⟩ := hS; go_simp)⟩) hH ?_
  simp only [Act.put, List.setIfInBounds_toArray, List.set_cons_zero, List.set_cons_succ]
  refine g_one (i := 10) (by kernel_rfl) (by rfl) (fun K hK => ?_)
  go_simp
  refine hK.out _ _ (fun _ => ⟨j19, jb2⟩) (fun _ => ?_)
  clear hK K hH
  try simp only [Act.put, List.setIfInBounds_toArray, List.set_cons_zero, List.set_cons_succ]
  refine g_one (i := 11) (by kernel_rfl) (by rfl) (fun K hK => ?_)
  go_simp
  refine hK.out _ _ (fun h => absurd (List.mem_singleton.2 rfl) h) (fun _ => ?_)
  clear hK K
  refine g_done (by kernel_rfl) ⟨by first | rfl | trivial, ?_⟩ _
  have r2 : w4.cell? ⟨w.heap.size + 1, 1, none⟩ = some (.string ⟨n.l.toArray⟩) := j2.cell 1
  have q1 : w4.cell? ⟨w.heap.size, 1, none⟩ = some (.string ⟨#[]⟩) := j1.cell 1
  have hl4 : w.heap.size + 1 < w4.heap.size := j2.lt
  have HB4 := Lib.hid hB4
  have HJ1 := Lib.hid j1
  clear j1 j2 j19 hB4 HP HS c19 cb2 k1 k2
  go_wp2_with fail
  refine (HJ.out _).mono ?_
  rintro E w5 ⟨rfl, hb5⟩
  have hB5 := HB4.out.trans (hb5.mono HB4.out.size)
  have i1 := HJ1.out.below hb5 (HJ1.out.lt)
  have p1 : w5.cell? ⟨w.heap.size, 1, none⟩ = some (.string ⟨#[]⟩) := i1.cell 1
  have p0 : w5.cell? ⟨w.heap.size, 0, none⟩ = some (.int .i64 10) := i1.cell 0
  have p2 : w5.cell? ⟨w.heap.size, 2, none⟩ = some (.string ⟨v.toArray⟩) := i1.cell 2
  have pf := i1.frozen 1
  have pl := i1.lt
  have HB6 := Lib.hid (hB5.setCell (p := ⟨w.heap.size, 1, none⟩) (Nat.le_refl _) (.string ⟨f.toArray⟩))
  clear hb5 hB5 i1 HJ1 HB4 HJ
  go_wp2_with fail
  refine (HTl.out _ HB6.out).mono ?_
  intro E w6 hq
  have HF := Lib.hid hq
  have hE := hq.1
  clear hq
  subst hE
  go_wp2
  go_ret
  exact HF.out

set_option maxHeartbeats 4000000 in
theorem atell_el_emp_no (n : Na) (v : List UInt8) (h : AX w base m o ck e mb g s) (hg : Good s.st) (hle : s.l.length ≤ 1000000) (hn1 : n.p.length ≤ 1000) (hn2 : n.l.length ≤ 1000) (hsp : Ns.spaceS n.p s.m.sc = none) (hpe : n.p = []) (hj : joinL [] n.l = none) :
    Calls Tryz.prog 151 #[.pointer (some ⟨m, 0, none⟩), .agg #[.int .i64 10, .string ⟨#[]⟩, .string ⟨v.toArray⟩], .agg #[.string ⟨n.p.toArray⟩, .string ⟨n.l.toArray⟩], .pointer (some ⟨o, 0, none⟩)] w (TPo w base m o ck e mb g ⟨s, 18⟩) := by
  have hlt := h.lt
  have hb2 := box2 w (.cells #[.int .i64 10, .string ⟨#[]⟩, .string ⟨v.toArray⟩] 46) (.cells #[.string ⟨n.p.toArray⟩, .string ⟨n.l.toArray⟩] 97)
  obtain ⟨W, hW⟩ : ∃ W, (w.alloc (.cells #[.int .i64 10, .string ⟨#[]⟩, .string ⟨v.toArray⟩] 46)).alloc (.cells #[.string ⟨n.p.toArray⟩, .string ⟨n.l.toArray⟩] 97) = W := ⟨_, rfl⟩
  have k1 : Blk W w.heap.size 46 #[.int .i64 10, .string ⟨#[]⟩, .string ⟨v.toArray⟩] := by rw [← hW]; exact (Blk.new w _ _).alloc _
  have k2 : Blk W (w.heap.size + 1) 97 #[.string ⟨n.p.toArray⟩, .string ⟨n.l.toArray⟩] := by
    rw [← hW]
    have := Blk.new (w.alloc (.cells #[.int .i64 10, .string ⟨#[]⟩, .string ⟨v.toArray⟩] 46)) 97 #[.string ⟨n.p.toArray⟩, .string ⟨n.l.toArray⟩]
    rw [World.size_alloc] at this
    exact this
  rw [hW] at hb2
  have hsz : W.heap.size = w.heap.size + 2 := by rw [← hW]; simp
  have hSE : Ns.SpaceEnd n.p s.m.sc = .returned (.tuple #[.string ⟨#[]⟩, .bool true]) := by unfold Ns.SpaceEnd; rw [hsp]; simp [hpe]
  have hWd := hb2.trans (below_drew (B := w.heap.size) (Below.refl _ W))
  have hAd := h.below hWd
  have c19 : W.drew.cell? ⟨m, 19, none⟩ = some (.pointer (some ⟨g, 0, none⟩)) := by obtain ⟨_, _, q⟩ := hAd.mc; exact q.cells2.2.2.2.2.2.2.2.2
  have cb2 : W.drew.cell? ⟨w.heap.size + 1, 0, none⟩ = some (.string ⟨n.p.toArray⟩) := k2.cell 0
  have hS := hAd.space n.p hn1
  rw [hSE] at hS
  have HS := Lib.hid hS
  have HP : Hid (∀ w4, Below W.drew.heap.size W.drew w4 → Below w.heap.size w w4 ∧ Blk w4 w.heap.size 46 #[.int .i64 10, .string ⟨#[]⟩, .string ⟨v.toArray⟩] ∧ Blk w4 (w.heap.size + 1) 97 #[.string ⟨n.p.toArray⟩, .string ⟨n.l.toArray⟩] ∧ w4.cell? ⟨m, 19, none⟩ = some (.pointer (some ⟨g, 0, none⟩))) := Lib.hid fun w4 hb => ⟨hWd.trans (hb.mono (by show w.heap.size ≤ W.heap.size; omega)), (show Blk W.drew _ _ _ from k1).below hb (by show w.heap.size < W.heap.size; omega), (show Blk W.drew _ _ _ from k2).below hb (by show w.heap.size + 1 < W.heap.size; omega), (hb.cell (p := ⟨m, 19, none⟩) (by show m < W.heap.size; omega)).trans c19⟩
  have hj' : joinL (⟨([] : List UInt8).toArray⟩ : ByteArray).data.toList (⟨n.l.toArray⟩ : ByteArray).data.toList = none := hj
  have hJE : ∀ w4, Calls Tryz.prog 159 #[.string ⟨([] : List UInt8).toArray⟩, .string ⟨n.l.toArray⟩] w4 fun e w' => e = .returned (.tuple #[.string ⟨#[]⟩, .bool false]) ∧ Below w4.heap.size w4 w' := fun w4 => by
    have hq := join_any ⟨([] : List UInt8).toArray⟩ ⟨n.l.toArray⟩ w4 (by rw [svSize]; simp) (by rw [svSize]; omega)
    unfold JoinEnd at hq
    rw [hj'] at hq
    exact hq
  have HJ := Lib.hid hJE
  have HF : Hid (∀ w5, Below w.heap.size w w5 → TPo w base m o ck e mb g ⟨s, 18⟩ (.returned (.int .i64 18)) w5) := Lib.hid fun w5 hb => ⟨rfl, h.below hb, Tch.of_below hb⟩
  clear h hg hle hj hj' hJE hsp hSE hWd hAd hS hpe
  go_enter Tryz.func151, Tryz.ntmps151
  have e0 : W.cell? ⟨w.heap.size, 0, none⟩ = some (.int .i64 10) := k1.cell 0
  have e2 : W.cell? ⟨w.heap.size + 1, 0, none⟩ = some (.string ⟨n.p.toArray⟩) := k2.cell 0
  have hlW : w.heap.size + 1 < W.heap.size := k2.lt
  go_wp2
  clear e0 e2 hlW
  refine region_g [11] (S := (fun V => V.cell? ⟨m, 19, none⟩ = some (.pointer (some ⟨g, 0, none⟩)) ∧ V.cell? ⟨w.heap.size + 1, 0, none⟩ = some (.string ⟨n.p.toArray⟩))) (by kernel_rfl) ⟨c19, cb2⟩ (fun hH => ?_)
  refine g_take (i := 0) (v := .pointer (some ⟨m, 0, none⟩)) (by rfl) (by kernel_rfl) (by kernel_rfl) (by kernel_rfl) (by kernel_rfl) (fun _ _ _ h => (by cases h.1)) (Or.inl ⟨by kernel_rfl, fun W hS => (by obtain ⟨s0, s1⟩ := hS; go_simp)⟩) hH ?_
  simp only [Act.put, List.setIfInBounds_toArray, List.set_cons_zero, List.set_cons_succ]
  refine g_take (i := 1) (v := .pointer (some ⟨m, 0, none⟩)) (by rfl) (by kernel_rfl) (by kernel_rfl) (by kernel_rfl) (by kernel_rfl) (fun _ _ _ h => (by cases h.1)) (Or.inl ⟨by kernel_rfl, fun W hS => (by obtain ⟨s0, s1⟩ := hS; go_simp)⟩) hH ?_
  simp only [Act.put, List.setIfInBounds_toArray, List.set_cons_zero, List.set_cons_succ]
  refine g_take (i := 2) (v := .pointer (some ⟨m, 19, none⟩)) (by rfl) (by kernel_rfl) (by kernel_rfl) (by kernel_rfl) (by kernel_rfl) (fun _ _ _ h => (by cases h.1)) (Or.inl ⟨by kernel_rfl, fun W hS => (by obtain ⟨s0, s1⟩ := hS; go_simp)⟩) hH ?_
  simp only [Act.put, List.setIfInBounds_toArray, List.set_cons_zero, List.set_cons_succ]
  refine g_take (i := 3) (v := .pointer (some ⟨g, 0, none⟩)) (by rfl) (by kernel_rfl) (by kernel_rfl) (by kernel_rfl) (by kernel_rfl) (fun _ _ _ h => (by cases h.1)) (Or.inl ⟨by kernel_rfl, fun W hS => (by obtain ⟨s0, s1⟩ := hS; go_simp)⟩) hH ?_
  simp only [Act.put, List.setIfInBounds_toArray, List.set_cons_zero, List.set_cons_succ]
  refine g_take (i := 4) (v := .pointer (some ⟨w.heap.size + 1, 0, none⟩)) (by rfl) (by kernel_rfl) (by kernel_rfl) (by kernel_rfl) (by kernel_rfl) (fun _ _ _ h => (by cases h.1)) (Or.inl ⟨by kernel_rfl, fun W hS => (by obtain ⟨s0, s1⟩ := hS; go_simp)⟩) hH ?_
  simp only [Act.put, List.setIfInBounds_toArray, List.set_cons_zero, List.set_cons_succ]
  refine g_take (i := 5) (v := .string ⟨n.p.toArray⟩) (by rfl) (by kernel_rfl) (by kernel_rfl) (by kernel_rfl) (by kernel_rfl) (fun _ _ _ h => (by cases h.1)) (Or.inl ⟨by kernel_rfl, fun W hS => (by obtain ⟨s0, s1⟩ := hS; go_simp)⟩) hH ?_
  simp only [Act.put, List.setIfInBounds_toArray, List.set_cons_zero, List.set_cons_succ]
  refine g_one (i := 6) (by kernel_rfl) (by rfl) (fun K hK => ?_)
  go_simp
  refine HS.out.mono ?_
  rintro E w4 ⟨rfl, hb4⟩
  obtain ⟨hB4, j1, j2, j19⟩ := HP.out w4 hb4
  have jb2 : w4.cell? ⟨w.heap.size + 1, 0, none⟩ = some (.string ⟨n.p.toArray⟩) := j2.cell 0
  clear hb4
  refine hK.out _ _ (fun _ => ⟨j19, jb2⟩) (fun _ => ?_)
  clear hK K hH
  try simp only [Act.put, List.setIfInBounds_toArray, List.set_cons_zero, List.set_cons_succ]
  have hH : w4.cell? ⟨m, 19, none⟩ = some (.pointer (some ⟨g, 0, none⟩)) ∧ w4.cell? ⟨w.heap.size + 1, 0, none⟩ = some (.string ⟨n.p.toArray⟩) := ⟨j19, jb2⟩
  refine g_take (i := 7) (v := .tuple #[.string ⟨#[]⟩, .bool true]) (by rfl) (by kernel_rfl) (by kernel_rfl) (by kernel_rfl) (by kernel_rfl) (fun _ _ _ h => (by cases h.1)) (Or.inl ⟨by kernel_rfl, fun W hS => (by obtain ⟨s0, s1⟩ := hS; go_simp)⟩) hH ?_
  simp only [Act.put, List.setIfInBounds_toArray, List.set_cons_zero, List.set_cons_succ]
  refine g_take (i := 8) (v := .string ⟨#[]⟩) (by rfl) (by kernel_rfl) (by kernel_rfl) (by kernel_rfl) (by kernel_rfl) (fun _ _ _ h => (by cases h.1)) (Or.inl ⟨by kernel_rfl, fun W hS => (by obtain ⟨s0, s1⟩ := hS; go_simp)⟩) hH ?_
  simp only [Act.put, List.setIfInBounds_toArray, List.set_cons_zero, List.set_cons_succ]
  refine g_take (i := 9) (v := .bool true) (by rfl) (by kernel_rfl) (by kernel_rfl) (by kernel_rfl) (by kernel_rfl) (fun _ _ _ h => (by cases h.1)) (Or.inl ⟨by kernel_rfl, fun W hS => (by obtain ⟨s0, s1⟩ := hS; go_simp)⟩) hH ?_
  simp only [Act.put, List.setIfInBounds_toArray, List.set_cons_zero, List.set_cons_succ]
  refine g_one (i := 10) (by kernel_rfl) (by rfl) (fun K hK => ?_)
  go_simp
  refine hK.out _ _ (fun _ => ⟨j19, jb2⟩) (fun _ => ?_)
  clear hK K hH
  try simp only [Act.put, List.setIfInBounds_toArray, List.set_cons_zero, List.set_cons_succ]
  refine g_one (i := 11) (by kernel_rfl) (by rfl) (fun K hK => ?_)
  go_simp
  refine hK.out _ _ (fun h => absurd (List.mem_singleton.2 rfl) h) (fun _ => ?_)
  clear hK K
  refine g_done (by kernel_rfl) ⟨by first | rfl | trivial, ?_⟩ _
  have r2 : w4.cell? ⟨w.heap.size + 1, 1, none⟩ = some (.string ⟨n.l.toArray⟩) := j2.cell 1
  have q1 : w4.cell? ⟨w.heap.size, 1, none⟩ = some (.string ⟨#[]⟩) := j1.cell 1
  have hl4 : w.heap.size + 1 < w4.heap.size := j2.lt
  have HB4 := Lib.hid hB4
  have HJ1 := Lib.hid j1
  clear j1 j2 j19 hB4 HP HS c19 cb2 k1 k2
  go_wp2_with fail
  refine (HJ.out _).mono ?_
  rintro E w5 ⟨rfl, hb5⟩
  have HB5 := Lib.hid (HB4.out.trans (hb5.mono HB4.out.size))
  clear hb5 HJ1 HB4 HJ
  go_wp2
  go_ret
  exact HF.out _ HB5.out

set_option maxHeartbeats 4000000 in
theorem atell_el_unb_ok (n : Na) (v : List UInt8) (h : AX w base m o ck e mb g s) (hg : Good s.st) (hle : s.l.length ≤ 1000000) (hn1 : n.p.length ≤ 1000) (hn2 : n.l.length ≤ 1000) (hsp : Ns.spaceS n.p s.m.sc = none) (hpe : n.p ≠ []) (f : List UInt8) (hj : joinL [] n.l = some f) :
    Calls Tryz.prog 151 #[.pointer (some ⟨m, 0, none⟩), .agg #[.int .i64 10, .string ⟨#[]⟩, .string ⟨v.toArray⟩], .agg #[.string ⟨n.p.toArray⟩, .string ⟨n.l.toArray⟩], .pointer (some ⟨o, 0, none⟩)] w (TPo w base m o ck e mb g ⟨s, 18⟩) := by
  have hlt := h.lt
  have hb2 := box2 w (.cells #[.int .i64 10, .string ⟨#[]⟩, .string ⟨v.toArray⟩] 46) (.cells #[.string ⟨n.p.toArray⟩, .string ⟨n.l.toArray⟩] 97)
  obtain ⟨W, hW⟩ : ∃ W, (w.alloc (.cells #[.int .i64 10, .string ⟨#[]⟩, .string ⟨v.toArray⟩] 46)).alloc (.cells #[.string ⟨n.p.toArray⟩, .string ⟨n.l.toArray⟩] 97) = W := ⟨_, rfl⟩
  have k1 : Blk W w.heap.size 46 #[.int .i64 10, .string ⟨#[]⟩, .string ⟨v.toArray⟩] := by rw [← hW]; exact (Blk.new w _ _).alloc _
  have k2 : Blk W (w.heap.size + 1) 97 #[.string ⟨n.p.toArray⟩, .string ⟨n.l.toArray⟩] := by
    rw [← hW]
    have := Blk.new (w.alloc (.cells #[.int .i64 10, .string ⟨#[]⟩, .string ⟨v.toArray⟩] 46)) 97 #[.string ⟨n.p.toArray⟩, .string ⟨n.l.toArray⟩]
    rw [World.size_alloc] at this
    exact this
  rw [hW] at hb2
  have hsz : W.heap.size = w.heap.size + 2 := by rw [← hW]; simp
  have hSE : Ns.SpaceEnd n.p s.m.sc = .returned (.tuple #[.string ⟨#[]⟩, .bool false]) := by unfold Ns.SpaceEnd; rw [hsp]; simp [hpe]
  have hWd := hb2.trans (below_drew (B := w.heap.size) (Below.refl _ W))
  have hAd := h.below hWd
  have c19 : W.drew.cell? ⟨m, 19, none⟩ = some (.pointer (some ⟨g, 0, none⟩)) := by obtain ⟨_, _, q⟩ := hAd.mc; exact q.cells2.2.2.2.2.2.2.2.2
  have cb2 : W.drew.cell? ⟨w.heap.size + 1, 0, none⟩ = some (.string ⟨n.p.toArray⟩) := k2.cell 0
  have hS := hAd.space n.p hn1
  rw [hSE] at hS
  have HS := Lib.hid hS
  have HP : Hid (∀ w4, Below W.drew.heap.size W.drew w4 → Below w.heap.size w w4 ∧ Blk w4 w.heap.size 46 #[.int .i64 10, .string ⟨#[]⟩, .string ⟨v.toArray⟩] ∧ Blk w4 (w.heap.size + 1) 97 #[.string ⟨n.p.toArray⟩, .string ⟨n.l.toArray⟩] ∧ w4.cell? ⟨m, 19, none⟩ = some (.pointer (some ⟨g, 0, none⟩))) := Lib.hid fun w4 hb => ⟨hWd.trans (hb.mono (by show w.heap.size ≤ W.heap.size; omega)), (show Blk W.drew _ _ _ from k1).below hb (by show w.heap.size < W.heap.size; omega), (show Blk W.drew _ _ _ from k2).below hb (by show w.heap.size + 1 < W.heap.size; omega), (hb.cell (p := ⟨m, 19, none⟩) (by show m < W.heap.size; omega)).trans c19⟩
  have hj' : joinL (⟨([] : List UInt8).toArray⟩ : ByteArray).data.toList (⟨n.l.toArray⟩ : ByteArray).data.toList = some f := hj
  have hJE : ∀ w4, Calls Tryz.prog 159 #[.string ⟨([] : List UInt8).toArray⟩, .string ⟨n.l.toArray⟩] w4 fun e w' => e = .returned (.tuple #[.string ⟨f.toArray⟩, .bool true]) ∧ Below w4.heap.size w4 w' := fun w4 => by
    have hq := join_any ⟨([] : List UInt8).toArray⟩ ⟨n.l.toArray⟩ w4 (by rw [svSize]; simp) (by rw [svSize]; omega)
    unfold JoinEnd at hq
    rw [hj'] at hq
    exact hq
  have HJ := Lib.hid hJE
  have HF : Hid (∀ w5, Below w.heap.size w w5 → TPo w base m o ck e mb g ⟨s, 18⟩ (.returned (.int .i64 18)) w5) := Lib.hid fun w5 hb => ⟨rfl, h.below hb, Tch.of_below hb⟩
  clear h hg hle hj hj' hJE hsp hSE hWd hAd hS hpe
  go_enter Tryz.func151, Tryz.ntmps151
  have e0 : W.cell? ⟨w.heap.size, 0, none⟩ = some (.int .i64 10) := k1.cell 0
  have e2 : W.cell? ⟨w.heap.size + 1, 0, none⟩ = some (.string ⟨n.p.toArray⟩) := k2.cell 0
  have hlW : w.heap.size + 1 < W.heap.size := k2.lt
  go_wp2
  clear e0 e2 hlW
  refine region_g [11] (S := (fun V => V.cell? ⟨m, 19, none⟩ = some (.pointer (some ⟨g, 0, none⟩)) ∧ V.cell? ⟨w.heap.size + 1, 0, none⟩ = some (.string ⟨n.p.toArray⟩))) (by kernel_rfl) ⟨c19, cb2⟩ (fun hH => ?_)
  refine g_take (i := 0) (v := .pointer (some ⟨m, 0, none⟩)) (by rfl) (by kernel_rfl) (by kernel_rfl) (by kernel_rfl) (by kernel_rfl) (fun _ _ _ h => (by cases h.1)) (Or.inl ⟨by kernel_rfl, fun W hS => (by obtain ⟨s0, s1⟩ := hS; go_simp)⟩) hH ?_
  simp only [Act.put, List.setIfInBounds_toArray, List.set_cons_zero, List.set_cons_succ]
  refine g_take (i := 1) (v := .pointer (some ⟨m, 0, none⟩)) (by rfl) (by kernel_rfl) (by kernel_rfl) (by kernel_rfl) (by kernel_rfl) (fun _ _ _ h => (by cases h.1)) (Or.inl ⟨by kernel_rfl, fun W hS => (by obtain ⟨s0, s1⟩ := hS; go_simp)⟩) hH ?_
  simp only [Act.put, List.setIfInBounds_toArray, List.set_cons_zero, List.set_cons_succ]
  refine g_take (i := 2) (v := .pointer (some ⟨m, 19, none⟩)) (by rfl) (by kernel_rfl) (by kernel_rfl) (by kernel_rfl) (by kernel_rfl) (fun _ _ _ h => (by cases h.1)) (Or.inl ⟨by kernel_rfl, fun W hS => (by obtain ⟨s0, s1⟩ := hS; go_simp)⟩) hH ?_
  simp only [Act.put, List.setIfInBounds_toArray, List.set_cons_zero, List.set_cons_succ]
  refine g_take (i := 3) (v := .pointer (some ⟨g, 0, none⟩)) (by rfl) (by kernel_rfl) (by kernel_rfl) (by kernel_rfl) (by kernel_rfl) (fun _ _ _ h => (by cases h.1)) (Or.inl ⟨by kernel_rfl, fun W hS => (by obtain ⟨s0, s1⟩ := hS; go_simp)⟩) hH ?_
  simp only [Act.put, List.setIfInBounds_toArray, List.set_cons_zero, List.set_cons_succ]
  refine g_take (i := 4) (v := .pointer (some ⟨w.heap.size + 1, 0, none⟩)) (by rfl) (by kernel_rfl) (by kernel_rfl) (by kernel_rfl) (by kernel_rfl) (fun _ _ _ h => (by cases h.1)) (Or.inl ⟨by kernel_rfl, fun W hS => (by obtain ⟨s0, s1⟩ := hS; go_simp)⟩) hH ?_
  simp only [Act.put, List.setIfInBounds_toArray, List.set_cons_zero, List.set_cons_succ]
  refine g_take (i := 5) (v := .string ⟨n.p.toArray⟩) (by rfl) (by kernel_rfl) (by kernel_rfl) (by kernel_rfl) (by kernel_rfl) (fun _ _ _ h => (by cases h.1)) (Or.inl ⟨by kernel_rfl, fun W hS => (by obtain ⟨s0, s1⟩ := hS; go_simp)⟩) hH ?_
  simp only [Act.put, List.setIfInBounds_toArray, List.set_cons_zero, List.set_cons_succ]
  refine g_one (i := 6) (by kernel_rfl) (by rfl) (fun K hK => ?_)
  go_simp
  refine HS.out.mono ?_
  rintro E w4 ⟨rfl, hb4⟩
  obtain ⟨hB4, j1, j2, j19⟩ := HP.out w4 hb4
  have jb2 : w4.cell? ⟨w.heap.size + 1, 0, none⟩ = some (.string ⟨n.p.toArray⟩) := j2.cell 0
  clear hb4
  refine hK.out _ _ (fun _ => ⟨j19, jb2⟩) (fun _ => ?_)
  clear hK K hH
  try simp only [Act.put, List.setIfInBounds_toArray, List.set_cons_zero, List.set_cons_succ]
  have hH : w4.cell? ⟨m, 19, none⟩ = some (.pointer (some ⟨g, 0, none⟩)) ∧ w4.cell? ⟨w.heap.size + 1, 0, none⟩ = some (.string ⟨n.p.toArray⟩) := ⟨j19, jb2⟩
  refine g_take (i := 7) (v := .tuple #[.string ⟨#[]⟩, .bool false]) (by rfl) (by kernel_rfl) (by kernel_rfl) (by kernel_rfl) (by kernel_rfl) (fun _ _ _ h => (by cases h.1)) (Or.inl ⟨by kernel_rfl, fun W hS => (by obtain ⟨s0, s1⟩ := hS; go_simp)⟩) hH ?_
  simp only [Act.put, List.setIfInBounds_toArray, List.set_cons_zero, List.set_cons_succ]
  refine g_take (i := 8) (v := .string ⟨#[]⟩) (by rfl) (by kernel_rfl) (by kernel_rfl) (by kernel_rfl) (by kernel_rfl) (fun _ _ _ h => (by cases h.1)) (Or.inl ⟨by kernel_rfl, fun W hS => (by obtain ⟨s0, s1⟩ := hS; go_simp)⟩) hH ?_
  simp only [Act.put, List.setIfInBounds_toArray, List.set_cons_zero, List.set_cons_succ]
  refine g_take (i := 9) (v := .bool false) (by rfl) (by kernel_rfl) (by kernel_rfl) (by kernel_rfl) (by kernel_rfl) (fun _ _ _ h => (by cases h.1)) (Or.inl ⟨by kernel_rfl, fun W hS => (by obtain ⟨s0, s1⟩ := hS; go_simp)⟩) hH ?_
  simp only [Act.put, List.setIfInBounds_toArray, List.set_cons_zero, List.set_cons_succ]
  refine g_one (i := 10) (by kernel_rfl) (by rfl) (fun K hK => ?_)
  go_simp
  refine hK.out _ _ (fun _ => ⟨j19, jb2⟩) (fun _ => ?_)
  clear hK K hH
  try simp only [Act.put, List.setIfInBounds_toArray, List.set_cons_zero, List.set_cons_succ]
  refine g_one (i := 11) (by kernel_rfl) (by rfl) (fun K hK => ?_)
  go_simp
  refine hK.out _ _ (fun h => absurd (List.mem_singleton.2 rfl) h) (fun _ => ?_)
  clear hK K
  refine g_done (by kernel_rfl) ⟨by first | rfl | trivial, ?_⟩ _
  have r2 : w4.cell? ⟨w.heap.size + 1, 1, none⟩ = some (.string ⟨n.l.toArray⟩) := j2.cell 1
  have q1 : w4.cell? ⟨w.heap.size, 1, none⟩ = some (.string ⟨#[]⟩) := j1.cell 1
  have hl4 : w.heap.size + 1 < w4.heap.size := j2.lt
  have HB4 := Lib.hid hB4
  have HJ1 := Lib.hid j1
  clear j1 j2 j19 hB4 HP HS c19 cb2 k1 k2
  go_wp2_with fail
  refine (HJ.out _).mono ?_
  rintro E w5 ⟨rfl, hb5⟩
  have HB5 := Lib.hid (HB4.out.trans (hb5.mono HB4.out.size))
  clear hb5 HJ1 HB4 HJ
  go_wp2
  go_ret
  exact HF.out _ HB5.out

set_option maxHeartbeats 4000000 in
theorem atell_el_unb_no (n : Na) (v : List UInt8) (h : AX w base m o ck e mb g s) (hg : Good s.st) (hle : s.l.length ≤ 1000000) (hn1 : n.p.length ≤ 1000) (hn2 : n.l.length ≤ 1000) (hsp : Ns.spaceS n.p s.m.sc = none) (hpe : n.p ≠ []) (hj : joinL [] n.l = none) :
    Calls Tryz.prog 151 #[.pointer (some ⟨m, 0, none⟩), .agg #[.int .i64 10, .string ⟨#[]⟩, .string ⟨v.toArray⟩], .agg #[.string ⟨n.p.toArray⟩, .string ⟨n.l.toArray⟩], .pointer (some ⟨o, 0, none⟩)] w (TPo w base m o ck e mb g ⟨s, 18⟩) := by
  have hlt := h.lt
  have hb2 := box2 w (.cells #[.int .i64 10, .string ⟨#[]⟩, .string ⟨v.toArray⟩] 46) (.cells #[.string ⟨n.p.toArray⟩, .string ⟨n.l.toArray⟩] 97)
  obtain ⟨W, hW⟩ : ∃ W, (w.alloc (.cells #[.int .i64 10, .string ⟨#[]⟩, .string ⟨v.toArray⟩] 46)).alloc (.cells #[.string ⟨n.p.toArray⟩, .string ⟨n.l.toArray⟩] 97) = W := ⟨_, rfl⟩
  have k1 : Blk W w.heap.size 46 #[.int .i64 10, .string ⟨#[]⟩, .string ⟨v.toArray⟩] := by rw [← hW]; exact (Blk.new w _ _).alloc _
  have k2 : Blk W (w.heap.size + 1) 97 #[.string ⟨n.p.toArray⟩, .string ⟨n.l.toArray⟩] := by
    rw [← hW]
    have := Blk.new (w.alloc (.cells #[.int .i64 10, .string ⟨#[]⟩, .string ⟨v.toArray⟩] 46)) 97 #[.string ⟨n.p.toArray⟩, .string ⟨n.l.toArray⟩]
    rw [World.size_alloc] at this
    exact this
  rw [hW] at hb2
  have hsz : W.heap.size = w.heap.size + 2 := by rw [← hW]; simp
  have hSE : Ns.SpaceEnd n.p s.m.sc = .returned (.tuple #[.string ⟨#[]⟩, .bool false]) := by unfold Ns.SpaceEnd; rw [hsp]; simp [hpe]
  have hWd := hb2.trans (below_drew (B := w.heap.size) (Below.refl _ W))
  have hAd := h.below hWd
  have c19 : W.drew.cell? ⟨m, 19, none⟩ = some (.pointer (some ⟨g, 0, none⟩)) := by obtain ⟨_, _, q⟩ := hAd.mc; exact q.cells2.2.2.2.2.2.2.2.2
  have cb2 : W.drew.cell? ⟨w.heap.size + 1, 0, none⟩ = some (.string ⟨n.p.toArray⟩) := k2.cell 0
  have hS := hAd.space n.p hn1
  rw [hSE] at hS
  have HS := Lib.hid hS
  have HP : Hid (∀ w4, Below W.drew.heap.size W.drew w4 → Below w.heap.size w w4 ∧ Blk w4 w.heap.size 46 #[.int .i64 10, .string ⟨#[]⟩, .string ⟨v.toArray⟩] ∧ Blk w4 (w.heap.size + 1) 97 #[.string ⟨n.p.toArray⟩, .string ⟨n.l.toArray⟩] ∧ w4.cell? ⟨m, 19, none⟩ = some (.pointer (some ⟨g, 0, none⟩))) := Lib.hid fun w4 hb => ⟨hWd.trans (hb.mono (by show w.heap.size ≤ W.heap.size; omega)), (show Blk W.drew _ _ _ from k1).below hb (by show w.heap.size < W.heap.size; omega), (show Blk W.drew _ _ _ from k2).below hb (by show w.heap.size + 1 < W.heap.size; omega), (hb.cell (p := ⟨m, 19, none⟩) (by show m < W.heap.size; omega)).trans c19⟩
  have hj' : joinL (⟨([] : List UInt8).toArray⟩ : ByteArray).data.toList (⟨n.l.toArray⟩ : ByteArray).data.toList = none := hj
  have hJE : ∀ w4, Calls Tryz.prog 159 #[.string ⟨([] : List UInt8).toArray⟩, .string ⟨n.l.toArray⟩] w4 fun e w' => e = .returned (.tuple #[.string ⟨#[]⟩, .bool false]) ∧ Below w4.heap.size w4 w' := fun w4 => by
    have hq := join_any ⟨([] : List UInt8).toArray⟩ ⟨n.l.toArray⟩ w4 (by rw [svSize]; simp) (by rw [svSize]; omega)
    unfold JoinEnd at hq
    rw [hj'] at hq
    exact hq
  have HJ := Lib.hid hJE
  have HF : Hid (∀ w5, Below w.heap.size w w5 → TPo w base m o ck e mb g ⟨s, 18⟩ (.returned (.int .i64 18)) w5) := Lib.hid fun w5 hb => ⟨rfl, h.below hb, Tch.of_below hb⟩
  clear h hg hle hj hj' hJE hsp hSE hWd hAd hS hpe
  go_enter Tryz.func151, Tryz.ntmps151
  have e0 : W.cell? ⟨w.heap.size, 0, none⟩ = some (.int .i64 10) := k1.cell 0
  have e2 : W.cell? ⟨w.heap.size + 1, 0, none⟩ = some (.string ⟨n.p.toArray⟩) := k2.cell 0
  have hlW : w.heap.size + 1 < W.heap.size := k2.lt
  go_wp2
  clear e0 e2 hlW
  refine region_g [11] (S := (fun V => V.cell? ⟨m, 19, none⟩ = some (.pointer (some ⟨g, 0, none⟩)) ∧ V.cell? ⟨w.heap.size + 1, 0, none⟩ = some (.string ⟨n.p.toArray⟩))) (by kernel_rfl) ⟨c19, cb2⟩ (fun hH => ?_)
  refine g_take (i := 0) (v := .pointer (some ⟨m, 0, none⟩)) (by rfl) (by kernel_rfl) (by kernel_rfl) (by kernel_rfl) (by kernel_rfl) (fun _ _ _ h => (by cases h.1)) (Or.inl ⟨by kernel_rfl, fun W hS => (by obtain ⟨s0, s1⟩ := hS; go_simp)⟩) hH ?_
  simp only [Act.put, List.setIfInBounds_toArray, List.set_cons_zero, List.set_cons_succ]
  refine g_take (i := 1) (v := .pointer (some ⟨m, 0, none⟩)) (by rfl) (by kernel_rfl) (by kernel_rfl) (by kernel_rfl) (by kernel_rfl) (fun _ _ _ h => (by cases h.1)) (Or.inl ⟨by kernel_rfl, fun W hS => (by obtain ⟨s0, s1⟩ := hS; go_simp)⟩) hH ?_
  simp only [Act.put, List.setIfInBounds_toArray, List.set_cons_zero, List.set_cons_succ]
  refine g_take (i := 2) (v := .pointer (some ⟨m, 19, none⟩)) (by rfl) (by kernel_rfl) (by kernel_rfl) (by kernel_rfl) (by kernel_rfl) (fun _ _ _ h => (by cases h.1)) (Or.inl ⟨by kernel_rfl, fun W hS => (by obtain ⟨s0, s1⟩ := hS; go_simp)⟩) hH ?_
  simp only [Act.put, List.setIfInBounds_toArray, List.set_cons_zero, List.set_cons_succ]
  refine g_take (i := 3) (v := .pointer (some ⟨g, 0, none⟩)) (by rfl) (by kernel_rfl) (by kernel_rfl) (by kernel_rfl) (by kernel_rfl) (fun _ _ _ h => (by cases h.1)) (Or.inl ⟨by kernel_rfl, fun W hS => (by obtain ⟨s0, s1⟩ := hS; go_simp)⟩) hH ?_
  simp only [Act.put, List.setIfInBounds_toArray, List.set_cons_zero, List.set_cons_succ]
  refine g_take (i := 4) (v := .pointer (some ⟨w.heap.size + 1, 0, none⟩)) (by rfl) (by kernel_rfl) (by kernel_rfl) (by kernel_rfl) (by kernel_rfl) (fun _ _ _ h => (by cases h.1)) (Or.inl ⟨by kernel_rfl, fun W hS => (by obtain ⟨s0, s1⟩ := hS; go_simp)⟩) hH ?_
  simp only [Act.put, List.setIfInBounds_toArray, List.set_cons_zero, List.set_cons_succ]
  refine g_take (i := 5) (v := .string ⟨n.p.toArray⟩) (by rfl) (by kernel_rfl) (by kernel_rfl) (by kernel_rfl) (by kernel_rfl) (fun _ _ _ h => (by cases h.1)) (Or.inl ⟨by kernel_rfl, fun W hS => (by obtain ⟨s0, s1⟩ := hS; go_simp)⟩) hH ?_
  simp only [Act.put, List.setIfInBounds_toArray, List.set_cons_zero, List.set_cons_succ]
  refine g_one (i := 6) (by kernel_rfl) (by rfl) (fun K hK => ?_)
  go_simp
  refine HS.out.mono ?_
  rintro E w4 ⟨rfl, hb4⟩
  obtain ⟨hB4, j1, j2, j19⟩ := HP.out w4 hb4
  have jb2 : w4.cell? ⟨w.heap.size + 1, 0, none⟩ = some (.string ⟨n.p.toArray⟩) := j2.cell 0
  clear hb4
  refine hK.out _ _ (fun _ => ⟨j19, jb2⟩) (fun _ => ?_)
  clear hK K hH
  try simp only [Act.put, List.setIfInBounds_toArray, List.set_cons_zero, List.set_cons_succ]
  have hH : w4.cell? ⟨m, 19, none⟩ = some (.pointer (some ⟨g, 0, none⟩)) ∧ w4.cell? ⟨w.heap.size + 1, 0, none⟩ = some (.string ⟨n.p.toArray⟩) := ⟨j19, jb2⟩
  refine g_take (i := 7) (v := .tuple #[.string ⟨#[]⟩, .bool false]) (by rfl) (by kernel_rfl) (by kernel_rfl) (by kernel_rfl) (by kernel_rfl) (fun _ _ _ h => (by cases h.1)) (Or.inl ⟨by kernel_rfl, fun W hS => (by obtain ⟨s0, s1⟩ := hS; go_simp)⟩) hH ?_
  simp only [Act.put, List.setIfInBounds_toArray, List.set_cons_zero, List.set_cons_succ]
  refine g_take (i := 8) (v := .string ⟨#[]⟩) (by rfl) (by kernel_rfl) (by kernel_rfl) (by kernel_rfl) (by kernel_rfl) (fun _ _ _ h => (by cases h.1)) (Or.inl ⟨by kernel_rfl, fun W hS => (by obtain ⟨s0, s1⟩ := hS; go_simp)⟩) hH ?_
  simp only [Act.put, List.setIfInBounds_toArray, List.set_cons_zero, List.set_cons_succ]
  refine g_take (i := 9) (v := .bool false) (by rfl) (by kernel_rfl) (by kernel_rfl) (by kernel_rfl) (by kernel_rfl) (fun _ _ _ h => (by cases h.1)) (Or.inl ⟨by kernel_rfl, fun W hS => (by obtain ⟨s0, s1⟩ := hS; go_simp)⟩) hH ?_
  simp only [Act.put, List.setIfInBounds_toArray, List.set_cons_zero, List.set_cons_succ]
  refine g_one (i := 10) (by kernel_rfl) (by rfl) (fun K hK => ?_)
  go_simp
  refine hK.out _ _ (fun _ => ⟨j19, jb2⟩) (fun _ => ?_)
  clear hK K hH
  try simp only [Act.put, List.setIfInBounds_toArray, List.set_cons_zero, List.set_cons_succ]
  refine g_one (i := 11) (by kernel_rfl) (by rfl) (fun K hK => ?_)
  go_simp
  refine hK.out _ _ (fun h => absurd (List.mem_singleton.2 rfl) h) (fun _ => ?_)
  clear hK K
  refine g_done (by kernel_rfl) ⟨by first | rfl | trivial, ?_⟩ _
  have r2 : w4.cell? ⟨w.heap.size + 1, 1, none⟩ = some (.string ⟨n.l.toArray⟩) := j2.cell 1
  have q1 : w4.cell? ⟨w.heap.size, 1, none⟩ = some (.string ⟨#[]⟩) := j1.cell 1
  have hl4 : w.heap.size + 1 < w4.heap.size := j2.lt
  have HB4 := Lib.hid hB4
  have HJ1 := Lib.hid j1
  clear j1 j2 j19 hB4 HP HS c19 cb2 k1 k2
  go_wp2_with fail
  refine (HJ.out _).mono ?_
  rintro E w5 ⟨rfl, hb5⟩
  have HB5 := Lib.hid (HB4.out.trans (hb5.mono HB4.out.size))
  clear hb5 HJ1 HB4 HJ
  go_wp2
  go_ret
  exact HF.out _ HB5.out

set_option maxHeartbeats 4000000 in
theorem atell_pre_some_ok (n : Na) (v : List UInt8) (h : AX w base m o ck e mb g s) (hg : Good s.st) (hle : s.l.length ≤ 1000000) (hn1 : n.p.length ≤ 1000) (hn2 : n.l.length ≤ 1000) (hp : n.p ≠ []) (sp : List UInt8) (hsp : Ns.spaceS n.p s.m.sc = some sp) (hsl : sp.length ≤ 100000) (f : List UInt8) (hj : joinL sp n.l = some f) :
    Calls Tryz.prog 151 #[.pointer (some ⟨m, 0, none⟩), .agg #[.int .i64 11, .string ⟨#[]⟩, .string ⟨v.toArray⟩], .agg #[.string ⟨n.p.toArray⟩, .string ⟨n.l.toArray⟩], .pointer (some ⟨o, 0, none⟩)] w (TPo w base m o ck e mb g (tellA s ⟨11, bs f, bs v⟩)) := by
  have hlt := h.lt
  have hb2 := box2 w (.cells #[.int .i64 11, .string ⟨#[]⟩, .string ⟨v.toArray⟩] 46) (.cells #[.string ⟨n.p.toArray⟩, .string ⟨n.l.toArray⟩] 97)
  obtain ⟨W, hW⟩ : ∃ W, (w.alloc (.cells #[.int .i64 11, .string ⟨#[]⟩, .string ⟨v.toArray⟩] 46)).alloc (.cells #[.string ⟨n.p.toArray⟩, .string ⟨n.l.toArray⟩] 97) = W := ⟨_, rfl⟩
  have k1 : Blk W w.heap.size 46 #[.int .i64 11, .string ⟨#[]⟩, .string ⟨v.toArray⟩] := by rw [← hW]; exact (Blk.new w _ _).alloc _
  have k2 : Blk W (w.heap.size + 1) 97 #[.string ⟨n.p.toArray⟩, .string ⟨n.l.toArray⟩] := by
    rw [← hW]
    have := Blk.new (w.alloc (.cells #[.int .i64 11, .string ⟨#[]⟩, .string ⟨v.toArray⟩] 46)) 97 #[.string ⟨n.p.toArray⟩, .string ⟨n.l.toArray⟩]
    rw [World.size_alloc] at this
    exact this
  rw [hW] at hb2
  have hsz : W.heap.size = w.heap.size + 2 := by rw [← hW]; simp
  have hpz := strEmp hp
  have hpz2 : n.p.isEmpty = false := by cases hq : n.p with | nil => exact absurd hq hp | cons _ _ => rfl
  have hSE : Ns.SpaceEnd n.p s.m.sc = .returned (.tuple #[.string ⟨sp.toArray⟩, .bool true]) := by unfold Ns.SpaceEnd; rw [hsp]
  have hWd := hb2.trans (below_drew (B := w.heap.size) (Below.refl _ W))
  have hAd := h.below hWd
  have c19 : W.drew.cell? ⟨m, 19, none⟩ = some (.pointer (some ⟨g, 0, none⟩)) := by obtain ⟨_, _, q⟩ := hAd.mc; exact q.cells2.2.2.2.2.2.2.2.2
  have cb2 : W.drew.cell? ⟨w.heap.size + 1, 0, none⟩ = some (.string ⟨n.p.toArray⟩) := k2.cell 0
  have hS := hAd.space n.p hn1
  rw [hSE] at hS
  have HS := Lib.hid hS
  have HP : Hid (∀ w4, Below W.drew.heap.size W.drew w4 → Below w.heap.size w w4 ∧ Blk w4 w.heap.size 46 #[.int .i64 11, .string ⟨#[]⟩, .string ⟨v.toArray⟩] ∧ Blk w4 (w.heap.size + 1) 97 #[.string ⟨n.p.toArray⟩, .string ⟨n.l.toArray⟩] ∧ w4.cell? ⟨m, 19, none⟩ = some (.pointer (some ⟨g, 0, none⟩))) := Lib.hid fun w4 hb => ⟨hWd.trans (hb.mono (by show w.heap.size ≤ W.heap.size; omega)), (show Blk W.drew _ _ _ from k1).below hb (by show w.heap.size < W.heap.size; omega), (show Blk W.drew _ _ _ from k2).below hb (by show w.heap.size + 1 < W.heap.size; omega), (hb.cell (p := ⟨m, 19, none⟩) (by show m < W.heap.size; omega)).trans c19⟩
  have hj' : joinL (⟨(sp : List UInt8).toArray⟩ : ByteArray).data.toList (⟨n.l.toArray⟩ : ByteArray).data.toList = some f := hj
  have hJE : ∀ w4, Calls Tryz.prog 159 #[.string ⟨(sp : List UInt8).toArray⟩, .string ⟨n.l.toArray⟩] w4 fun e w' => e = .returned (.tuple #[.string ⟨f.toArray⟩, .bool true]) ∧ Below w4.heap.size w4 w' := fun w4 => by
    have hq := join_any ⟨(sp : List UInt8).toArray⟩ ⟨n.l.toArray⟩ w4 (by rw [svSize]; omega) (by rw [svSize]; omega)
    unfold JoinEnd at hq
    rw [hj'] at hq
    exact hq
  have HJ := Lib.hid hJE
  have hfl := full_size hj
  have HTl : Hid (∀ w5, Below w.heap.size w w5 → Calls Tryz.prog 133 #[.pointer (some ⟨o, 0, none⟩), .agg #[.int .i64 11, .string ⟨f.toArray⟩, .string ⟨v.toArray⟩], .slice none 0 0] w5 (TPo w base m o ck e mb g (tellA s ⟨11, bs f, bs v⟩))) := Lib.hid fun w5 hb => by
    refine ((h.below hb).tell ⟨11, bs f, bs v⟩ hg (by show (11 : Int) ≠ 3; decide) (by show f.toArray.size ≤ _; simp; omega) hle).mono ?_
    rintro E w' ⟨h1, h2, h3⟩
    exact ⟨h1, h2, (Tch.of_below hb).trans h3⟩
  clear h hg hle hj hj' hJE hp hsp hSE hWd hAd hS
  go_enter Tryz.func151, Tryz.ntmps151
  have e0 : W.cell? ⟨w.heap.size, 0, none⟩ = some (.int .i64 11) := k1.cell 0
  have e2 : W.cell? ⟨w.heap.size + 1, 0, none⟩ = some (.string ⟨n.p.toArray⟩) := k2.cell 0
  have hlW : w.heap.size + 1 < W.heap.size := k2.lt
  go_wp2
  clear e0 e2 hlW
  refine region_g [11] (S := (fun V => V.cell? ⟨m, 19, none⟩ = some (.pointer (some ⟨g, 0, none⟩)) ∧ V.cell? ⟨w.heap.size + 1, 0, none⟩ = some (.string ⟨n.p.toArray⟩))) (by kernel_rfl) ⟨c19, cb2⟩ (fun hH => ?_)
  refine g_take (i := 0) (v := .pointer (some ⟨m, 0, none⟩)) (by rfl) (by kernel_rfl) (by kernel_rfl) (by kernel_rfl) (by kernel_rfl) (fun _ _ _ h => (by cases h.1)) (Or.inl ⟨by kernel_rfl, fun W hS => (by obtain ⟨s0, s1⟩ := hS; go_simp)⟩) hH ?_
  simp only [Act.put, List.setIfInBounds_toArray, List.set_cons_zero, List.set_cons_succ]
  refine g_take (i := 1) (v := .pointer (some ⟨m, 0, none⟩)) (by rfl) (by kernel_rfl) (by kernel_rfl) (by kernel_rfl) (by kernel_rfl) (fun _ _ _ h => (by cases h.1)) (Or.inl ⟨by kernel_rfl, fun W hS => (by obtain ⟨s0, s1⟩ := hS; go_simp)⟩) hH ?_
  simp only [Act.put, List.setIfInBounds_toArray, List.set_cons_zero, List.set_cons_succ]
  refine g_take (i := 2) (v := .pointer (some ⟨m, 19, none⟩)) (by rfl) (by kernel_rfl) (by kernel_rfl) (by kernel_rfl) (by kernel_rfl) (fun _ _ _ h => (by cases h.1)) (Or.inl ⟨by kernel_rfl, fun W hS => (by obtain ⟨s0, s1⟩ := hS; go_simp)⟩) hH ?_
  simp only [Act.put, List.setIfInBounds_toArray, List.set_cons_zero, List.set_cons_succ]
  refine g_take (i := 3) (v := .pointer (some ⟨g, 0, none⟩)) (by rfl) (by kernel_rfl) (by kernel_rfl) (by kernel_rfl) (by kernel_rfl) (fun _ _ _ h => (by cases h.1)) (Or.inl ⟨by kernel_rfl, fun W hS => (by obtain ⟨s0, s1⟩ := hS; go_simp)⟩) hH ?_
  simp only [Act.put, List.setIfInBounds_toArray, List.set_cons_zero, List.set_cons_succ]
  refine g_take (i := 4) (v := .pointer (some ⟨w.heap.size + 1, 0, none⟩)) (by rfl) (by kernel_rfl) (by kernel_rfl) (by kernel_rfl) (by kernel_rfl) (fun _ _ _ h => (by cases h.1)) (Or.inl ⟨by kernel_rfl, fun W hS => (by obtain ⟨s0, s1⟩ := hS; go_simp)⟩) hH ?_
  simp only [Act.put, List.setIfInBounds_toArray, List.set_cons_zero, List.set_cons_succ]
  refine g_take (i := 5) (v := .string ⟨n.p.toArray⟩) (by rfl) (by kernel_rfl) (by kernel_rfl) (by kernel_rfl) (by kernel_rfl) (fun _ _ _ h => (by cases h.1)) (Or.inl ⟨by kernel_rfl, fun W hS => (by obtain ⟨s0, s1⟩ := hS; go_simp)⟩) hH ?_
  simp only [Act.put, List.setIfInBounds_toArray, List.set_cons_zero, List.set_cons_succ]
  refine g_one (i := 6) (by kernel_rfl) (by rfl) (fun K hK => ?_)
  go_simp
  refine HS.out.mono ?_
  rintro E w4 ⟨rfl, hb4⟩
  obtain ⟨hB4, j1, j2, j19⟩ := HP.out w4 hb4
  have jb2 : w4.cell? ⟨w.heap.size + 1, 0, none⟩ = some (.string ⟨n.p.toArray⟩) := j2.cell 0
  clear hb4
  refine hK.out _ _ (fun _ => ⟨j19, jb2⟩) (fun _ => ?_)
  clear hK K hH
  try simp only [Act.put, List.setIfInBounds_toArray, List.set_cons_zero, List.set_cons_succ]
  have hH : w4.cell? ⟨m, 19, none⟩ = some (.pointer (some ⟨g, 0, none⟩)) ∧ w4.cell? ⟨w.heap.size + 1, 0, none⟩ = some (.string ⟨n.p.toArray⟩) := ⟨j19, jb2⟩
  refine g_take (i := 7) (v := .tuple #[.string ⟨sp.toArray⟩, .bool true]) (by rfl) (by kernel_rfl) (by kernel_rfl) (by kernel_rfl) (by kernel_rfl) (fun _ _ _ h => (by cases h.1)) (Or.inl ⟨by kernel_rfl, fun W hS => (by obtain ⟨s0, s1⟩ := hS; go_simp)⟩) hH ?_
  simp only [Act.put, List.setIfInBounds_toArray, List.set_cons_zero, List.set_cons_succ]
  refine g_take (i := 8) (v := .string ⟨sp.toArray⟩) (by rfl) (by kernel_rfl) (by kernel_rfl) (by kernel_rfl) (by kernel_rfl) (fun _ _ _ h => (by cases h.1)) (Or.inl ⟨by kernel_rfl, fun W hS => (by obtain ⟨s0, s1⟩ := hS; go_simp)⟩) hH ?_
  simp only [Act.put, List.setIfInBounds_toArray, List.set_cons_zero, List.set_cons_succ]
  refine g_take (i := 9) (v := .bool true) (by rfl) (by kernel_rfl) (by kernel_rfl) (by kernel_rfl) (by kernel_rfl) (fun _ _ _ h => (by cases h.1)) (Or.inl ⟨by kernel_rfl, fun W hS => (by obtain ⟨s0, s1⟩ := hS; go_simp)⟩) hH ?_
  simp only [Act.put, List.setIfInBounds_toArray, List.set_cons_zero, List.set_cons_succ]
  refine g_one (i := 10) (by kernel_rfl) (by rfl) (fun K hK => ?_)
  go_simp
  refine hK.out _ _ (fun _ => ⟨j19, jb2⟩) (fun _ => ?_)
  clear hK K hH
  try simp only [Act.put, List.setIfInBounds_toArray, List.set_cons_zero, List.set_cons_succ]
  refine g_one (i := 11) (by kernel_rfl) (by rfl) (fun K hK => ?_)
  go_simp
  refine hK.out _ _ (fun h => absurd (List.mem_singleton.2 rfl) h) (fun _ => ?_)
  clear hK K
  refine g_done (by kernel_rfl) ⟨by first | rfl | trivial, ?_⟩ _
  have r2 : w4.cell? ⟨w.heap.size + 1, 1, none⟩ = some (.string ⟨n.l.toArray⟩) := j2.cell 1
  have q1 : w4.cell? ⟨w.heap.size, 1, none⟩ = some (.string ⟨#[]⟩) := j1.cell 1
  have hl4 : w.heap.size + 1 < w4.heap.size := j2.lt
  have HB4 := Lib.hid hB4
  have HJ1 := Lib.hid j1
  clear j1 j2 j19 hB4 HP HS c19 cb2 k1 k2
  go_wp2_with fail
  refine (HJ.out _).mono ?_
  rintro E w5 ⟨rfl, hb5⟩
  have hB5 := HB4.out.trans (hb5.mono HB4.out.size)
  have i1 := HJ1.out.below hb5 (HJ1.out.lt)
  have p1 : w5.cell? ⟨w.heap.size, 1, none⟩ = some (.string ⟨#[]⟩) := i1.cell 1
  have p0 : w5.cell? ⟨w.heap.size, 0, none⟩ = some (.int .i64 11) := i1.cell 0
  have p2 : w5.cell? ⟨w.heap.size, 2, none⟩ = some (.string ⟨v.toArray⟩) := i1.cell 2
  have pf := i1.frozen 1
  have pl := i1.lt
  have HB6 := Lib.hid (hB5.setCell (p := ⟨w.heap.size, 1, none⟩) (Nat.le_refl _) (.string ⟨f.toArray⟩))
  clear hb5 hB5 i1 HJ1 HB4 HJ
  go_wp2_with fail
  refine (HTl.out _ HB6.out).mono ?_
  intro E w6 hq
  have HF := Lib.hid hq
  have hE := hq.1
  clear hq
  subst hE
  go_wp2
  go_ret
  exact HF.out

set_option maxHeartbeats 4000000 in
theorem atell_pre_some_no (n : Na) (v : List UInt8) (h : AX w base m o ck e mb g s) (hg : Good s.st) (hle : s.l.length ≤ 1000000) (hn1 : n.p.length ≤ 1000) (hn2 : n.l.length ≤ 1000) (hp : n.p ≠ []) (sp : List UInt8) (hsp : Ns.spaceS n.p s.m.sc = some sp) (hsl : sp.length ≤ 100000) (hj : joinL sp n.l = none) :
    Calls Tryz.prog 151 #[.pointer (some ⟨m, 0, none⟩), .agg #[.int .i64 11, .string ⟨#[]⟩, .string ⟨v.toArray⟩], .agg #[.string ⟨n.p.toArray⟩, .string ⟨n.l.toArray⟩], .pointer (some ⟨o, 0, none⟩)] w (TPo w base m o ck e mb g ⟨s, 18⟩) := by
  have hlt := h.lt
  have hb2 := box2 w (.cells #[.int .i64 11, .string ⟨#[]⟩, .string ⟨v.toArray⟩] 46) (.cells #[.string ⟨n.p.toArray⟩, .string ⟨n.l.toArray⟩] 97)
  obtain ⟨W, hW⟩ : ∃ W, (w.alloc (.cells #[.int .i64 11, .string ⟨#[]⟩, .string ⟨v.toArray⟩] 46)).alloc (.cells #[.string ⟨n.p.toArray⟩, .string ⟨n.l.toArray⟩] 97) = W := ⟨_, rfl⟩
  have k1 : Blk W w.heap.size 46 #[.int .i64 11, .string ⟨#[]⟩, .string ⟨v.toArray⟩] := by rw [← hW]; exact (Blk.new w _ _).alloc _
  have k2 : Blk W (w.heap.size + 1) 97 #[.string ⟨n.p.toArray⟩, .string ⟨n.l.toArray⟩] := by
    rw [← hW]
    have := Blk.new (w.alloc (.cells #[.int .i64 11, .string ⟨#[]⟩, .string ⟨v.toArray⟩] 46)) 97 #[.string ⟨n.p.toArray⟩, .string ⟨n.l.toArray⟩]
    rw [World.size_alloc] at this
    exact this
  rw [hW] at hb2
  have hsz : W.heap.size = w.heap.size + 2 := by rw [← hW]; simp
  have hpz := strEmp hp
  have hpz2 : n.p.isEmpty = false := by cases hq : n.p with | nil => exact absurd hq hp | cons _ _ => rfl
  have hSE : Ns.SpaceEnd n.p s.m.sc = .returned (.tuple #[.string ⟨sp.toArray⟩, .bool true]) := by unfold Ns.SpaceEnd; rw [hsp]
  have hWd := hb2.trans (below_drew (B := w.heap.size) (Below.refl _ W))
  have hAd := h.below hWd
  have c19 : W.drew.cell? ⟨m, 19, none⟩ = some (.pointer (some ⟨g, 0, none⟩)) := by obtain ⟨_, _, q⟩ := hAd.mc; exact q.cells2.2.2.2.2.2.2.2.2
  have cb2 : W.drew.cell? ⟨w.heap.size + 1, 0, none⟩ = some (.string ⟨n.p.toArray⟩) := k2.cell 0
  have hS := hAd.space n.p hn1
  rw [hSE] at hS
  have HS := Lib.hid hS
  have HP : Hid (∀ w4, Below W.drew.heap.size W.drew w4 → Below w.heap.size w w4 ∧ Blk w4 w.heap.size 46 #[.int .i64 11, .string ⟨#[]⟩, .string ⟨v.toArray⟩] ∧ Blk w4 (w.heap.size + 1) 97 #[.string ⟨n.p.toArray⟩, .string ⟨n.l.toArray⟩] ∧ w4.cell? ⟨m, 19, none⟩ = some (.pointer (some ⟨g, 0, none⟩))) := Lib.hid fun w4 hb => ⟨hWd.trans (hb.mono (by show w.heap.size ≤ W.heap.size; omega)), (show Blk W.drew _ _ _ from k1).below hb (by show w.heap.size < W.heap.size; omega), (show Blk W.drew _ _ _ from k2).below hb (by show w.heap.size + 1 < W.heap.size; omega), (hb.cell (p := ⟨m, 19, none⟩) (by show m < W.heap.size; omega)).trans c19⟩
  have hj' : joinL (⟨(sp : List UInt8).toArray⟩ : ByteArray).data.toList (⟨n.l.toArray⟩ : ByteArray).data.toList = none := hj
  have hJE : ∀ w4, Calls Tryz.prog 159 #[.string ⟨(sp : List UInt8).toArray⟩, .string ⟨n.l.toArray⟩] w4 fun e w' => e = .returned (.tuple #[.string ⟨#[]⟩, .bool false]) ∧ Below w4.heap.size w4 w' := fun w4 => by
    have hq := join_any ⟨(sp : List UInt8).toArray⟩ ⟨n.l.toArray⟩ w4 (by rw [svSize]; omega) (by rw [svSize]; omega)
    unfold JoinEnd at hq
    rw [hj'] at hq
    exact hq
  have HJ := Lib.hid hJE
  have HF : Hid (∀ w5, Below w.heap.size w w5 → TPo w base m o ck e mb g ⟨s, 18⟩ (.returned (.int .i64 18)) w5) := Lib.hid fun w5 hb => ⟨rfl, h.below hb, Tch.of_below hb⟩
  clear h hg hle hj hj' hJE hp hsp hSE hWd hAd hS
  go_enter Tryz.func151, Tryz.ntmps151
  have e0 : W.cell? ⟨w.heap.size, 0, none⟩ = some (.int .i64 11) := k1.cell 0
  have e2 : W.cell? ⟨w.heap.size + 1, 0, none⟩ = some (.string ⟨n.p.toArray⟩) := k2.cell 0
  have hlW : w.heap.size + 1 < W.heap.size := k2.lt
  go_wp2
  clear e0 e2 hlW
  refine region_g [11] (S := (fun V => V.cell? ⟨m, 19, none⟩ = some (.pointer (some ⟨g, 0, none⟩)) ∧ V.cell? ⟨w.heap.size + 1, 0, none⟩ = some (.string ⟨n.p.toArray⟩))) (by kernel_rfl) ⟨c19, cb2⟩ (fun hH => ?_)
  refine g_take (i := 0) (v := .pointer (some ⟨m, 0, none⟩)) (by rfl) (by kernel_rfl) (by kernel_rfl) (by kernel_rfl) (by kernel_rfl) (fun _ _ _ h => (by cases h.1)) (Or.inl ⟨by kernel_rfl, fun W hS => (by obtain ⟨s0, s1⟩ := hS; go_simp)⟩) hH ?_
  simp only [Act.put, List.setIfInBounds_toArray, List.set_cons_zero, List.set_cons_succ]
  refine g_take (i := 1) (v := .pointer (some ⟨m, 0, none⟩)) (by rfl) (by kernel_rfl) (by kernel_rfl) (by kernel_rfl) (by kernel_rfl) (fun _ _ _ h => (by cases h.1)) (Or.inl ⟨by kernel_rfl, fun W hS => (by obtain ⟨s0, s1⟩ := hS; go_simp)⟩) hH ?_
  simp only [Act.put, List.setIfInBounds_toArray, List.set_cons_zero, List.set_cons_succ]
  refine g_take (i := 2) (v := .pointer (some ⟨m, 19, none⟩)) (by rfl) (by kernel_rfl) (by kernel_rfl) (by kernel_rfl) (by kernel_rfl) (fun _ _ _ h => (by cases h.1)) (Or.inl ⟨by kernel_rfl, fun W hS => (by obtain ⟨s0, s1⟩ := hS; go_simp)⟩) hH ?_
  simp only [Act.put, List.setIfInBounds_toArray, List.set_cons_zero, List.set_cons_succ]
  refine g_take (i := 3) (v := .pointer (some ⟨g, 0, none⟩)) (by rfl) (by kernel_rfl) (by kernel_rfl) (by kernel_rfl) (by kernel_rfl) (fun _ _ _ h => (by cases h.1)) (Or.inl ⟨by kernel_rfl, fun W hS => (by obtain ⟨s0, s1⟩ := hS; go_simp)⟩) hH ?_
  simp only [Act.put, List.setIfInBounds_toArray, List.set_cons_zero, List.set_cons_succ]
  refine g_take (i := 4) (v := .pointer (some ⟨w.heap.size + 1, 0, none⟩)) (by rfl) (by kernel_rfl) (by kernel_rfl) (by kernel_rfl) (by kernel_rfl) (fun _ _ _ h => (by cases h.1)) (Or.inl ⟨by kernel_rfl, fun W hS => (by obtain ⟨s0, s1⟩ := hS; go_simp)⟩) hH ?_
  simp only [Act.put, List.setIfInBounds_toArray, List.set_cons_zero, List.set_cons_succ]
  refine g_take (i := 5) (v := .string ⟨n.p.toArray⟩) (by rfl) (by kernel_rfl) (by kernel_rfl) (by kernel_rfl) (by kernel_rfl) (fun _ _ _ h => (by cases h.1)) (Or.inl ⟨by kernel_rfl, fun W hS => (by obtain ⟨s0, s1⟩ := hS; go_simp)⟩) hH ?_
  simp only [Act.put, List.setIfInBounds_toArray, List.set_cons_zero, List.set_cons_succ]
  refine g_one (i := 6) (by kernel_rfl) (by rfl) (fun K hK => ?_)
  go_simp
  refine HS.out.mono ?_
  rintro E w4 ⟨rfl, hb4⟩
  obtain ⟨hB4, j1, j2, j19⟩ := HP.out w4 hb4
  have jb2 : w4.cell? ⟨w.heap.size + 1, 0, none⟩ = some (.string ⟨n.p.toArray⟩) := j2.cell 0
  clear hb4
  refine hK.out _ _ (fun _ => ⟨j19, jb2⟩) (fun _ => ?_)
  clear hK K hH
  try simp only [Act.put, List.setIfInBounds_toArray, List.set_cons_zero, List.set_cons_succ]
  have hH : w4.cell? ⟨m, 19, none⟩ = some (.pointer (some ⟨g, 0, none⟩)) ∧ w4.cell? ⟨w.heap.size + 1, 0, none⟩ = some (.string ⟨n.p.toArray⟩) := ⟨j19, jb2⟩
  refine g_take (i := 7) (v := .tuple #[.string ⟨sp.toArray⟩, .bool true]) (by rfl) (by kernel_rfl) (by kernel_rfl) (by kernel_rfl) (by kernel_rfl) (fun _ _ _ h => (by cases h.1)) (Or.inl ⟨by kernel_rfl, fun W hS => (by obtain ⟨s0, s1⟩ := hS; go_simp)⟩) hH ?_
  simp only [Act.put, List.setIfInBounds_toArray, List.set_cons_zero, List.set_cons_succ]
  refine g_take (i := 8) (v := .string ⟨sp.toArray⟩) (by rfl) (by kernel_rfl) (by kernel_rfl) (by kernel_rfl) (by kernel_rfl) (fun _ _ _ h => (by cases h.1)) (Or.inl ⟨by kernel_rfl, fun W hS => (by obtain ⟨s0, s1⟩ := hS; go_simp)⟩) hH ?_
  simp only [Act.put, List.setIfInBounds_toArray, List.set_cons_zero, List.set_cons_succ]
  refine g_take (i := 9) (v := .bool true) (by rfl) (by kernel_rfl) (by kernel_rfl) (by kernel_rfl) (by kernel_rfl) (fun _ _ _ h => (by cases h.1)) (Or.inl ⟨by kernel_rfl, fun W hS => (by obtain ⟨s0, s1⟩ := hS; go_simp)⟩) hH ?_
  simp only [Act.put, List.setIfInBounds_toArray, List.set_cons_zero, List.set_cons_succ]
  refine g_one (i := 10) (by kernel_rfl) (by rfl) (fun K hK => ?_)
  go_simp
  refine hK.out _ _ (fun _ => ⟨j19, jb2⟩) (fun _ => ?_)
  clear hK K hH
  try simp only [Act.put, List.setIfInBounds_toArray, List.set_cons_zero, List.set_cons_succ]
  refine g_one (i := 11) (by kernel_rfl) (by rfl) (fun K hK => ?_)
  go_simp
  refine hK.out _ _ (fun h => absurd (List.mem_singleton.2 rfl) h) (fun _ => ?_)
  clear hK K
  refine g_done (by kernel_rfl) ⟨by first | rfl | trivial, ?_⟩ _
  have r2 : w4.cell? ⟨w.heap.size + 1, 1, none⟩ = some (.string ⟨n.l.toArray⟩) := j2.cell 1
  have q1 : w4.cell? ⟨w.heap.size, 1, none⟩ = some (.string ⟨#[]⟩) := j1.cell 1
  have hl4 : w.heap.size + 1 < w4.heap.size := j2.lt
  have HB4 := Lib.hid hB4
  have HJ1 := Lib.hid j1
  clear j1 j2 j19 hB4 HP HS c19 cb2 k1 k2
  go_wp2_with fail
  refine (HJ.out _).mono ?_
  rintro E w5 ⟨rfl, hb5⟩
  have HB5 := Lib.hid (HB4.out.trans (hb5.mono HB4.out.size))
  clear hb5 HJ1 HB4 HJ
  go_wp2
  go_ret
  exact HF.out _ HB5.out

set_option maxHeartbeats 4000000 in
theorem atell_pre_unb_ok (n : Na) (v : List UInt8) (h : AX w base m o ck e mb g s) (hg : Good s.st) (hle : s.l.length ≤ 1000000) (hn1 : n.p.length ≤ 1000) (hn2 : n.l.length ≤ 1000) (hp : n.p ≠ []) (hsp : Ns.spaceS n.p s.m.sc = none) (hpe : n.p ≠ []) (f : List UInt8) (hj : joinL [] n.l = some f) :
    Calls Tryz.prog 151 #[.pointer (some ⟨m, 0, none⟩), .agg #[.int .i64 11, .string ⟨#[]⟩, .string ⟨v.toArray⟩], .agg #[.string ⟨n.p.toArray⟩, .string ⟨n.l.toArray⟩], .pointer (some ⟨o, 0, none⟩)] w (TPo w base m o ck e mb g ⟨s, 18⟩) := by
  have hlt := h.lt
  have hb2 := box2 w (.cells #[.int .i64 11, .string ⟨#[]⟩, .string ⟨v.toArray⟩] 46) (.cells #[.string ⟨n.p.toArray⟩, .string ⟨n.l.toArray⟩] 97)
  obtain ⟨W, hW⟩ : ∃ W, (w.alloc (.cells #[.int .i64 11, .string ⟨#[]⟩, .string ⟨v.toArray⟩] 46)).alloc (.cells #[.string ⟨n.p.toArray⟩, .string ⟨n.l.toArray⟩] 97) = W := ⟨_, rfl⟩
  have k1 : Blk W w.heap.size 46 #[.int .i64 11, .string ⟨#[]⟩, .string ⟨v.toArray⟩] := by rw [← hW]; exact (Blk.new w _ _).alloc _
  have k2 : Blk W (w.heap.size + 1) 97 #[.string ⟨n.p.toArray⟩, .string ⟨n.l.toArray⟩] := by
    rw [← hW]
    have := Blk.new (w.alloc (.cells #[.int .i64 11, .string ⟨#[]⟩, .string ⟨v.toArray⟩] 46)) 97 #[.string ⟨n.p.toArray⟩, .string ⟨n.l.toArray⟩]
    rw [World.size_alloc] at this
    exact this
  rw [hW] at hb2
  have hsz : W.heap.size = w.heap.size + 2 := by rw [← hW]; simp
  have hpz := strEmp hp
  have hpz2 : n.p.isEmpty = false := by cases hq : n.p with | nil => exact absurd hq hp | cons _ _ => rfl
  have hSE : Ns.SpaceEnd n.p s.m.sc = .returned (.tuple #[.string ⟨#[]⟩, .bool false]) := by unfold Ns.SpaceEnd; rw [hsp]; simp [hpe]
  have hWd := hb2.trans (below_drew (B := w.heap.size) (Below.refl _ W))
  have hAd := h.below hWd
  have c19 : W.drew.cell? ⟨m, 19, none⟩ = some (.pointer (some ⟨g, 0, none⟩)) := by obtain ⟨_, _, q⟩ := hAd.mc; exact q.cells2.2.2.2.2.2.2.2.2
  have cb2 : W.drew.cell? ⟨w.heap.size + 1, 0, none⟩ = some (.string ⟨n.p.toArray⟩) := k2.cell 0
  have hS := hAd.space n.p hn1
  rw [hSE] at hS
  have HS := Lib.hid hS
  have HP : Hid (∀ w4, Below W.drew.heap.size W.drew w4 → Below w.heap.size w w4 ∧ Blk w4 w.heap.size 46 #[.int .i64 11, .string ⟨#[]⟩, .string ⟨v.toArray⟩] ∧ Blk w4 (w.heap.size + 1) 97 #[.string ⟨n.p.toArray⟩, .string ⟨n.l.toArray⟩] ∧ w4.cell? ⟨m, 19, none⟩ = some (.pointer (some ⟨g, 0, none⟩))) := Lib.hid fun w4 hb => ⟨hWd.trans (hb.mono (by show w.heap.size ≤ W.heap.size; omega)), (show Blk W.drew _ _ _ from k1).below hb (by show w.heap.size < W.heap.size; omega), (show Blk W.drew _ _ _ from k2).below hb (by show w.heap.size + 1 < W.heap.size; omega), (hb.cell (p := ⟨m, 19, none⟩) (by show m < W.heap.size; omega)).trans c19⟩
  have hj' : joinL (⟨([] : List UInt8).toArray⟩ : ByteArray).data.toList (⟨n.l.toArray⟩ : ByteArray).data.toList = some f := hj
  have hJE : ∀ w4, Calls Tryz.prog 159 #[.string ⟨([] : List UInt8).toArray⟩, .string ⟨n.l.toArray⟩] w4 fun e w' => e = .returned (.tuple #[.string ⟨f.toArray⟩, .bool true]) ∧ Below w4.heap.size w4 w' := fun w4 => by
    have hq := join_any ⟨([] : List UInt8).toArray⟩ ⟨n.l.toArray⟩ w4 (by rw [svSize]; simp) (by rw [svSize]; omega)
    unfold JoinEnd at hq
    rw [hj'] at hq
    exact hq
  have HJ := Lib.hid hJE
  have HF : Hid (∀ w5, Below w.heap.size w w5 → TPo w base m o ck e mb g ⟨s, 18⟩ (.returned (.int .i64 18)) w5) := Lib.hid fun w5 hb => ⟨rfl, h.below hb, Tch.of_below hb⟩
  clear h hg hle hj hj' hJE hp hsp hSE hWd hAd hS hpe
  go_enter Tryz.func151, Tryz.ntmps151
  have e0 : W.cell? ⟨w.heap.size, 0, none⟩ = some (.int .i64 11) := k1.cell 0
  have e2 : W.cell? ⟨w.heap.size + 1, 0, none⟩ = some (.string ⟨n.p.toArray⟩) := k2.cell 0
  have hlW : w.heap.size + 1 < W.heap.size := k2.lt
  go_wp2
  clear e0 e2 hlW
  refine region_g [11] (S := (fun V => V.cell? ⟨m, 19, none⟩ = some (.pointer (some ⟨g, 0, none⟩)) ∧ V.cell? ⟨w.heap.size + 1, 0, none⟩ = some (.string ⟨n.p.toArray⟩))) (by kernel_rfl) ⟨c19, cb2⟩ (fun hH => ?_)
  refine g_take (i := 0) (v := .pointer (some ⟨m, 0, none⟩)) (by rfl) (by kernel_rfl) (by kernel_rfl) (by kernel_rfl) (by kernel_rfl) (fun _ _ _ h => (by cases h.1)) (Or.inl ⟨by kernel_rfl, fun W hS => (by obtain ⟨s0, s1⟩ := hS; go_simp)⟩) hH ?_
  simp only [Act.put, List.setIfInBounds_toArray, List.set_cons_zero, List.set_cons_succ]
  refine g_take (i := 1) (v := .pointer (some ⟨m, 0, none⟩)) (by rfl) (by kernel_rfl) (by kernel_rfl) (by kernel_rfl) (by kernel_rfl) (fun _ _ _ h => (by cases h.1)) (Or.inl ⟨by kernel_rfl, fun W hS => (by obtain ⟨s0, s1⟩ := hS; go_simp)⟩) hH ?_
  simp only [Act.put, List.setIfInBounds_toArray, List.set_cons_zero, List.set_cons_succ]
  refine g_take (i := 2) (v := .pointer (some ⟨m, 19, none⟩)) (by rfl) (by kernel_rfl) (by kernel_rfl) (by kernel_rfl) (by kernel_rfl) (fun _ _ _ h => (by cases h.1)) (Or.inl ⟨by kernel_rfl, fun W hS => (by obtain ⟨s0, s1⟩ := hS; go_simp)⟩) hH ?_
  simp only [Act.put, List.setIfInBounds_toArray, List.set_cons_zero, List.set_cons_succ]
  refine g_take (i := 3) (v := .pointer (some ⟨g, 0, none⟩)) (by rfl) (by kernel_rfl) (by kernel_rfl) (by kernel_rfl) (by kernel_rfl) (fun _ _ _ h => (by cases h.1)) (Or.inl ⟨by kernel_rfl, fun W hS => (by obtain ⟨s0, s1⟩ := hS; go_simp)⟩) hH ?_
  simp only [Act.put, List.setIfInBounds_toArray, List.set_cons_zero, List.set_cons_succ]
  refine g_take (i := 4) (v := .pointer (some ⟨w.heap.size + 1, 0, none⟩)) (by rfl) (by kernel_rfl) (by kernel_rfl) (by kernel_rfl) (by kernel_rfl) (fun _ _ _ h => (by cases h.1)) (Or.inl ⟨by kernel_rfl, fun W hS => (by obtain ⟨s0, s1⟩ := hS; go_simp)⟩) hH ?_
  simp only [Act.put, List.setIfInBounds_toArray, List.set_cons_zero, List.set_cons_succ]
  refine g_take (i := 5) (v := .string ⟨n.p.toArray⟩) (by rfl) (by kernel_rfl) (by kernel_rfl) (by kernel_rfl) (by kernel_rfl) (fun _ _ _ h => (by cases h.1)) (Or.inl ⟨by kernel_rfl, fun W hS => (by obtain ⟨s0, s1⟩ := hS; go_simp)⟩) hH ?_
  simp only [Act.put, List.setIfInBounds_toArray, List.set_cons_zero, List.set_cons_succ]
  refine g_one (i := 6) (by kernel_rfl) (by rfl) (fun K hK => ?_)
  go_simp
  refine HS.out.mono ?_
  rintro E w4 ⟨rfl, hb4⟩
  obtain ⟨hB4, j1, j2, j19⟩ := HP.out w4 hb4
  have jb2 : w4.cell? ⟨w.heap.size + 1, 0, none⟩ = some (.string ⟨n.p.toArray⟩) := j2.cell 0
  clear hb4
  refine hK.out _ _ (fun _ => ⟨j19, jb2⟩) (fun _ => ?_)
  clear hK K hH
  try simp only [Act.put, List.setIfInBounds_toArray, List.set_cons_zero, List.set_cons_succ]
  have hH : w4.cell? ⟨m, 19, none⟩ = some (.pointer (some ⟨g, 0, none⟩)) ∧ w4.cell? ⟨w.heap.size + 1, 0, none⟩ = some (.string ⟨n.p.toArray⟩) := ⟨j19, jb2⟩
  refine g_take (i := 7) (v := .tuple #[.string ⟨#[]⟩, .bool false]) (by rfl) (by kernel_rfl) (by kernel_rfl) (by kernel_rfl) (by kernel_rfl) (fun _ _ _ h => (by cases h.1)) (Or.inl ⟨by kernel_rfl, fun W hS => (by obtain ⟨s0, s1⟩ := hS; go_simp)⟩) hH ?_
  simp only [Act.put, List.setIfInBounds_toArray, List.set_cons_zero, List.set_cons_succ]
  refine g_take (i := 8) (v := .string ⟨#[]⟩) (by rfl) (by kernel_rfl) (by kernel_rfl) (by kernel_rfl) (by kernel_rfl) (fun _ _ _ h => (by cases h.1)) (Or.inl ⟨by kernel_rfl, fun W hS => (by obtain ⟨s0, s1⟩ := hS; go_simp)⟩) hH ?_
  simp only [Act.put, List.setIfInBounds_toArray, List.set_cons_zero, List.set_cons_succ]
  refine g_take (i := 9) (v := .bool false) (by rfl) (by kernel_rfl) (by kernel_rfl) (by kernel_rfl) (by kernel_rfl) (fun _ _ _ h => (by cases h.1)) (Or.inl ⟨by kernel_rfl, fun W hS => (by obtain ⟨s0, s1⟩ := hS; go_simp)⟩) hH ?_
  simp only [Act.put, List.setIfInBounds_toArray, List.set_cons_zero, List.set_cons_succ]
  refine g_one (i := 10) (by kernel_rfl) (by rfl) (fun K hK => ?_)
  go_simp
  refine hK.out _ _ (fun _ => ⟨j19, jb2⟩) (fun _ => ?_)
  clear hK K hH
  try simp only [Act.put, List.setIfInBounds_toArray, List.set_cons_zero, List.set_cons_succ]
  refine g_one (i := 11) (by kernel_rfl) (by rfl) (fun K hK => ?_)
  go_simp
  refine hK.out _ _ (fun h => absurd (List.mem_singleton.2 rfl) h) (fun _ => ?_)
  clear hK K
  refine g_done (by kernel_rfl) ⟨by first | rfl | trivial, ?_⟩ _
  have r2 : w4.cell? ⟨w.heap.size + 1, 1, none⟩ = some (.string ⟨n.l.toArray⟩) := j2.cell 1
  have q1 : w4.cell? ⟨w.heap.size, 1, none⟩ = some (.string ⟨#[]⟩) := j1.cell 1
  have hl4 : w.heap.size + 1 < w4.heap.size := j2.lt
  have HB4 := Lib.hid hB4
  have HJ1 := Lib.hid j1
  clear j1 j2 j19 hB4 HP HS c19 cb2 k1 k2
  go_wp2_with fail
  refine (HJ.out _).mono ?_
  rintro E w5 ⟨rfl, hb5⟩
  have HB5 := Lib.hid (HB4.out.trans (hb5.mono HB4.out.size))
  clear hb5 HJ1 HB4 HJ
  go_wp2
  go_ret
  exact HF.out _ HB5.out

set_option maxHeartbeats 4000000 in
theorem atell_pre_unb_no (n : Na) (v : List UInt8) (h : AX w base m o ck e mb g s) (hg : Good s.st) (hle : s.l.length ≤ 1000000) (hn1 : n.p.length ≤ 1000) (hn2 : n.l.length ≤ 1000) (hp : n.p ≠ []) (hsp : Ns.spaceS n.p s.m.sc = none) (hpe : n.p ≠ []) (hj : joinL [] n.l = none) :
    Calls Tryz.prog 151 #[.pointer (some ⟨m, 0, none⟩), .agg #[.int .i64 11, .string ⟨#[]⟩, .string ⟨v.toArray⟩], .agg #[.string ⟨n.p.toArray⟩, .string ⟨n.l.toArray⟩], .pointer (some ⟨o, 0, none⟩)] w (TPo w base m o ck e mb g ⟨s, 18⟩) := by
  have hlt := h.lt
  have hb2 := box2 w (.cells #[.int .i64 11, .string ⟨#[]⟩, .string ⟨v.toArray⟩] 46) (.cells #[.string ⟨n.p.toArray⟩, .string ⟨n.l.toArray⟩] 97)
  obtain ⟨W, hW⟩ : ∃ W, (w.alloc (.cells #[.int .i64 11, .string ⟨#[]⟩, .string ⟨v.toArray⟩] 46)).alloc (.cells #[.string ⟨n.p.toArray⟩, .string ⟨n.l.toArray⟩] 97) = W := ⟨_, rfl⟩
  have k1 : Blk W w.heap.size 46 #[.int .i64 11, .string ⟨#[]⟩, .string ⟨v.toArray⟩] := by rw [← hW]; exact (Blk.new w _ _).alloc _
  have k2 : Blk W (w.heap.size + 1) 97 #[.string ⟨n.p.toArray⟩, .string ⟨n.l.toArray⟩] := by
    rw [← hW]
    have := Blk.new (w.alloc (.cells #[.int .i64 11, .string ⟨#[]⟩, .string ⟨v.toArray⟩] 46)) 97 #[.string ⟨n.p.toArray⟩, .string ⟨n.l.toArray⟩]
    rw [World.size_alloc] at this
    exact this
  rw [hW] at hb2
  have hsz : W.heap.size = w.heap.size + 2 := by rw [← hW]; simp
  have hpz := strEmp hp
  have hpz2 : n.p.isEmpty = false := by cases hq : n.p with | nil => exact absurd hq hp | cons _ _ => rfl
  have hSE : Ns.SpaceEnd n.p s.m.sc = .returned (.tuple #[.string ⟨#[]⟩, .bool false]) := by unfold Ns.SpaceEnd; rw [hsp]; simp [hpe]
  have hWd := hb2.trans (below_drew (B := w.heap.size) (Below.refl _ W))
  have hAd := h.below hWd
  have c19 : W.drew.cell? ⟨m, 19, none⟩ = some (.pointer (some ⟨g, 0, none⟩)) := by obtain ⟨_, _, q⟩ := hAd.mc; exact q.cells2.2.2.2.2.2.2.2.2
  have cb2 : W.drew.cell? ⟨w.heap.size + 1, 0, none⟩ = some (.string ⟨n.p.toArray⟩) := k2.cell 0
  have hS := hAd.space n.p hn1
  rw [hSE] at hS
  have HS := Lib.hid hS
  have HP : Hid (∀ w4, Below W.drew.heap.size W.drew w4 → Below w.heap.size w w4 ∧ Blk w4 w.heap.size 46 #[.int .i64 11, .string ⟨#[]⟩, .string ⟨v.toArray⟩] ∧ Blk w4 (w.heap.size + 1) 97 #[.string ⟨n.p.toArray⟩, .string ⟨n.l.toArray⟩] ∧ w4.cell? ⟨m, 19, none⟩ = some (.pointer (some ⟨g, 0, none⟩))) := Lib.hid fun w4 hb => ⟨hWd.trans (hb.mono (by show w.heap.size ≤ W.heap.size; omega)), (show Blk W.drew _ _ _ from k1).below hb (by show w.heap.size < W.heap.size; omega), (show Blk W.drew _ _ _ from k2).below hb (by show w.heap.size + 1 < W.heap.size; omega), (hb.cell (p := ⟨m, 19, none⟩) (by show m < W.heap.size; omega)).trans c19⟩
  have hj' : joinL (⟨([] : List UInt8).toArray⟩ : ByteArray).data.toList (⟨n.l.toArray⟩ : ByteArray).data.toList = none := hj
  have hJE : ∀ w4, Calls Tryz.prog 159 #[.string ⟨([] : List UInt8).toArray⟩, .string ⟨n.l.toArray⟩] w4 fun e w' => e = .returned (.tuple #[.string ⟨#[]⟩, .bool false]) ∧ Below w4.heap.size w4 w' := fun w4 => by
    have hq := join_any ⟨([] : List UInt8).toArray⟩ ⟨n.l.toArray⟩ w4 (by rw [svSize]; simp) (by rw [svSize]; omega)
    unfold JoinEnd at hq
    rw [hj'] at hq
    exact hq
  have HJ := Lib.hid hJE
  have HF : Hid (∀ w5, Below w.heap.size w w5 → TPo w base m o ck e mb g ⟨s, 18⟩ (.returned (.int .i64 18)) w5) := Lib.hid fun w5 hb => ⟨rfl, h.below hb, Tch.of_below hb⟩
  clear h hg hle hj hj' hJE hp hsp hSE hWd hAd hS hpe
  go_enter Tryz.func151, Tryz.ntmps151
  have e0 : W.cell? ⟨w.heap.size, 0, none⟩ = some (.int .i64 11) := k1.cell 0
  have e2 : W.cell? ⟨w.heap.size + 1, 0, none⟩ = some (.string ⟨n.p.toArray⟩) := k2.cell 0
  have hlW : w.heap.size + 1 < W.heap.size := k2.lt
  go_wp2
  clear e0 e2 hlW
  refine region_g [11] (S := (fun V => V.cell? ⟨m, 19, none⟩ = some (.pointer (some ⟨g, 0, none⟩)) ∧ V.cell? ⟨w.heap.size + 1, 0, none⟩ = some (.string ⟨n.p.toArray⟩))) (by kernel_rfl) ⟨c19, cb2⟩ (fun hH => ?_)
  refine g_take (i := 0) (v := .pointer (some ⟨m, 0, none⟩)) (by rfl) (by kernel_rfl) (by kernel_rfl) (by kernel_rfl) (by kernel_rfl) (fun _ _ _ h => (by cases h.1)) (Or.inl ⟨by kernel_rfl, fun W hS => (by obtain ⟨s0, s1⟩ := hS; go_simp)⟩) hH ?_
  simp only [Act.put, List.setIfInBounds_toArray, List.set_cons_zero, List.set_cons_succ]
  refine g_take (i := 1) (v := .pointer (some ⟨m, 0, none⟩)) (by rfl) (by kernel_rfl) (by kernel_rfl) (by kernel_rfl) (by kernel_rfl) (fun _ _ _ h => (by cases h.1)) (Or.inl ⟨by kernel_rfl, fun W hS => (by obtain ⟨s0, s1⟩ := hS; go_simp)⟩) hH ?_
  simp only [Act.put, List.setIfInBounds_toArray, List.set_cons_zero, List.set_cons_succ]
  refine g_take (i := 2) (v := .pointer (some ⟨m, 19, none⟩)) (by rfl) (by kernel_rfl) (by kernel_rfl) (by kernel_rfl) (by kernel_rfl) (fun _ _ _ h => (by cases h.1)) (Or.inl ⟨by kernel_rfl, fun W hS => (by obtain ⟨s0, s1⟩ := hS; go_simp)⟩) hH ?_
  simp only [Act.put, List.setIfInBounds_toArray, List.set_cons_zero, List.set_cons_succ]
  refine g_take (i := 3) (v := .pointer (some ⟨g, 0, none⟩)) (by rfl) (by kernel_rfl) (by kernel_rfl) (by kernel_rfl) (by kernel_rfl) (fun _ _ _ h => (by cases h.1)) (Or.inl ⟨by kernel_rfl, fun W hS => (by obtain ⟨s0, s1⟩ := hS; go_simp)⟩) hH ?_
  simp only [Act.put, List.setIfInBounds_toArray, List.set_cons_zero, List.set_cons_succ]
  refine g_take (i := 4) (v := .pointer (some ⟨w.heap.size + 1, 0, none⟩)) (by rfl) (by kernel_rfl) (by kernel_rfl) (by kernel_rfl) (by kernel_rfl) (fun _ _ _ h => (by cases h.1)) (Or.inl ⟨by kernel_rfl, fun W hS => (by obtain ⟨s0, s1⟩ := hS; go_simp)⟩) hH ?_
  simp only [Act.put, List.setIfInBounds_toArray, List.set_cons_zero, List.set_cons_succ]
  refine g_take (i := 5) (v := .string ⟨n.p.toArray⟩) (by rfl) (by kernel_rfl) (by kernel_rfl) (by kernel_rfl) (by kernel_rfl) (fun _ _ _ h => (by cases h.1)) (Or.inl ⟨by kernel_rfl, fun W hS => (by obtain ⟨s0, s1⟩ := hS; go_simp)⟩) hH ?_
  simp only [Act.put, List.setIfInBounds_toArray, List.set_cons_zero, List.set_cons_succ]
  refine g_one (i := 6) (by kernel_rfl) (by rfl) (fun K hK => ?_)
  go_simp
  refine HS.out.mono ?_
  rintro E w4 ⟨rfl, hb4⟩
  obtain ⟨hB4, j1, j2, j19⟩ := HP.out w4 hb4
  have jb2 : w4.cell? ⟨w.heap.size + 1, 0, none⟩ = some (.string ⟨n.p.toArray⟩) := j2.cell 0
  clear hb4
  refine hK.out _ _ (fun _ => ⟨j19, jb2⟩) (fun _ => ?_)
  clear hK K hH
  try simp only [Act.put, List.setIfInBounds_toArray, List.set_cons_zero, List.set_cons_succ]
  have hH : w4.cell? ⟨m, 19, none⟩ = some (.pointer (some ⟨g, 0, none⟩)) ∧ w4.cell? ⟨w.heap.size + 1, 0, none⟩ = some (.string ⟨n.p.toArray⟩) := ⟨j19, jb2⟩
  refine g_take (i := 7) (v := .tuple #[.string ⟨#[]⟩, .bool false]) (by rfl) (by kernel_rfl) (by kernel_rfl) (by kernel_rfl) (by kernel_rfl) (fun _ _ _ h => (by cases h.1)) (Or.inl ⟨by kernel_rfl, fun W hS => (by obtain ⟨s0, s1⟩ := hS; go_simp)⟩) hH ?_
  simp only [Act.put, List.setIfInBounds_toArray, List.set_cons_zero, List.set_cons_succ]
  refine g_take (i := 8) (v := .string ⟨#[]⟩) (by rfl) (by kernel_rfl) (by kernel_rfl) (by kernel_rfl) (by kernel_rfl) (fun _ _ _ h => (by cases h.1)) (Or.inl ⟨by kernel_rfl, fun W hS => (by obtain ⟨s0, s1⟩ := hS; go_simp)⟩) hH ?_
  simp only [Act.put, List.setIfInBounds_toArray, List.set_cons_zero, List.set_cons_succ]
  refine g_take (i := 9) (v := .bool false) (by rfl) (by kernel_rfl) (by kernel_rfl) (by kernel_rfl) (by kernel_rfl) (fun _ _ _ h => (by cases h.1)) (Or.inl ⟨by kernel_rfl, fun W hS => (by obtain ⟨s0, s1⟩ := hS; go_simp)⟩) hH ?_
  simp only [Act.put, List.setIfInBounds_toArray, List.set_cons_zero, List.set_cons_succ]
  refine g_one (i := 10) (by kernel_rfl) (by rfl) (fun K hK => ?_)
  go_simp
  refine hK.out _ _ (fun _ => ⟨j19, jb2⟩) (fun _ => ?_)
  clear hK K hH
  try simp only [Act.put, List.setIfInBounds_toArray, List.set_cons_zero, List.set_cons_succ]
  refine g_one (i := 11) (by kernel_rfl) (by rfl) (fun K hK => ?_)
  go_simp
  refine hK.out _ _ (fun h => absurd (List.mem_singleton.2 rfl) h) (fun _ => ?_)
  clear hK K
  refine g_done (by kernel_rfl) ⟨by first | rfl | trivial, ?_⟩ _
  have r2 : w4.cell? ⟨w.heap.size + 1, 1, none⟩ = some (.string ⟨n.l.toArray⟩) := j2.cell 1
  have q1 : w4.cell? ⟨w.heap.size, 1, none⟩ = some (.string ⟨#[]⟩) := j1.cell 1
  have hl4 : w.heap.size + 1 < w4.heap.size := j2.lt
  have HB4 := Lib.hid hB4
  have HJ1 := Lib.hid j1
  clear j1 j2 j19 hB4 HP HS c19 cb2 k1 k2
  go_wp2_with fail
  refine (HJ.out _).mono ?_
  rintro E w5 ⟨rfl, hb5⟩
  have HB5 := Lib.hid (HB4.out.trans (hb5.mono HB4.out.size))
  clear hb5 HJ1 HB4 HJ
  go_wp2
  go_ret
  exact HF.out _ HB5.out

set_option maxHeartbeats 4000000 in
theorem atell_no_ok (n : Na) (v : List UInt8) (h : AX w base m o ck e mb g s) (hg : Good s.st) (hle : s.l.length ≤ 1000000) (hn1 : n.p.length ≤ 1000) (hn2 : n.l.length ≤ 1000) (hp : n.p = []) (f : List UInt8) (hj : joinL [] n.l = some f) :
    Calls Tryz.prog 151 #[.pointer (some ⟨m, 0, none⟩), .agg #[.int .i64 11, .string ⟨#[]⟩, .string ⟨v.toArray⟩], .agg #[.string ⟨n.p.toArray⟩, .string ⟨n.l.toArray⟩], .pointer (some ⟨o, 0, none⟩)] w (TPo w base m o ck e mb g (tellA s ⟨11, bs f, bs v⟩)) := by
  have hlt := h.lt
  have hb2 := box2 w (.cells #[.int .i64 11, .string ⟨#[]⟩, .string ⟨v.toArray⟩] 46) (.cells #[.string ⟨n.p.toArray⟩, .string ⟨n.l.toArray⟩] 97)
  obtain ⟨W, hW⟩ : ∃ W, (w.alloc (.cells #[.int .i64 11, .string ⟨#[]⟩, .string ⟨v.toArray⟩] 46)).alloc (.cells #[.string ⟨n.p.toArray⟩, .string ⟨n.l.toArray⟩] 97) = W := ⟨_, rfl⟩
  have k1 : Blk W w.heap.size 46 #[.int .i64 11, .string ⟨#[]⟩, .string ⟨v.toArray⟩] := by rw [← hW]; exact (Blk.new w _ _).alloc _
  have k2 : Blk W (w.heap.size + 1) 97 #[.string ⟨n.p.toArray⟩, .string ⟨n.l.toArray⟩] := by
    rw [← hW]
    have := Blk.new (w.alloc (.cells #[.int .i64 11, .string ⟨#[]⟩, .string ⟨v.toArray⟩] 46)) 97 #[.string ⟨n.p.toArray⟩, .string ⟨n.l.toArray⟩]
    rw [World.size_alloc] at this
    exact this
  rw [hW] at hb2
  have hsz : W.heap.size = w.heap.size + 2 := by rw [← hW]; simp
  have hpz2 : n.p.isEmpty = true := by rw [hp]; rfl
  have hj' : joinL (⟨([] : List UInt8).toArray⟩ : ByteArray).data.toList (⟨n.l.toArray⟩ : ByteArray).data.toList = some f := hj
  have hJE : ∀ w4, Calls Tryz.prog 159 #[.string ⟨([] : List UInt8).toArray⟩, .string ⟨n.l.toArray⟩] w4 fun e w' => e = .returned (.tuple #[.string ⟨f.toArray⟩, .bool true]) ∧ Below w4.heap.size w4 w' := fun w4 => by
    have hq := join_any ⟨([] : List UInt8).toArray⟩ ⟨n.l.toArray⟩ w4 (by rw [svSize]; simp) (by rw [svSize]; omega)
    unfold JoinEnd at hq
    rw [hj'] at hq
    exact hq
  have HJ := Lib.hid hJE
  have hfl := full_size hj
  have HTl : Hid (∀ w5, Below w.heap.size w w5 → Calls Tryz.prog 133 #[.pointer (some ⟨o, 0, none⟩), .agg #[.int .i64 11, .string ⟨f.toArray⟩, .string ⟨v.toArray⟩], .slice none 0 0] w5 (TPo w base m o ck e mb g (tellA s ⟨11, bs f, bs v⟩))) := Lib.hid fun w5 hb => by
    refine ((h.below hb).tell ⟨11, bs f, bs v⟩ hg (by show (11 : Int) ≠ 3; decide) (by show f.toArray.size ≤ _; simp; omega) hle).mono ?_
    rintro E w' ⟨h1, h2, h3⟩
    exact ⟨h1, h2, (Tch.of_below hb).trans h3⟩
  clear h hg hle hj hj' hJE hp
  go_enter Tryz.func151, Tryz.ntmps151
  have HB4 := Lib.hid hb2
  have HJ1 := Lib.hid k1
  have r2 : W.cell? ⟨w.heap.size + 1, 1, none⟩ = some (.string ⟨n.l.toArray⟩) := k2.cell 1
  have r3 : W.cell? ⟨w.heap.size + 1, 0, none⟩ = some (.string ⟨n.p.toArray⟩) := k2.cell 0
  have hl4 : w.heap.size + 1 < W.heap.size := k2.lt
  clear hb2 k1 k2
  rw [← hW] at HB4 HJ1 hl4 r2 r3
  clear hW
  go_wp2_with fail
  refine (HJ.out _).mono ?_
  rintro E w5 ⟨rfl, hb5⟩
  have hB5 := HB4.out.trans (hb5.mono HB4.out.size)
  have i1 := HJ1.out.below hb5 (HJ1.out.lt)
  have p1 : w5.cell? ⟨w.heap.size, 1, none⟩ = some (.string ⟨#[]⟩) := i1.cell 1
  have p0 : w5.cell? ⟨w.heap.size, 0, none⟩ = some (.int .i64 11) := i1.cell 0
  have p2 : w5.cell? ⟨w.heap.size, 2, none⟩ = some (.string ⟨v.toArray⟩) := i1.cell 2
  have pf := i1.frozen 1
  have pl := i1.lt
  have HB6 := Lib.hid (hB5.setCell (p := ⟨w.heap.size, 1, none⟩) (Nat.le_refl _) (.string ⟨f.toArray⟩))
  clear hb5 hB5 i1 HJ1 HB4 HJ
  go_wp2_with fail
  refine (HTl.out _ HB6.out).mono ?_
  intro E w6 hq
  have HF := Lib.hid hq
  have hE := hq.1
  clear hq
  subst hE
  go_wp2
  go_ret
  exact HF.out

set_option maxHeartbeats 4000000 in
theorem atell_no_no (n : Na) (v : List UInt8) (h : AX w base m o ck e mb g s) (hg : Good s.st) (hle : s.l.length ≤ 1000000) (hn1 : n.p.length ≤ 1000) (hn2 : n.l.length ≤ 1000) (hp : n.p = []) (hj : joinL [] n.l = none) :
    Calls Tryz.prog 151 #[.pointer (some ⟨m, 0, none⟩), .agg #[.int .i64 11, .string ⟨#[]⟩, .string ⟨v.toArray⟩], .agg #[.string ⟨n.p.toArray⟩, .string ⟨n.l.toArray⟩], .pointer (some ⟨o, 0, none⟩)] w (TPo w base m o ck e mb g ⟨s, 18⟩) := by
  have hlt := h.lt
  have hb2 := box2 w (.cells #[.int .i64 11, .string ⟨#[]⟩, .string ⟨v.toArray⟩] 46) (.cells #[.string ⟨n.p.toArray⟩, .string ⟨n.l.toArray⟩] 97)
  obtain ⟨W, hW⟩ : ∃ W, (w.alloc (.cells #[.int .i64 11, .string ⟨#[]⟩, .string ⟨v.toArray⟩] 46)).alloc (.cells #[.string ⟨n.p.toArray⟩, .string ⟨n.l.toArray⟩] 97) = W := ⟨_, rfl⟩
  have k1 : Blk W w.heap.size 46 #[.int .i64 11, .string ⟨#[]⟩, .string ⟨v.toArray⟩] := by rw [← hW]; exact (Blk.new w _ _).alloc _
  have k2 : Blk W (w.heap.size + 1) 97 #[.string ⟨n.p.toArray⟩, .string ⟨n.l.toArray⟩] := by
    rw [← hW]
    have := Blk.new (w.alloc (.cells #[.int .i64 11, .string ⟨#[]⟩, .string ⟨v.toArray⟩] 46)) 97 #[.string ⟨n.p.toArray⟩, .string ⟨n.l.toArray⟩]
    rw [World.size_alloc] at this
    exact this
  rw [hW] at hb2
  have hsz : W.heap.size = w.heap.size + 2 := by rw [← hW]; simp
  have hpz2 : n.p.isEmpty = true := by rw [hp]; rfl
  have hj' : joinL (⟨([] : List UInt8).toArray⟩ : ByteArray).data.toList (⟨n.l.toArray⟩ : ByteArray).data.toList = none := hj
  have hJE : ∀ w4, Calls Tryz.prog 159 #[.string ⟨([] : List UInt8).toArray⟩, .string ⟨n.l.toArray⟩] w4 fun e w' => e = .returned (.tuple #[.string ⟨#[]⟩, .bool false]) ∧ Below w4.heap.size w4 w' := fun w4 => by
    have hq := join_any ⟨([] : List UInt8).toArray⟩ ⟨n.l.toArray⟩ w4 (by rw [svSize]; simp) (by rw [svSize]; omega)
    unfold JoinEnd at hq
    rw [hj'] at hq
    exact hq
  have HJ := Lib.hid hJE
  have HF : Hid (∀ w5, Below w.heap.size w w5 → TPo w base m o ck e mb g ⟨s, 18⟩ (.returned (.int .i64 18)) w5) := Lib.hid fun w5 hb => ⟨rfl, h.below hb, Tch.of_below hb⟩
  clear h hg hle hj hj' hJE hp
  go_enter Tryz.func151, Tryz.ntmps151
  have HB4 := Lib.hid hb2
  have HJ1 := Lib.hid k1
  have r2 : W.cell? ⟨w.heap.size + 1, 1, none⟩ = some (.string ⟨n.l.toArray⟩) := k2.cell 1
  have r3 : W.cell? ⟨w.heap.size + 1, 0, none⟩ = some (.string ⟨n.p.toArray⟩) := k2.cell 0
  have hl4 : w.heap.size + 1 < W.heap.size := k2.lt
  clear hb2 k1 k2
  rw [← hW] at HB4 HJ1 hl4 r2 r3
  clear hW
  go_wp2_with fail
  refine (HJ.out _).mono ?_
  rintro E w5 ⟨rfl, hb5⟩
  have HB5 := Lib.hid (HB4.out.trans (hb5.mono HB4.out.size))
  clear hb5 HJ1 HB4 HJ
  go_wp2
  go_ret
  exact HF.out _ HB5.out
end
end Go.Proofs.YtjepnddndpmnnaaGreat

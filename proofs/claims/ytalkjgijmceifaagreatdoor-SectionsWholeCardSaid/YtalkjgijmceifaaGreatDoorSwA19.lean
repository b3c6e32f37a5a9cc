/-
  stream: New and Decode, for any machine.
  stream: events that are asked for, for any machine: take, Next, End.
-/
import Derived.Test.YtalkjgijmceifaaGreatDoorSwA18
namespace Go.Proofs.YtalkjgijmceifaaGreatDoor
open Go.RowKit Go.Maps
set_option maxRecDepth 100000
set_option linter.unusedSimpArgs false
set_option linter.unusedVariables false
set_option linter.unusedSectionVars false
variable [Tab] [Fo]
theorem RowT.erow [Fo] {w : World} {base : Nat} {v : Value} {l : List Ev} (htk : Fo.tk = none) (h : RowT w base v l) : ERow w base v l := by
  rcases h with ⟨_, h⟩ | ⟨n, h, _⟩
  · exact h
  · rw [htk] at h; cases h
/-- Where the text ends, or the error is met. -/
theorem at_any (w : World) (s o rd : Nat) (s4 : w.cell? ⟨s, 4, none⟩ = some (.int .i64 (rd : Int))) (s2 : w.cell? ⟨s, 2, none⟩ = some (.pointer (some ⟨o, 0, none⟩))) (o2 : w.cell? ⟨o, 2, none⟩ = some (.int .i64 0)) (hr : rd ≤ 1000000) :
    Calls Tryz.prog 26 #[.pointer (some ⟨s, 0, none⟩)] w fun e w' => e = .returned (.int .i64 (rd : Int)) ∧ w' = w.drew := by
  go_enter Tryz.func26, Tryz.ntmps26
  go_wp2
  go_region
  go_wp2
  go_ret
  exact ⟨rfl, rfl⟩
variable (M : Mach)

set_option maxHeartbeats 4000000 in
theorem snew_any (w : World) (base m : Nat) (hM : M.raw w base m) (htk : Fo.tk = none) (hb : base ≤ w.heap.size) :
    Calls Tryz.prog 23 #[.iface M.T (.pointer (some ⟨m, 0, none⟩))] w fun e w' => ∃ B s sc o ck, e = .returned (.pointer (some ⟨s, 0, none⟩)) ∧ StA w' base B s m sc o ck (ss0 M.toMachP) false false ∧ LowF base w w' := by
  go_enter Tryz.func23, Tryz.ntmps23
  go_wp2_with (first
    | (go_at_call 35; refine (new_any _).mono ?_; rintro e w1 ⟨rfl, rfl⟩))
  have hS1 : ScanAt (w.alloc (.cells #[.int .i64 0, .int .u8 128, .int .u8 191] 101)) w.heap.size 0 128 191 := Blk.new w _ _
  have al1 : Below w.heap.size w (w.alloc (.cells #[.int .i64 0, .int .u8 128, .int .u8 191] 101)) := (Below.refl _ _).alloc (Nat.le_refl _) _
  have hfl := M.raw_lim hM
  obtain ⟨W0, hW0⟩ : ∃ W0, w.alloc (.cells #[.int .i64 0, .int .u8 128, .int .u8 191] 101) = W0 := ⟨_, rfl⟩
  have hz1 : w.heap.size ≤ W0.heap.size := by rw [← hW0]; simp
  have hz0 : base ≤ W0.heap.size := Nat.le_trans hb (by rw [← hW0]; simp)
  rw [hW0] at hS1 al1 ⊢
  go_wp2_with (first
    | (go_at_call 18; refine (cnew_any W0 W0.heap.size (Nat.le_refl _) (Nat.le_trans hfl hz1)).mono ?_; rintro e w2 ⟨ck, rfl, hck, hC2, hb2⟩))
  go_ret
  have hz2 : W0.heap.size ≤ w2.heap.size := hb2.size
  have hS2 := hS1.below hb2 hS1.lt
  have hT : Below w2.heap.size w2 ((w2.alloc (.cells #[.pointer (some ⟨ck, 0, none⟩), .slice none 0 0, .int .i64 0] 47)).alloc (.cells (sCells M.T m w.heap.size w2.heap.size 0 0 false false) 51)) := ((Below.refl _ _).alloc (Nat.le_refl _) _).alloc (by simp) _
  have hO := Blk.new w2 47 #[.pointer (some ⟨ck, 0, none⟩), .slice none 0 0, .int .i64 0]
  have hO3 := hO.alloc (.cells (sCells M.T m w.heap.size w2.heap.size 0 0 false false) 51)
  have hSB := Blk.new (w2.alloc (.cells #[.pointer (some ⟨ck, 0, none⟩), .slice none 0 0, .int .i64 0] 47)) 51 (sCells M.T m w.heap.size w2.heap.size 0 0 false false)
  have hsz : (w2.alloc (.cells #[.pointer (some ⟨ck, 0, none⟩), .slice none 0 0, .int .i64 0] 47)).heap.size = w2.heap.size + 1 := by simp
  rw [hsz] at hSB
  refine ⟨((w2.alloc (.cells #[.pointer (some ⟨ck, 0, none⟩), .slice none 0 0, .int .i64 0] 47)).alloc (.cells (sCells M.T m w.heap.size w2.heap.size 0 0 false false) 51)).heap.size, w2.heap.size + 1, w.heap.size, w2.heap.size, ck, rfl, ?_, ?_⟩
  · refine ⟨hSB, hS2.below hT hS2.lt, M.start hM hb ((al1.trans (hb2.mono hz1)).trans (hT.mono (Nat.le_trans hz1 hz2))) hz1 (Nat.le_trans hz2 hT.size) ⟨⟨_, hO3, RowT.nil htk _ _, NF.nil⟩, hC2.below hT, hz2, nf_new (by omega)⟩, ⟨nf_new (by omega), nf_new hfl⟩, ?_⟩
    have := hS1.lt
    exact ⟨hSB.lt, Nat.lt_of_lt_of_le hS2.lt hT.size, by omega, hb, Nat.le_refl _, Nat.le_trans (Nat.le_trans hz0 hz2) hT.size⟩
  · exact ((LowF.of_below al1 hb).trans (LowF.of_below hb2 hz0)).trans (LowF.of_below hT (Nat.le_trans hz0 hz2))

variable {M}
/-- What a decoder returns. -/
def DEnd (lv : Value) (x : Ss M.toMachP) : Ending := .returned (.tuple #[lv, .int .i64 (closeE x), .int .i64 (x.rd : Int)])

set_option maxHeartbeats 4000000 in
theorem sdecode_any (w : World) (base m : Nat) (v : Value) (bs : List UInt8) (hM : M.raw w base m) (htk : Fo.tk = none) (hb : base ≤ w.heap.size) (hn : bs.length ≤ 50000) (hv : ∀ w', Below base w w' → BRead w' v bs) (hw : SN M.num base w) :
    Calls Tryz.prog 16 #[.iface M.T (.pointer (some ⟨m, 0, none⟩)), v] w fun e w' => ∃ lv, e = DEnd lv (feedG (ss0 M.toMachP) bs) ∧ ERow w' base lv (M.l (closeBs (feedG (ss0 M.toMachP) bs))) ∧ Below base w w' := by
  have hx := sinv_feedG bs (ss0 M.toMachP) 0 sinv0
  rw [Nat.zero_add] at hx
  have HX := Lib.hid hx
  have HV := Lib.hid hv
  have HN := Lib.hid hn
  have HWs := Lib.hid hw
  clear hx hv hw hn
  unfold DEnd
  generalize hy : feedG (ss0 M.toMachP) bs = y at *
  have HY := Lib.hid hy
  clear hy
  obtain ⟨E, hE⟩ : ∃ E, closeE y = E := ⟨_, rfl⟩
  rw [hE]
  have HE := Lib.hid hE
  clear hE
  go_enter Tryz.func16, Tryz.ntmps16
  go_wp2_with (first
    | (go_at_call 23; refine (snew_any M _ base m hM htk hb).mono ?_; rintro e w1 ⟨B, s, sc, o, ck, rfl, hA1, hb1⟩))
  have HB1 := Lib.hid hb1.low
  have HC := Lib.hid (feed_any w1 base B s m sc o ck (ss0 M.toMachP) false 0 v bs hA1 sinv0 (by have := HN.out; omega) (fun w' h => HV.out w' (HB1.out.trans h.low)) (HWs.out.below hb1.low))
  clear hb1 hA1 hM
  go_wp2_with fail
  refine HC.out.mono ?_
  rintro e w2 ⟨rfl, hA2, hb2⟩
  rw [HY.out] at hA2
  have HB2 := Lib.hid (HB1.out.trans hb2.low)
  have hD := sclose_any w2 base B s m sc o ck y false (2 * bs.length) hA2 HX.out.b (by have := HN.out; omega) (HWs.out.below HB2.out)
  rw [HE.out] at hD
  have HD := Lib.hid hD
  clear hD
  clear hb2 hA2 HC
  go_wp2_with fail
  refine HD.out.mono ?_
  rintro e w3 ⟨rfl, hE3, hb3⟩
  have HB3 := Lib.hid (HB2.out.trans hb3.low)
  have b2 := hE3.blk.cell 2
  have b3 := hE3.blk.cell 3
  have b4 := hE3.blk.cell 4
  unfold sCells at b2 b3 b4
  obtain ⟨⟨lv, hO, hR0, _⟩, _, _, _⟩ := hE3.out
  have hR := hR0.erow htk
  have o1 := hO.cell 1
  have o2 : w3.cell? ⟨o, 2, none⟩ = some (.int .i64 0) := hO.cell 2
  have HR := Lib.hid hR
  have hrd : y.rd ≤ 1000000 := by have := HX.out.rd; have := HN.out; omega
  clear hE3 hb3 hO hR HD hR0
  have b4' : w3.cell? ⟨s, 4, none⟩ = some (.int .i64 (y.rd : Int)) := b4
  obtain ⟨rd, hrd0⟩ : ∃ rd, y.rd = rd := ⟨_, rfl⟩
  rw [hrd0] at b4' hrd
  have HRD := Lib.hid hrd0
  clear hrd0 b4
  go_wp2
  refine region_g [] (S := (fun W => W.cell? ⟨s, 2, none⟩ = some (.pointer (some ⟨o, 0, none⟩)) ∧ W.cell? ⟨s, 3, none⟩ = some (.int .i64 E) ∧ W.cell? ⟨s, 4, none⟩ = some (.int .i64 (rd : Int)) ∧ W.cell? ⟨o, 1, none⟩ = some lv ∧ W.cell? ⟨o, 2, none⟩ = some (.int .i64 0))) (by kernel_rfl) ⟨b2, b3, b4', o1, o2⟩ (fun hH => ?_)
  refine g_take (i := 0) (v := .pointer (some ⟨s, 0, none⟩)) (by rfl) (by kernel_rfl) (by kernel_rfl) (by kernel_rfl) (by kernel_rfl) (fun _ _ _ h => (by cases h.1)) (Or.inl ⟨by rfl, fun W hS => (by obtain ⟨s2, s3, s4, o1, o2⟩ := hS; go_simp)⟩) hH ?_
  simp only [Act.put, List.setIfInBounds_toArray, List.set_cons_zero, List.set_cons_succ]
  refine g_take (i := 1) (v := .pointer (some ⟨s, 0, none⟩)) (by rfl) (by kernel_rfl) (by kernel_rfl) (by kernel_rfl) (by kernel_rfl) (fun _ _ _ h => (by cases h.1)) (Or.inl ⟨by rfl, fun W hS => (by obtain ⟨s2, s3, s4, o1, o2⟩ := hS; go_simp)⟩) hH ?_
  simp only [Act.put, List.setIfInBounds_toArray, List.set_cons_zero, List.set_cons_succ]
  refine g_take (i := 2) (v := .pointer (some ⟨s, 2, none⟩)) (by rfl) (by kernel_rfl) (by kernel_rfl) (by kernel_rfl) (by kernel_rfl) (fun _ _ _ h => (by cases h.1)) (Or.inl ⟨by rfl, fun W hS => (by obtain ⟨s2, s3, s4, o1, o2⟩ := hS; go_simp)⟩) hH ?_
  simp only [Act.put, List.setIfInBounds_toArray, List.set_cons_zero, List.set_cons_succ]
  refine g_take (i := 3) (v := .pointer (some ⟨o, 0, none⟩)) (by rfl) (by kernel_rfl) (by kernel_rfl) (by kernel_rfl) (by kernel_rfl) (fun _ _ _ h => (by cases h.1)) (Or.inl ⟨by rfl, fun W hS => (by obtain ⟨s2, s3, s4, o1, o2⟩ := hS; go_simp)⟩) hH ?_
  simp only [Act.put, List.setIfInBounds_toArray, List.set_cons_zero, List.set_cons_succ]
  refine g_take (i := 4) (v := .pointer (some ⟨o, 0, none⟩)) (by rfl) (by kernel_rfl) (by kernel_rfl) (by kernel_rfl) (by kernel_rfl) (fun _ _ _ h => (by cases h.1)) (Or.inl ⟨by rfl, fun W hS => (by obtain ⟨s2, s3, s4, o1, o2⟩ := hS; go_simp)⟩) hH ?_
  simp only [Act.put, List.setIfInBounds_toArray, List.set_cons_zero, List.set_cons_succ]
  refine g_take (i := 5) (v := .pointer (some ⟨o, 1, none⟩)) (by rfl) (by kernel_rfl) (by kernel_rfl) (by kernel_rfl) (by kernel_rfl) (fun _ _ _ h => (by cases h.1)) (Or.inl ⟨by rfl, fun W hS => (by obtain ⟨s2, s3, s4, o1, o2⟩ := hS; go_simp)⟩) hH ?_
  simp only [Act.put, List.setIfInBounds_toArray, List.set_cons_zero, List.set_cons_succ]
  refine g_take (i := 6) (v := lv) (by rfl) (by kernel_rfl) (by kernel_rfl) (by kernel_rfl) (by kernel_rfl) (fun _ _ _ h => (by cases h.1)) (Or.inl ⟨by rfl, fun W hS => (by obtain ⟨s2, s3, s4, o1, o2⟩ := hS; go_simp)⟩) hH ?_
  simp only [Act.put, List.setIfInBounds_toArray, List.set_cons_zero, List.set_cons_succ]
  refine g_take (i := 7) (v := .pointer (some ⟨s, 0, none⟩)) (by rfl) (by kernel_rfl) (by kernel_rfl) (by kernel_rfl) (by kernel_rfl) (fun _ _ _ h => (by cases h.1)) (Or.inl ⟨by rfl, fun W hS => (by obtain ⟨s2, s3, s4, o1, o2⟩ := hS; go_simp)⟩) hH ?_
  simp only [Act.put, List.setIfInBounds_toArray, List.set_cons_zero, List.set_cons_succ]
  refine g_take (i := 8) (v := .pointer (some ⟨s, 0, none⟩)) (by rfl) (by kernel_rfl) (by kernel_rfl) (by kernel_rfl) (by kernel_rfl) (fun _ _ _ h => (by cases h.1)) (Or.inl ⟨by rfl, fun W hS => (by obtain ⟨s2, s3, s4, o1, o2⟩ := hS; go_simp)⟩) hH ?_
  simp only [Act.put, List.setIfInBounds_toArray, List.set_cons_zero, List.set_cons_succ]
  refine g_take (i := 9) (v := .pointer (some ⟨s, 3, none⟩)) (by rfl) (by kernel_rfl) (by kernel_rfl) (by kernel_rfl) (by kernel_rfl) (fun _ _ _ h => (by cases h.1)) (Or.inl ⟨by rfl, fun W hS => (by obtain ⟨s2, s3, s4, o1, o2⟩ := hS; go_simp)⟩) hH ?_
  simp only [Act.put, List.setIfInBounds_toArray, List.set_cons_zero, List.set_cons_succ]
  refine g_take (i := 10) (v := .int .i64 E) (by rfl) (by kernel_rfl) (by kernel_rfl) (by kernel_rfl) (by kernel_rfl) (fun _ _ _ h => (by cases h.1)) (Or.inl ⟨by rfl, fun W hS => (by obtain ⟨s2, s3, s4, o1, o2⟩ := hS; go_simp)⟩) hH ?_
  simp only [Act.put, List.setIfInBounds_toArray, List.set_cons_zero, List.set_cons_succ]
  refine g_take (i := 11) (v := .pointer (some ⟨s, 0, none⟩)) (by rfl) (by kernel_rfl) (by kernel_rfl) (by kernel_rfl) (by kernel_rfl) (fun _ _ _ h => (by cases h.1)) (Or.inl ⟨by rfl, fun W hS => (by obtain ⟨s2, s3, s4, o1, o2⟩ := hS; go_simp)⟩) hH ?_
  simp only [Act.put, List.setIfInBounds_toArray, List.set_cons_zero, List.set_cons_succ]
  refine g_one (i := 12) (by kernel_rfl) (by rfl) (fun K hK => ?_)
  go_simp
  refine (at_any w3.drew s o rd b4' b2 o2 hrd).mono ?_
  rintro e w4 ⟨rfl, rfl⟩
  refine hK.out _ _ (fun _ => ⟨b2, b3, b4', o1, o2⟩) (fun _ => ?_)
  clear hK K hH
  refine g_one (i := 13) (by kernel_rfl) (by rfl) (fun K hK => ?_)
  go_simp
  refine hK.out _ _ (fun _ => ⟨b2, b3, b4', o1, o2⟩) (fun _ => ?_)
  clear hK K
  refine g_one (i := 14) (by kernel_rfl) (by rfl) (fun K hK => ?_)
  go_simp
  refine hK.out _ _ (fun _ => ⟨b2, b3, b4', o1, o2⟩) (fun _ => ?_)
  clear hK K
  refine g_one (i := 15) (by kernel_rfl) (by rfl) (fun K hK => ?_)
  go_simp
  refine hK.out _ _ (fun _ => ⟨b2, b3, b4', o1, o2⟩) (fun _ => ?_)
  clear hK K
  refine g_done (by kernel_rfl) ⟨by first | rfl | trivial, ?_⟩ _
  go_wp2
  go_ret3
  exact ⟨lv, by rw [HRD.out]; rfl, (HR.out.below (below_drew (Below.refl _ _))).below (below_drew (Below.refl _ _)), (HB3.out.trans (below_drew (Below.refl _ _))).trans (below_drew (Below.refl _ _))⟩

end Go.Proofs.YtalkjgijmceifaaGreatDoor
namespace Go.Proofs.YtalkjgijmceifaaGreatDoor
open Go.RowKit Go.Maps
set_option maxRecDepth 100000
set_option linter.unusedSimpArgs false
set_option linter.unusedVariables false
set_option linter.unusedSectionVars false
variable [Tab] [Fo]

/-- Nothing has turned but three blocks. -/
structure Fr3 (a b c : Nat) (w w' : World) : Prop where
  os : w'.os = w.os
  tape : w'.tape = w.tape
  output : w'.output = w.output
  size : w.heap.size ≤ w'.heap.size
  keep : ∀ k, k < w.heap.size → k ≠ a → k ≠ b → k ≠ c → w'.heap[k]? = w.heap[k]?
section
variable {a b c : Nat} {w w' w'' : World}
theorem Fr3.refl (a b c : Nat) (w : World) : Fr3 a b c w w := ⟨rfl, rfl, rfl, Nat.le_refl _, fun _ _ _ _ _ => rfl⟩
theorem Fr3.trans (h : Fr3 a b c w w') (k : Fr3 a b c w' w'') : Fr3 a b c w w'' := ⟨k.os.trans h.os, k.tape.trans h.tape, k.output.trans h.output, Nat.le_trans h.size k.size, fun i hi h1 h2 h3 => (k.keep i (Nat.lt_of_lt_of_le hi h.size) h1 h2 h3).trans (h.keep i hi h1 h2 h3)⟩
theorem Fr3.of_below (h : Below w.heap.size w w') : Fr3 a b c w w' := ⟨h.os, h.tape, h.output, h.size, fun k hk _ _ _ => h.block k hk⟩
theorem Fr3.below {base : Nat} (h : Fr3 a b c w w') (ha : base ≤ a) (hb : base ≤ b) (hc : base ≤ c) (hz : base ≤ w.heap.size) : Below base w w' :=
  ⟨h.os, h.tape, h.output, h.size, fun k hk => h.keep k (by omega) (by omega) (by omega) (by omega)⟩
theorem Fr3.blk {g : Nat} {t : TypeId} {cs : Array Value} (h : Fr3 a b c w w') (hB : Blk w g t cs) (h1 : g ≠ a) (h2 : g ≠ b) (h3 : g ≠ c) : Blk w' g t cs := (h.keep g hB.lt h1 h2 h3).trans hB
theorem Fr3.set (h : Fr3 a b c w w') (p : Addr) (u : Value) (hp : p.block = a ∨ p.block = b ∨ p.block = c) : Fr3 a b c w (w'.setCell p u) :=
  ⟨h.os, h.tape, h.output, by simpa [World.setCell] using h.size, fun k hk h1 h2 h3 => (Below.heap_setCell w' p u k (by rcases hp with hp | hp | hp <;> omega)).trans (h.keep k hk h1 h2 h3)⟩
theorem Fr3.row {base : Nat} {e : TypeId} {size n : Nat} {v : Value} {xs : List Value} (h : Fr3 a b c w w') (hr : w.ownsRow base e size v n xs) (hn : ∀ g, v.ownBlock = some g → g ≠ a ∧ g ≠ b ∧ g ≠ c) : w'.ownsRow base e size v n xs := by
  refine ⟨hr.1, ?_⟩
  rcases hr.2 with hv | ⟨g, cap, cur, hv, hg, hh, q⟩
  · exact .inl hv
  · obtain ⟨n1, n2, n3⟩ := hn g (by rw [hv]; rfl)
    exact .inr ⟨g, cap, cur, hv, hg, (h.keep g (Array.getElem?_eq_some_iff.1 hh).1 n1 n2 n3).trans hh, q⟩
end

/-- Events that wait: the row of what is left, in the block g, behind what was taken. -/
def WRow (w : World) (g : Nat) (v : Value) (l : List Ev) : Prop :=
  (l = [] ∧ v = .slice none 0 0) ∨
  ∃ d cap cur, v = .slice (some ⟨g, d * 3, none⟩) l.length cap ∧ l.length ≤ cap ∧ cap ≤ maxLen ∧ w.heap[g]? = some (.cells cur 38 (0, 0)) ∧ (d + cap) * 3 ≤ cur.size ∧ ∀ j, j < l.length * 3 → cur[d * 3 + j]? = (evcs l)[j]?
/-- A Stream whose events are asked for. -/
structure Wt (w : World) (base s sc o ck m g : Nat) (T : TypeId) (e : Int) (rd : Nat) (cl en : Bool) (l : List Ev) : Prop where
  blk : Blk w s 51 (sCells T m sc o e rd cl en)
  out : ∃ lv, Blk w o 47 #[.pointer (some ⟨ck, 0, none⟩), lv, .int .i64 0] ∧ WRow w g lv l
  bs : base ≤ s
  bo : base ≤ o
  bg : base ≤ g
theorem WRow.frame {w w' : World} {g : Nat} {v : Value} {l : List Ev} (h : WRow w g v l) (hk : ∀ o, w.heap[g]? = some o → w'.heap[g]? = some o) : WRow w' g v l := by
  rcases h with h | ⟨d, cap, cur, h1, h2, h3, h4, h5⟩
  · exact .inl h
  · exact .inr ⟨d, cap, cur, h1, h2, h3, hk _ h4, h5⟩
theorem RowT.we [Fo] {w : World} {base : Nat} {v : Value} {l : List Ev} (h : RowT w base v l) : WE w base v (l.drop (Fo.tk.getD 0)) := by
  rcases h with ⟨h0, h⟩ | ⟨n, h0, _, h⟩
  · rw [h0]; exact WE.of_erow h
  · rw [h0]; exact h
theorem EAt.wtk {T : TypeId} {w : World} {base s m sc o ck : Nat} {e : Int} {rd : Nat} {cl en : Bool} {st : List Pt} {l : List Ev} [Fo] (h : EAt T w base s m sc o ck e rd cl en st l) : ∃ g, Wt w base s sc o ck m g T e rd cl en (l.drop (Fo.tk.getD 0)) ∧ g < w.heap.size ∧ ¬ Fo.F g ∧ o < w.heap.size ∧ ¬ Fo.F o ∧ ∃ cs t fr, w.heap[g]? = some (.cells cs t fr) ∧ (t = 38 ∨ t = 51) := by
  obtain ⟨⟨lv, hB, hR, hnf⟩, _, hbo, hno⟩ := h.out
  rcases hR.we with ⟨hv, h0⟩ | ⟨g, d, cap, cur, hv, hg, hh, hnc, hm, hs, hj⟩
  · exact ⟨s, ⟨h.blk, ⟨lv, hB, .inl ⟨h0, hv⟩⟩, h.bs, hbo, h.bs⟩, h.blk.lt, h.ns, hB.lt, hno, _, _, _, h.blk, .inr rfl⟩
  · exact ⟨g, ⟨h.blk, ⟨lv, hB, .inr ⟨d, cap, cur, hv, hnc, hm, hh, hs, hj⟩⟩, h.bs, hbo, hg⟩, (Array.getElem?_eq_some_iff.1 hh).1, hnf g (by rw [hv]; rfl), hB.lt, hno, _, _, _, hh, .inl rfl⟩
theorem EAt.wt {T : TypeId} {w : World} {base s m sc o ck : Nat} {e : Int} {rd : Nat} {cl en : Bool} {st : List Pt} {l : List Ev} [Fo] (h : EAt T w base s m sc o ck e rd cl en st l) (htk : Fo.tk = none) : ∃ g, Wt w base s sc o ck m g T e rd cl en l ∧ g < w.heap.size ∧ ¬ Fo.F g ∧ o < w.heap.size ∧ ¬ Fo.F o := by
  obtain ⟨g, h1, h2, h3, h4, h5, _⟩ := h.wtk
  rw [htk] at h1
  exact ⟨g, h1, h2, h3, h4, h5⟩
def zeroEv : Value := .agg #[.int .i64 0, .string ⟨#[]⟩, .string ⟨#[]⟩]
theorem evcs_cons (x : Ev) (l : List Ev) : evcs (x :: l) = [.int .i64 x.k, .string x.t, .string x.v] ++ evcs l := by simp [evcs, evc]

theorem cells_two (W : World) (x : Ev) : ((W.alloc (.cells #[.int .i64 x.k, .string x.t, .string x.v] 38)).alloc (.cells #[.int .i64 x.k, .string x.t, .string x.v] 38)).cell? ⟨W.heap.size, 0, none⟩ = some (.int .i64 x.k) ∧
    ((W.alloc (.cells #[.int .i64 x.k, .string x.t, .string x.v] 38)).alloc (.cells #[.int .i64 x.k, .string x.t, .string x.v] 38)).cell? ⟨W.heap.size, 1, none⟩ = some (.string x.t) ∧
    ((W.alloc (.cells #[.int .i64 x.k, .string x.t, .string x.v] 38)).alloc (.cells #[.int .i64 x.k, .string x.t, .string x.v] 38)).cell? ⟨W.heap.size, 2, none⟩ = some (.string x.v) := by
  have h := (Blk.new W 38 #[.int .i64 x.k, .string x.t, .string x.v]).alloc (.cells #[.int .i64 x.k, .string x.t, .string x.v] 38)
  exact ⟨h.cell 0, h.cell 1, h.cell 2⟩
theorem take_tail {w : World} {o ck g d cap : Nat} {cur : Array Value} {x : Ev} {l : List Ev} {lv : Value} (hB : Blk w o 47 #[.pointer (some ⟨ck, 0, none⟩), lv, .int .i64 0]) (hgo : g ≠ o) (hnc : l.length + 1 ≤ cap) (hm : cap ≤ maxLen) (hh : w.heap[g]? = some (.cells cur 38 (0, 0))) (hsz : (d + cap) * 3 ≤ cur.size) (hj : ∀ j, j < (x :: l).length * 3 → cur[d * 3 + j]? = (evcs (x :: l))[j]?)
    (lv' : Value) (hlv : (l = [] ∧ lv' = .slice (some ⟨g, d * 3, none⟩) l.length 0) ∨ lv' = .slice (some ⟨g, d * 3 + 3, none⟩) l.length (cap - 1)) (W : World)
    (hW : W = ((((w.setCell ⟨g, d * 3, none⟩ (.int .i64 0)).setCell ⟨g, d * 3 + 1, none⟩ (.string ⟨#[]⟩)).setCell ⟨g, d * 3 + 2, none⟩ (.string ⟨#[]⟩)).setCell ⟨o, 1, none⟩ lv')) (c1 c2 : Obj) :
    (∃ lv', Blk ((W.alloc c1).alloc c2) o 47 #[.pointer (some ⟨ck, 0, none⟩), lv', .int .i64 0] ∧ WRow ((W.alloc c1).alloc c2) g lv' l) ∧ Fr3 o o g w ((W.alloc c1).alloc c2) := by
  have hG : Blk w g 38 cur := hh
  have al : Below W.heap.size W ((W.alloc c1).alloc c2) := ((Below.refl _ _).alloc (Nat.le_refl _) _).alloc (by simp) _
  have hG3 := ((hG.set_ (d * 3) (.int .i64 0)).set_ (d * 3 + 1) (.string ⟨#[]⟩)).set_ (d * 3 + 2) (.string ⟨#[]⟩)
  have hB3 := ((hB.far (p := ⟨g, d * 3, none⟩) (Ne.symm hgo) (.int .i64 0)).far (p := ⟨g, d * 3 + 1, none⟩) (Ne.symm hgo) (.string ⟨#[]⟩)).far (p := ⟨g, d * 3 + 2, none⟩) (Ne.symm hgo) (.string ⟨#[]⟩)
  have hB4 := hB3.set_ 1 lv'
  have hG4 := hG3.far (p := ⟨o, 1, none⟩) hgo lv'
  rw [← hW] at hB4 hG4
  have hF : Fr3 o o g w W := by
    rw [hW]
    exact ((((Fr3.refl o o g w).set ⟨g, d * 3, none⟩ _ (.inr (.inr rfl))).set ⟨g, d * 3 + 1, none⟩ _ (.inr (.inr rfl))).set ⟨g, d * 3 + 2, none⟩ _ (.inr (.inr rfl))).set ⟨o, 1, none⟩ _ (.inl rfl)
  refine ⟨⟨lv', hB4.below al hB4.lt, WRow.frame (w := W) ?_ fun q hq => (al.block g (Array.getElem?_eq_some_iff.1 hq).1).trans hq⟩, hF.trans (Fr3.of_below al)⟩
  rcases hlv with ⟨h0, h⟩ | h
  · exact .inr ⟨d, 0, _, h, by rw [h0]; exact Nat.le_refl _, Nat.zero_le _, hG4, by simp only [Array.size_setIfInBounds]; omega, fun j hjl => by rw [h0] at hjl; simp at hjl⟩
  · refine .inr ⟨d + 1, cap - 1, _, by rw [h, Nat.succ_mul], by omega, by omega, hG4, by simp only [Array.size_setIfInBounds]; omega, fun j hjl => ?_⟩
    have := hj (3 + j) (by rw [List.length_cons]; omega)
    rw [evcs_cons, List.getElem?_append_right (by simp)] at this
    simp only [List.length_cons, List.length_nil, Nat.zero_add, Nat.add_sub_cancel_left] at this
    rw [Array.getElem?_setIfInBounds_ne (by omega), Array.getElem?_setIfInBounds_ne (by omega), Array.getElem?_setIfInBounds_ne (by omega), show (d + 1) * 3 + j = d * 3 + (3 + j) by omega]
    exact this

/-- What Next answers of events that wait. -/
def NxS (e : Int) (cl : Bool) : Int := if e ≠ 0 then 4 else if cl then 3 else 2
theorem Wt.os {w : World} {base s sc o ck m g : Nat} {T : TypeId} {e : Int} {rd : Nat} {cl en : Bool} {l : List Ev} (h : Wt w base s sc o ck m g T e rd cl en l) : s ≠ o := by
  obtain ⟨lv, hB, _⟩ := h.out
  have k := h.blk
  rintro rfl
  unfold Blk at k hB
  rw [k] at hB
  injection hB with hB
  injection hB with _ hB
  exact absurd hB (by decide)

/-- The end, once Next has said so. -/
theorem endOf_any (w : World) (s : Nat) (T : TypeId) (m sc o : Nat) (e : Int) (rd : Nat) (cl en : Bool) (h : Blk w s 51 (sCells T m sc o e rd cl en)) (o2 : w.cell? ⟨o, 2, none⟩ = some (.int .i64 0)) (hr : rd ≤ 1000000) :
    Calls Tryz.prog 165 #[.pointer (some ⟨s, 0, none⟩)] w fun f w' => f = .returned (.tuple #[.int .i64 (if en then e else 0), .int .i64 (if en then (rd : Int) else -1)]) ∧ ∃ n, w' = w.drewN n := by
  have s3 : w.cell? ⟨s, 3, none⟩ = some (.int .i64 e) := h.cell 3
  have s4 : w.cell? ⟨s, 4, none⟩ = some (.int .i64 (rd : Int)) := h.cell 4
  have s6 : w.cell? ⟨s, 6, none⟩ = some (.bool en) := h.cell 6
  have s2 : w.cell? ⟨s, 2, none⟩ = some (.pointer (some ⟨o, 0, none⟩)) := h.cell 2
  clear h
  cases en with
  | true =>
    go_enter Tryz.func165, Tryz.ntmps165
    go_wp2
    refine region_g [] (S := (fun W => W.cell? ⟨s, 3, none⟩ = some (.int .i64 e))) (by kernel_rfl) s3 (fun hH => ?_)
    refine g_take (i := 0) (v := .pointer (some ⟨s, 0, none⟩)) (by rfl) (by kernel_rfl) (by kernel_rfl) (by kernel_rfl) (by kernel_rfl) (fun _ _ _ h => (by cases h.1)) (Or.inl ⟨by rfl, fun W hS => (by go_simp)⟩) hH ?_
    simp only [Act.put, List.setIfInBounds_toArray, List.set_cons_zero, List.set_cons_succ]
    refine g_take (i := 1) (v := .pointer (some ⟨s, 0, none⟩)) (by rfl) (by kernel_rfl) (by kernel_rfl) (by kernel_rfl) (by kernel_rfl) (fun _ _ _ h => (by cases h.1)) (Or.inl ⟨by rfl, fun W hS => (by go_simp)⟩) hH ?_
    simp only [Act.put, List.setIfInBounds_toArray, List.set_cons_zero, List.set_cons_succ]
    refine g_take (i := 2) (v := .pointer (some ⟨s, 3, none⟩)) (by rfl) (by kernel_rfl) (by kernel_rfl) (by kernel_rfl) (by kernel_rfl) (fun _ _ _ h => (by cases h.1)) (Or.inl ⟨by rfl, fun W hS => (by go_simp)⟩) hH ?_
    simp only [Act.put, List.setIfInBounds_toArray, List.set_cons_zero, List.set_cons_succ]
    refine g_take (i := 3) (v := .int .i64 e) (by rfl) (by kernel_rfl) (by kernel_rfl) (by kernel_rfl) (by kernel_rfl) (fun _ _ _ h => (by cases h.1)) (Or.inl ⟨by rfl, fun W hS => (by go_simp)⟩) hH ?_
    simp only [Act.put, List.setIfInBounds_toArray, List.set_cons_zero, List.set_cons_succ]
    refine g_take (i := 4) (v := .pointer (some ⟨s, 0, none⟩)) (by rfl) (by kernel_rfl) (by kernel_rfl) (by kernel_rfl) (by kernel_rfl) (fun _ _ _ h => (by cases h.1)) (Or.inl ⟨by rfl, fun W hS => (by go_simp)⟩) hH ?_
    simp only [Act.put, List.setIfInBounds_toArray, List.set_cons_zero, List.set_cons_succ]
    refine g_one (i := 5) (by kernel_rfl) (by rfl) (fun K hK => ?_)
    go_simp
    refine (at_any w.drew s o rd s4 s2 o2 hr).mono ?_
    rintro e w4 ⟨rfl, rfl⟩
    refine hK.out _ _ (fun _ => s3) (fun _ => ?_)
    clear hK K hH
    refine g_one (i := 6) (by kernel_rfl) (by rfl) (fun K hK => ?_)
    go_simp
    refine hK.out _ _ (fun _ => s3) (fun _ => ?_)
    clear hK K
    refine g_one (i := 7) (by kernel_rfl) (by rfl) (fun K hK => ?_)
    go_simp
    refine hK.out _ _ (fun _ => s3) (fun _ => ?_)
    clear hK K
    refine g_done (by kernel_rfl) ⟨by first | rfl | trivial, ?_⟩ _
    go_wp2
    go_ret2
    exact ⟨rfl, 2, rfl⟩
  | false =>
    go_enter Tryz.func165, Tryz.ntmps165
    go_wp2
    go_ret2
    exact ⟨rfl, 0, rfl⟩
end Go.Proofs.YtalkjgijmceifaaGreatDoor

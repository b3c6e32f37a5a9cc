/-
  stream: New and Decode, for any machine.
  Foreign blocks, others than before: what a decoder holds stays clear of blocks that are new, and lies as it lay where foreign blocks alone have turned, or what its events lay in has.
  outline: the stream's Tell where another is asked, too.
-/
import Derived.Test.YtalkjgijmceifaaGreatDoorOwA13
import Derived.Test.YtalkjgijmceifaaGreatDoorOwA12
namespace Go.Proofs.YtalkjgijmceifaaGreatDoor
open Go.RowKit Go.Maps
set_option maxRecDepth 100000
set_option linter.unusedSimpArgs false
set_option linter.unusedVariables false
set_option linter.unusedSectionVars false
variable [Tab] [Fo]
theorem RowT.erow [Fo] {w : World} {base : Nat} {v : Value} {l : List Ev} (htk : Fo.tk = none) (h : RowT w base v l) : ERow w base v l := by
  rcases h with ⟨_, h⟩ | ⟨n, h, _⟩
  · exact h
  · rw [htk] at h; cases h
/-- Where the text ends, or the error is met. -/
theorem at_any (w : World) (s o rd : Nat) (s4 : w.cell? ⟨s, 4, none⟩ = some (.int .i64 (rd : Int))) (s2 : w.cell? ⟨s, 2, none⟩ = some (.pointer (some ⟨o, 0, none⟩))) (o2 : w.cell? ⟨o, 2, none⟩ = some (.int .i64 0)) (hr : rd ≤ 1000000) :
    Calls Tryz.prog 26 #[.pointer (some ⟨s, 0, none⟩)] w fun e w' => e = .returned (.int .i64 (rd : Int)) ∧ w' = w.drew := by
  go_enter Tryz.func26, Tryz.ntmps26
  go_wp2
  go_region
  go_wp2
  go_ret
  exact ⟨rfl, rfl⟩
variable (M : Mach)

set_option maxHeartbeats 4000000 in
theorem snew_any (w : World) (base m : Nat) (hM : M.raw w base m) (htk : Fo.tk = none) (hb : base ≤ w.heap.size) :
    Calls Tryz.prog 23 #[.iface M.T (.pointer (some ⟨m, 0, none⟩))] w fun e w' => ∃ B s sc o ck, e = .returned (.pointer (some ⟨s, 0, none⟩)) ∧ StA w' base B s m sc o ck (ss0 M.toMachP) false false ∧ LowF base w w' := by
  go_enter Tryz.func23, Tryz.ntmps23
  go_wp2_with (first
    | (go_at_call 35; refine (new_any _).mono ?_; rintro e w1 ⟨rfl, rfl⟩))
  have hS1 : ScanAt (w.alloc (.cells #[.int .i64 0, .int .u8 128, .int .u8 191] 101)) w.heap.size 0 128 191 := Blk.new w _ _
  have al1 : Below w.heap.size w (w.alloc (.cells #[.int .i64 0, .int .u8 128, .int .u8 191] 101)) := (Below.refl _ _).alloc (Nat.le_refl _) _
  have hfl := M.raw_lim hM
  obtain ⟨W0, hW0⟩ : ∃ W0, w.alloc (.cells #[.int .i64 0, .int .u8 128, .int .u8 191] 101) = W0 := ⟨_, rfl⟩
  have hz1 : w.heap.size ≤ W0.heap.size := by rw [← hW0]; simp
  have hz0 : base ≤ W0.heap.size := Nat.le_trans hb (by rw [← hW0]; simp)
  rw [hW0] at hS1 al1 ⊢
  go_wp2_with (first
    | (go_at_call 18; refine (cnew_any W0 W0.heap.size (Nat.le_refl _) (Nat.le_trans hfl hz1)).mono ?_; rintro e w2 ⟨ck, rfl, hck, hC2, hb2⟩))
  go_ret
  have hz2 : W0.heap.size ≤ w2.heap.size := hb2.size
  have hS2 := hS1.below hb2 hS1.lt
  have hT : Below w2.heap.size w2 ((w2.alloc (.cells #[.pointer (some ⟨ck, 0, none⟩), .slice none 0 0, .int .i64 0] 47)).alloc (.cells (sCells M.T m w.heap.size w2.heap.size 0 0 false false) 51)) := ((Below.refl _ _).alloc (Nat.le_refl _) _).alloc (by simp) _
  have hO := Blk.new w2 47 #[.pointer (some ⟨ck, 0, none⟩), .slice none 0 0, .int .i64 0]
  have hO3 := hO.alloc (.cells (sCells M.T m w.heap.size w2.heap.size 0 0 false false) 51)
  have hSB := Blk.new (w2.alloc (.cells #[.pointer (some ⟨ck, 0, none⟩), .slice none 0 0, .int .i64 0] 47)) 51 (sCells M.T m w.heap.size w2.heap.size 0 0 false false)
  have hsz : (w2.alloc (.cells #[.pointer (some ⟨ck, 0, none⟩), .slice none 0 0, .int .i64 0] 47)).heap.size = w2.heap.size + 1 := by simp
  rw [hsz] at hSB
  refine ⟨((w2.alloc (.cells #[.pointer (some ⟨ck, 0, none⟩), .slice none 0 0, .int .i64 0] 47)).alloc (.cells (sCells M.T m w.heap.size w2.heap.size 0 0 false false) 51)).heap.size, w2.heap.size + 1, w.heap.size, w2.heap.size, ck, rfl, ?_, ?_⟩
  · refine ⟨hSB, hS2.below hT hS2.lt, M.start hM hb ((al1.trans (hb2.mono hz1)).trans (hT.mono (Nat.le_trans hz1 hz2))) hz1 (Nat.le_trans hz2 hT.size) ⟨⟨_, hO3, RowT.nil htk _ _, NF.nil⟩, hC2.below hT, hz2, nf_new (by omega)⟩, ⟨nf_new (by omega), nf_new hfl⟩, ?_⟩
    have := hS1.lt
    exact ⟨hSB.lt, Nat.lt_of_lt_of_le hS2.lt hT.size, by omega, hb, Nat.le_refl _, Nat.le_trans (Nat.le_trans hz0 hz2) hT.size⟩
  · exact ((LowF.of_below al1 hb).trans (LowF.of_below hb2 hz0)).trans (LowF.of_below hT (Nat.le_trans hz0 hz2))

variable {M}
/-- What a decoder returns. -/
def DEnd (lv : Value) (x : Ss M.toMachP) : Ending := .returned (.tuple #[lv, .int .i64 (closeE x), .int .i64 (x.rd : Int)])

set_option maxHeartbeats 4000000 in
theorem sdecode_any (w : World) (base m : Nat) (v : Value) (bs : List UInt8) (hM : M.raw w base m) (htk : Fo.tk = none) (hb : base ≤ w.heap.size) (hn : bs.length ≤ 50000) (hv : ∀ w', Below base w w' → BRead w' v bs) (hw : SN M.num base w) :
    Calls Tryz.prog 16 #[.iface M.T (.pointer (some ⟨m, 0, none⟩)), v] w fun e w' => ∃ lv, e = DEnd lv (feedG (ss0 M.toMachP) bs) ∧ ERow w' base lv (M.l (closeBs (feedG (ss0 M.toMachP) bs))) ∧ Below base w w' := by
  have hx := sinv_feedG bs (ss0 M.toMachP) 0 sinv0
  rw [Nat.zero_add] at hx
  have HX := Lib.hid hx
  have HV := Lib.hid hv
  have HN := Lib.hid hn
  have HWs := Lib.hid hw
  clear hx hv hw hn
  unfold DEnd
  generalize hy : feedG (ss0 M.toMachP) bs = y at *
  have HY := Lib.hid hy
  clear hy
  obtain ⟨E, hE⟩ : ∃ E, closeE y = E := ⟨_, rfl⟩
  rw [hE]
  have HE := Lib.hid hE
  clear hE
  go_enter Tryz.func16, Tryz.ntmps16
  go_wp2_with (first
    | (go_at_call 23; refine (snew_any M _ base m hM htk hb).mono ?_; rintro e w1 ⟨B, s, sc, o, ck, rfl, hA1, hb1⟩))
  have HB1 := Lib.hid hb1.low
  have HC := Lib.hid (feed_any w1 base B s m sc o ck (ss0 M.toMachP) false 0 v bs hA1 sinv0 (by have := HN.out; omega) (fun w' h => HV.out w' (HB1.out.trans h.low)) (HWs.out.below hb1.low))
  clear hb1 hA1 hM
  go_wp2_with fail
  refine HC.out.mono ?_
  rintro e w2 ⟨rfl, hA2, hb2⟩
  rw [HY.out] at hA2
  have HB2 := Lib.hid (HB1.out.trans hb2.low)
  have hD := sclose_any w2 base B s m sc o ck y false (2 * bs.length) hA2 HX.out.b (by have := HN.out; omega) (HWs.out.below HB2.out)
  rw [HE.out] at hD
  have HD := Lib.hid hD
  clear hD
  clear hb2 hA2 HC
  go_wp2_with fail
  refine HD.out.mono ?_
  rintro e w3 ⟨rfl, hE3, hb3⟩
  have HB3 := Lib.hid (HB2.out.trans hb3.low)
  have b2 := hE3.blk.cell 2
  have b3 := hE3.blk.cell 3
  have b4 := hE3.blk.cell 4
  unfold sCells at b2 b3 b4
  obtain ⟨⟨lv, hO, hR0, _⟩, _, _, _⟩ := hE3.out
  have hR := hR0.erow htk
  have o1 := hO.cell 1
  have o2 : w3.cell? ⟨o, 2, none⟩ = some (.int .i64 0) := hO.cell 2
  have HR := Lib.hid hR
  have hrd : y.rd ≤ 1000000 := by have := HX.out.rd; have := HN.out; omega
  clear hE3 hb3 hO hR HD hR0
  have b4' : w3.cell? ⟨s, 4, none⟩ = some (.int .i64 (y.rd : Int)) := b4
  obtain ⟨rd, hrd0⟩ : ∃ rd, y.rd = rd := ⟨_, rfl⟩
  rw [hrd0] at b4' hrd
  have HRD := Lib.hid hrd0
  clear hrd0 b4
  go_wp2
  refine region_g [] (S := (fun W => W.cell? ⟨s, 2, none⟩ = some (.pointer (some ⟨o, 0, none⟩)) ∧ W.cell? ⟨s, 3, none⟩ = some (.int .i64 E) ∧ W.cell? ⟨s, 4, none⟩ = some (.int .i64 (rd : Int)) ∧ W.cell? ⟨o, 1, none⟩ = some lv ∧ W.cell? ⟨o, 2, none⟩ = some (.int .i64 0))) (by kernel_rfl) ⟨b2, b3, b4', o1, o2⟩ (fun hH => ?_)
  refine g_take (i := 0) (v := .pointer (some ⟨s, 0, none⟩)) (by rfl) (by kernel_rfl) (by kernel_rfl) (by kernel_rfl) (by kernel_rfl) (fun _ _ _ h => (by cases h.1)) (Or.inl ⟨by rfl, fun W hS => (by obtain ⟨s2, s3, s4, o1, o2⟩ := hS; go_simp)⟩) hH ?_
  simp only [Act.put, List.setIfInBounds_toArray, List.set_cons_zero, List.set_cons_succ]
  refine g_take (i := 1) (v := .pointer (some ⟨s, 0, none⟩)) (by rfl) (by kernel_rfl) (by kernel_rfl) (by kernel_rfl) (by kernel_rfl) (fun _ _ _ h => (by cases h.1)) (Or.inl ⟨by rfl, fun W hS => (by obtain ⟨s2, s3, s4, o1, o2⟩ := hS; go_simp)⟩) hH ?_
  simp only [Act.put, List.setIfInBounds_toArray, List.set_cons_zero, List.set_cons_succ]
  refine g_take (i := 2) (v := .pointer (some ⟨s, 2, none⟩)) (by rfl) (by kernel_rfl) (by kernel_rfl) (by kernel_rfl) (by kernel_rfl) (fun _ _ _ h => (by cases h.1)) (Or.inl ⟨by rfl, fun W hS => (by obtain ⟨s2, s3, s4, o1, o2⟩ := hS; go_simp)⟩) hH ?_
  simp only [Act.put, List.setIfInBounds_toArray, List.set_cons_zero, List.set_cons_succ]
  refine g_take (i := 3) (v := .pointer (some ⟨o, 0, none⟩)) (by rfl) (by kernel_rfl) (by kernel_rfl) (by kernel_rfl) (by kernel_rfl) (fun _ _ _ h => (by cases h.1)) (Or.inl ⟨by rfl, fun W hS => (by obtain ⟨s2, s3, s4, o1, o2⟩ := hS; go_simp)⟩) hH ?_
  simp only [Act.put, List.setIfInBounds_toArray, List.set_cons_zero, List.set_cons_succ]
  refine g_take (i := 4) (v := .pointer (some ⟨o, 0, none⟩)) (by rfl) (by kernel_rfl) (by kernel_rfl) (by kernel_rfl) (by kernel_rfl) (fun _ _ _ h => (by cases h.1)) (Or.inl ⟨by rfl, fun W hS => (by obtain ⟨s2, s3, s4, o1, o2⟩ := hS; go_simp)⟩) hH ?_
  simp only [Act.put, List.setIfInBounds_toArray, List.set_cons_zero, List.set_cons_succ]
  refine g_take (i := 5) (v := .pointer (some ⟨o, 1, none⟩)) (by rfl) (by kernel_rfl) (by kernel_rfl) (by kernel_rfl) (by kernel_rfl) (fun _ _ _ h => (by cases h.1)) (Or.inl ⟨by rfl, fun W hS => (by obtain ⟨s2, s3, s4, o1, o2⟩ := hS; go_simp)⟩) hH ?_
  simp only [Act.put, List.setIfInBounds_toArray, List.set_cons_zero, List.set_cons_succ]
  refine g_take (i := 6) (v := lv) (by rfl) (by kernel_rfl) (by kernel_rfl) (by kernel_rfl) (by kernel_rfl) (fun _ _ _ h => (by cases h.1)) (Or.inl ⟨by rfl, fun W hS => (by obtain ⟨s2, s3, s4, o1, o2⟩ := hS; go_simp)⟩) hH ?_
  simp only [Act.put, List.setIfInBounds_toArray, List.set_cons_zero, List.set_cons_succ]
  refine g_take (i := 7) (v := .pointer (some ⟨s, 0, none⟩)) (by rfl) (by kernel_rfl) (by kernel_rfl) (by kernel_rfl) (by kernel_rfl) (fun _ _ _ h => (by cases h.1)) (Or.inl ⟨by rfl, fun W hS => (by obtain ⟨s2, s3, s4, o1, o2⟩ := hS; go_simp)⟩) hH ?_
  simp only [Act.put, List.setIfInBounds_toArray, List.set_cons_zero, List.set_cons_succ]
  refine g_take (i := 8) (v := .pointer (some ⟨s, 0, none⟩)) (by rfl) (by kernel_rfl) (by kernel_rfl) (by kernel_rfl) (by kernel_rfl) (fun _ _ _ h => (by cases h.1)) (Or.inl ⟨by rfl, fun W hS => (by obtain ⟨s2, s3, s4, o1, o2⟩ := hS; go_simp)⟩) hH ?_
  simp only [Act.put, List.setIfInBounds_toArray, List.set_cons_zero, List.set_cons_succ]
  refine g_take (i := 9) (v := .pointer (some ⟨s, 3, none⟩)) (by rfl) (by kernel_rfl) (by kernel_rfl) (by kernel_rfl) (by kernel_rfl) (fun _ _ _ h => (by cases h.1)) (Or.inl ⟨by rfl, fun W hS => (by obtain ⟨s2, s3, s4, o1, o2⟩ := hS; go_simp)⟩) hH ?_
  simp only [Act.put, List.setIfInBounds_toArray, List.set_cons_zero, List.set_cons_succ]
  refine g_take (i := 10) (v := .int .i64 E) (by rfl) (by kernel_rfl) (by kernel_rfl) (by kernel_rfl) (by kernel_rfl) (fun _ _ _ h => (by cases h.1)) (Or.inl ⟨by rfl, fun W hS => (by obtain ⟨s2, s3, s4, o1, o2⟩ := hS; go_simp)⟩) hH ?_
  simp only [Act.put, List.setIfInBounds_toArray, List.set_cons_zero, List.set_cons_succ]
  refine g_take (i := 11) (v := .pointer (some ⟨s, 0, none⟩)) (by rfl) (by kernel_rfl) (by kernel_rfl) (by kernel_rfl) (by kernel_rfl) (fun _ _ _ h => (by cases h.1)) (Or.inl ⟨by rfl, fun W hS => (by obtain ⟨s2, s3, s4, o1, o2⟩ := hS; go_simp)⟩) hH ?_
  simp only [Act.put, List.setIfInBounds_toArray, List.set_cons_zero, List.set_cons_succ]
  refine g_one (i := 12) (by kernel_rfl) (by rfl) (fun K hK => ?_)
  go_simp
  refine (at_any w3.drew s o rd b4' b2 o2 hrd).mono ?_
  rintro e w4 ⟨rfl, rfl⟩
  refine hK.out _ _ (fun _ => ⟨b2, b3, b4', o1, o2⟩) (fun _ => ?_)
  clear hK K hH
  refine g_one (i := 13) (by kernel_rfl) (by rfl) (fun K hK => ?_)
  go_simp
  refine hK.out _ _ (fun _ => ⟨b2, b3, b4', o1, o2⟩) (fun _ => ?_)
  clear hK K
  refine g_one (i := 14) (by kernel_rfl) (by rfl) (fun K hK => ?_)
  go_simp
  refine hK.out _ _ (fun _ => ⟨b2, b3, b4', o1, o2⟩) (fun _ => ?_)
  clear hK K
  refine g_one (i := 15) (by kernel_rfl) (by rfl) (fun K hK => ?_)
  go_simp
  refine hK.out _ _ (fun _ => ⟨b2, b3, b4', o1, o2⟩) (fun _ => ?_)
  clear hK K
  refine g_done (by kernel_rfl) ⟨by first | rfl | trivial, ?_⟩ _
  go_wp2
  go_ret3
  exact ⟨lv, by rw [HRD.out]; rfl, (HR.out.below (below_drew (Below.refl _ _))).below (below_drew (Below.refl _ _)), (HB3.out.trans (below_drew (Below.refl _ _))).trans (below_drew (Below.refl _ _))⟩

end Go.Proofs.YtalkjgijmceifaaGreatDoor
namespace Go.Proofs.YtalkjgijmceifaaGreatDoor
open Go.RowKit Go.Maps
set_option maxRecDepth 100000
set_option linter.unusedSimpArgs false
set_option linter.unusedVariables false
set_option linter.unusedSectionVars false
variable [Tab]

section
variable {w w' : World} {f1 f2 : Fo}
/-- The blocks that are foreign now were so, or are new. -/
def FoS (f1 f2 : Fo) (w : World) : Prop := ∀ k, k < w.heap.size → f2.F k → f1.F k
/-- What is of some kinds, and not foreign, lies as it lay. -/
def Mv (f1 : Fo) (p : Obj → Prop) (w w' : World) : Prop := ∀ k o, w.heap[k]? = some o → p o → ¬ f1.F k → w'.heap[k]? = some o
theorem Mv.of_below {p : Obj → Prop} (hb : Below w.heap.size w w') : Mv f1 p w w' := fun k o ho _ _ => (hb.block k (Array.getElem?_eq_some_iff.1 ho).1).trans ho
theorem Mv.narrow {p q : Obj → Prop} (h : Mv f1 p w w') (hq : ∀ o, q o → p o) : Mv f1 q w w' := fun k o ho hp hn => h k o ho (hq o hp) hn
theorem row_ltF {b : Nat} {e : TypeId} {size n : Nat} {v : Value} {xs : List Value} (h : w.ownsRow b e size v n xs) {g : Nat} (hg : v.ownBlock = some g) : g < w.heap.size := (World.ownsRow.lt h g hg).2
theorem row_mv {p : Obj → Prop} {b : Nat} {e : TypeId} {size n : Nat} {v : Value} {xs : List Value} (hm : Mv f1 p w w') (hr : w.ownsRow b e size v n xs) (hn : ∀ g, v.ownBlock = some g → ¬ f1.F g) (hp : ∀ cur, p (.cells cur e (0, 0))) : w'.ownsRow b e size v n xs := by
  refine ⟨hr.1, ?_⟩
  rcases hr.2 with hv | ⟨g, cap, cur, hv, hg, hh, q⟩
  · exact .inl hv
  · exact .inr ⟨g, cap, cur, hv, hg, hm g _ hh (hp _) (hn g (by rw [hv]; rfl)), q⟩
theorem maps_fo (hF : FoS f1 f2 w) {b : Nat} : ∀ {l : List PQ}, @MapsOk f1 w b l → @MapsOk f2 w b l
  | [], _ => trivial
  | q :: r, h => by
    refine ⟨fun k hk => ⟨⟨(h.1 k hk).1.1, fun hc => (h.1 k hk).1.2 (hF k ?_ hc)⟩, (h.1 k hk).2⟩, h.2.1, maps_fo hF h.2.2⟩
    have h2 := h.2.1
    rw [hk] at h2
    obtain ⟨es, c, ho⟩ := SetAt.obj h2
    exact (Array.getElem?_eq_some_iff.1 ho).1
theorem maps_nf {b : Nat} : ∀ {l : List PQ}, @MapsOk f1 w b l → ∀ q ∈ l, ∀ k, q.m = some k → ¬ f1.F k
  | [], _, q, hq => by cases hq
  | p :: r, hm, q, hq => by
    intro k hk
    rcases List.mem_cons.1 hq with rfl | hq
    · exact (hm.1 k hk).1.2
    · exact maps_nf hm.2.2 q hq k hk
theorem crep_mv (hF : FoS f1 f2 w) (hm : Mv f1 cObj w w') (hl : f2.lim ≤ w'.heap.size) {base g rb cap : Nat} {qs : List PQ} (h : @CRep f1 w base g rb cap qs) : @CRep f2 w' base g rb cap qs := by
  obtain ⟨h1, h2, h3, h4, h5, h6, h7⟩ := h
  have hr := row_ltF h3 (g := rb) rfl
  have hnf := maps_nf h4
  have hmp := maps_fo hF h4
  refine @CRep.mk f2 w' base g rb cap qs h1 (hm g _ h2 (.inl rfl) h5) ?_ ?_ ⟨fun hc => h5 (hF g (Blk.lt h2) hc), fun hc => h6 (hF rb hr hc), hl⟩
  · exact row_mv hm h3 (fun k hk hc => by have e : rb = k := Option.some.inj hk; exact h6 (e ▸ hc)) (fun _ => .inr rfl)
  · refine @MapsOk.keep _ f2 w w' base qs hmp fun q hq b hqb hbm => ?_
    obtain ⟨es, c, ho⟩ := hbm
    rw [hm b _ ho trivial (hnf q hq b hqb), ho]
theorem crep_fo (hF : FoS f1 f2 w) (hb : Below w.heap.size w w') (hl : f2.lim ≤ w'.heap.size) {base g rb cap : Nat} {qs : List PQ} (h : @CRep f1 w base g rb cap qs) : @CRep f2 w' base g rb cap qs := crep_mv hF (Mv.of_below hb) hl h
theorem rowt_mv (hk : f2.tk = f1.tk) (hm : Mv f1 eObj w w') {base : Nat} {v : Value} {l : List Ev} (h : @RowT f1 w base v l) (hn : @NF f1 v) : @RowT f2 w' base v l := by
  have hk' : ∀ g o, v.ownBlock = some g → w.heap[g]? = some o → w'.heap[g]? = some o := fun g o hg ho => by
    obtain ⟨_, _, cur, hc⟩ := @RowT.obj _ f1 _ _ _ _ h g hg
    have e := ho
    rw [hc] at e
    injection e with e
    exact hm g o ho (by rw [← e]; rfl) (hn g hg)
  have h2 := @RowT.frame _ f1 _ w' _ _ _ h hk'
  rcases h2 with ⟨h0, h2⟩ | ⟨n, h0, h1, h2⟩
  · exact .inl ⟨hk.trans h0, h2⟩
  · exact .inr ⟨n, hk.trans h0, h1, h2⟩
theorem oat_mv (hF : FoS f1 f2 w) (hk : f2.tk = f1.tk) (hm : Mv f1 tObj w w') (hl : f2.lim ≤ w'.heap.size) {base o ck : Nat} {st : List Pt} {l : List Ev} (h : @OAt f1 w base o ck st l) : @OAt f2 w' base o ck st l := by
  obtain ⟨⟨lv, hB, hR, hf⟩, ⟨rb, cap, qs, hq, hC⟩, hbo, ho⟩ := h
  exact @OAt.mk f2 w' base o ck st l ⟨lv, hm o _ hB (.inr (.inr (.inl rfl))) ho, rowt_mv hk (hm.narrow fun _ => e_of_t) hR hf, fun g hg hc => hf g hg (hF g (@RowT.lt _ f1 _ _ _ _ hR g hg).2 hc)⟩ ⟨rb, cap, qs, hq, crep_mv hF (hm.narrow fun _ => c_of_t) hl hC⟩ hbo fun hc => ho (hF o (Blk.lt hB) hc)
theorem oat_fo (hF : FoS f1 f2 w) (hk : f2.tk = f1.tk) (hb : Below w.heap.size w w') (hl : f2.lim ≤ w'.heap.size) {base o ck : Nat} {st : List Pt} {l : List Ev} (h : @OAt f1 w base o ck st l) : @OAt f2 w' base o ck st l := oat_mv hF hk (Mv.of_below hb) hl h
theorem tch_wk {f1 f2 : Fo} (hF : ∀ k, f2.F k → f1.F k) {c : Nat} {p : Obj → Prop} (h : @Tch f1 c p w w') : @Tch f2 c p w w' :=
  @Tch.mk f2 c p w w' (@Tch.os f1 _ _ _ _ h) (@Tch.tape f1 _ _ _ _ h) (@Tch.output f1 _ _ _ _ h) (@Tch.size f1 _ _ _ _ h) (fun k o ho hc => @Tch.block f1 _ _ _ _ h k o ho (hc.imp id (Or.imp id (hF k))))
/-- The same foreign blocks, and those that were made since. -/
@[reducible] def Fo.since (fo : Fo) (w w1 : World) (hl : fo.lim ≤ w1.heap.size) : Fo :=
  ⟨fun k => fo.F k ∨ (w.heap.size ≤ k ∧ k < w1.heap.size), w1.heap.size, fun k h => by
    rcases h with h | h
    · exact Nat.lt_of_lt_of_le (fo.ok k h) hl
    · exact h.2, fo.tk⟩
/-- Tell: what was made since lies as it lay. -/
theorem tell_new [fo : Fo] {w w1 : World} {base o ck : Nat} {st : List Pt} {l : List Ev} (x : Ev) (h : OAt w base o ck st l) (hb1 : Below w.heap.size w w1) (hg : Good st) (hw : NumW x.k w1) (hs : x.t.size ≤ 140737488355328) (hl : l.length ≤ 1000000) (hb : base ≤ w.heap.size) (hlim : Fo.lim ≤ w.heap.size) :
    Calls Tryz.prog 149 #[.pointer (some ⟨o, 0, none⟩), .agg #[.int .i64 x.k, .string x.t, .string x.v], .slice none 0 0] w1 fun e w' => e = .returned (.int .i64 (stepE st x)) ∧ OAt w' base o ck (stepS st x) (tellL st l x) ∧ Tch base tObj w w' ∧ ∀ k q, w.heap.size ≤ k → w1.heap[k]? = some q → w'.heap[k]? = some q := by
  have hl1 : fo.lim ≤ w1.heap.size := Nat.le_trans hlim hb1.size
  have hO : @OAt (Fo.since fo w w1 hl1) w1 base o ck st l := oat_fo (f1 := fo) (f2 := Fo.since fo w w1 hl1) (fun k hk hc => by
    rcases hc with hc | hc
    · exact hc
    · omega) rfl hb1 (Nat.le_refl _) h
  refine (@tell_any _ (Fo.since fo w w1 hl1) w1 base o ck st l x hO hg hw hs hl (Nat.le_trans hb hb1.size)).mono ?_
  rintro e w' ⟨rfl, hO', hT⟩
  have hT1 : Tch base tObj w1 w' := tch_wk (f1 := Fo.since fo w w1 hl1) (f2 := fo) (fun k hk => .inl hk) hT
  refine ⟨rfl, oat_fo (f1 := Fo.since fo w w1 hl1) (f2 := fo) (fun k _ hc => .inl hc) rfl (Below.refl _ _) (Nat.le_trans hl1 hT1.size) hO', (Tch.of_below hb1).trans hT1, fun k q hk hq => ?_⟩
  exact @Tch.block (Fo.since fo w w1 hl1) _ _ _ _ hT k q hq (.inr (.inr (.inr ⟨hk, (Array.getElem?_eq_some_iff.1 hq).1⟩)))
end
end Go.Proofs.YtalkjgijmceifaaGreatDoor
namespace Go.Proofs.YtalkjgijmceifaaGreatDoor
open Go.RowKit Go.Maps
set_option maxRecDepth 100000
set_option linter.unusedSimpArgs false
set_option linter.unusedVariables false
set_option linter.unusedSectionVars false
variable [Tab]

/-- The other that is asked: an Anchors' Step. -/
def othV (a : Nat) : Value := .func (.func 34) #[.pointer (some ⟨a, 0, none⟩)] #[]
/-- What the other does to what is known of the foreign blocks. -/
structure FoM (f1 f2 : Fo) (w1 w' : World) : Prop where
  fs : FoS f1 f2 w1
  tk : f2.tk = f1.tk
  lim : f2.lim ≤ w'.heap.size
  sz : w1.heap.size ≤ w'.heap.size
  mv : Mv f1 tObj w1 w'
theorem FoM.oat {f1 f2 : Fo} {w1 w' : World} (h : FoM f1 f2 w1 w') {base o ck : Nat} {st : List Pt} {l : List Ev} (hO : @OAt f1 w1 base o ck st l) : @OAt f2 w' base o ck st l := oat_mv h.fs h.tk h.mv h.lim hO
theorem FoM.blk {f1 f2 : Fo} {w1 w' : World} (h : FoM f1 f2 w1 w') {g : Nat} {t : TypeId} {cs : Array Value} (hB : Blk w1 g t cs) (ht : tObj (.cells cs t (0, 0))) (hf : ¬ f1.F g) : Blk w' g t cs := h.mv g _ hB ht hf
theorem FoM.row {f1 f2 : Fo} {w1 w' : World} (h : FoM f1 f2 w1 w') {base : Nat} {v : Value} {l : List Ev} (hR : @RowT f1 w1 base v l) (hn : @NF f1 v) : @RowT f2 w' base v l ∧ @NF f2 v :=
  ⟨rowt_mv h.tk (h.mv.narrow fun _ => e_of_t) hR hn, fun g hg hc => hn g hg (h.fs g (@RowT.lt _ f1 _ _ _ _ hR g hg).2 hc)⟩
/-- How such a telling ends. -/
def ToP (f1 : Fo) (w : World) (base o ck : Nat) (st : List Pt) (l : List Ev) (x : Ev) (R : Fo → Int → World → Prop) (e : Ending) (w' : World) : Prop :=
  (stepE st x ≠ 0 ∧ e = .returned (.int .i64 (stepE st x)) ∧ @OAt f1 w' base o ck st l ∧ @Tch f1 base tObj w w') ∨
  (stepE st x = 0 ∧ ∃ k f2 w1 w2, e = .returned (.int .i64 k) ∧ @Tch f1 base tObj w w1 ∧ R f2 k w2 ∧ FoM f1 f2 w1 w2 ∧ ((k ≠ 0 ∧ w' = w2 ∧ @OAt f2 w' base o ck (stepS st x) l) ∨ (k = 0 ∧ @OAt f2 w' base o ck (stepS st x) (l ++ [x]) ∧ @Tch f2 base tObj w2 w')))

section
variable [f1 : Fo]
set_option maxHeartbeats 8000000 in
theorem tello_core (w : World) (base o ck : Nat) (st : List Pt) (l : List Ev) (x : Ev) (g a : Nat) (h : OAt w base o ck st l) (hgB : Blk w g 39 #[othV a]) (hg : Good st) (hw : NumW x.k w) (hs : x.t.size ≤ 140737488355328) (hl : l.length ≤ 1000000) (hb : base ≤ w.heap.size) (R : Fo → Int → World → Prop)
    (hOt : stepE st x = 0 → ∀ w1, Tch base tObj w w1 → Calls Tryz.prog 34 #[.pointer (some ⟨a, 0, none⟩), .agg #[.int .i64 x.k, .string x.t, .string x.v]] w1 fun e w' => ∃ k f2, e = .returned (.int .i64 k) ∧ R f2 k w' ∧ FoM f1 f2 w1 w') :
    Calls Tryz.prog 149 #[.pointer (some ⟨o, 0, none⟩), .agg #[.int .i64 x.k, .string x.t, .string x.v], .slice (some ⟨g, 0, none⟩) 1 1] w (ToP f1 w base o ck st l x R) := by
  obtain ⟨⟨lv, hB, hR, hnf⟩, hC, hbo, hfo⟩ := h
  have hB1 := hB.alloc (.cells #[.int .i64 x.k, .string x.t, .string x.v] 38)
  have hX1 := Blk.new w 38 #[.int .i64 x.k, .string x.t, .string x.v]
  have hR1 := hR.alloc (.cells #[.int .i64 x.k, .string x.t, .string x.v] 38)
  have al : Below w.heap.size w (w.alloc (.cells #[.int .i64 x.k, .string x.t, .string x.v] 38)) := (Below.refl _ _).alloc (Nat.le_refl _) _
  have hC1 := hC.below al
  have hw1 := hw.below al
  obtain ⟨W0, hW0⟩ : ∃ W0, w.alloc (.cells #[.int .i64 x.k, .string x.t, .string x.v] 38) = W0 := ⟨_, rfl⟩
  have hs0 : W0.heap.size = w.heap.size + 1 := by rw [← hW0]; simp
  rw [hW0] at hB1 hX1 hR1 hC1 hw1 al
  have b0 : W0.cell? ⟨o, 0, none⟩ = some (.pointer (some ⟨ck, 0, none⟩)) := hB1.cell 0
  have x0 : W0.cell? ⟨w.heap.size, 0, none⟩ = some (.int .i64 x.k) := hX1.cell 0
  have x1 : W0.cell? ⟨w.heap.size, 1, none⟩ = some (.string x.t) := hX1.cell 1
  have x2 : W0.cell? ⟨w.heap.size, 2, none⟩ = some (.string x.v) := hX1.cell 2
  have hS := estep_any W0.drew base ck st x (hC1.below (below_drew (Below.refl _ _))) hg (hw1.drewN 1) hs
  unfold SPost evV at hS
  have HOt := Lib.hid hOt
  have hgB1 := hgB.alloc (.cells #[.int .i64 x.k, .string x.t, .string x.v] 38)
  rw [hW0] at hgB1
  have HGB := Lib.hid hgB1
  have hglt : g < w.heap.size := hgB.lt
  have hlim1 : f1.lim ≤ w.heap.size := hC.lim
  clear hgB hgB1 hOt
  have HO := Lib.hid (fun g hg => (RowT.lt hR (g := g) hg).2)
  have HB := Lib.hid hB1
  have HX := Lib.hid hX1
  have HR := Lib.hid hR1
  have HAL := Lib.hid al
  have hbz : base ≤ W0.heap.size := by omega
  clear hB hR hC hB1 hX1 hR1 hC1 al
  by_cases hz : stepE st x = 0
  case neg =>
    have hsn : stepS st x = st := by unfold stepS; rw [if_neg hz]
    have e1 : (stepE st x == 0) = false := by rw [beq_eq_false_iff_ne]; exact hz
    have e2 : (stepE st x != 0) = true := by simp [bne, e1]
    rw [hsn] at hS
    suffices hsf : Calls Tryz.prog 149 #[.pointer (some ⟨o, 0, none⟩), .agg #[.int .i64 x.k, .string x.t, .string x.v], .slice (some ⟨g, 0, none⟩) 1 1] w (fun e w' => e = .returned (.int .i64 (stepE st x)) ∧ @OAt f1 w' base o ck st l ∧ @Tch f1 base tObj w w') from hsf.mono fun e w' hq => .inl ⟨hz, hq⟩
    generalize stepE st x = E at *
    clear hz hsn
    go_enter Tryz.func149, Tryz.ntmps149
    go_wp2
    go_still_tail 5, (by kernel_rfl)
    change wpList _ _ _ _ _ W0.drew
    generalize hwd : W0.drew = wd at *
    have HD := Lib.hid (show Below W0.heap.size W0 wd by rw [← hwd]; exact below_drew (Below.refl _ _))
    clear hwd b0 x0 x1 x2
    go_wp2_with (first
      | (go_at_call 19; refine hS.mono ?_; rintro e w3 ⟨rfl, hC3, hT3⟩))
    go_ret
    have ht : Tch base cObj w w3 := (Tch.of_below HAL.out).trans ((Tch.of_below HD.out).trans hT3)
    refine ⟨rfl, ⟨⟨lv, ?_, ?_, hnf⟩, hC3, hbo, hfo⟩, ht.wide fun _ => c_of_t⟩
    · exact ((HB.out.below HD.out HB.out.lt).tch hT3 (.inr (by simp only [cObj]; decide)))
    · exact (HR.out.below HD.out).of_c hT3
  case pos =>
    suffices hsf : Calls Tryz.prog 149 #[.pointer (some ⟨o, 0, none⟩), .agg #[.int .i64 x.k, .string x.t, .string x.v], .slice (some ⟨g, 0, none⟩) 1 1] w (fun e w' => ∃ k f2 w1 w2, e = .returned (.int .i64 k) ∧ @Tch f1 base tObj w w1 ∧ R f2 k w2 ∧ FoM f1 f2 w1 w2 ∧ ((k ≠ 0 ∧ w' = w2 ∧ @OAt f2 w' base o ck (stepS st x) l) ∨ (k = 0 ∧ @OAt f2 w' base o ck (stepS st x) (l ++ [x]) ∧ @Tch f2 base tObj w2 w'))) from hsf.mono fun e w' hq => .inr ⟨hz, hq⟩
    have HZ := Lib.hid hz
    rw [hz] at hS
    generalize stepS st x = st2 at *
    clear hz
    obtain ⟨A, nR, c, rfl, hnR⟩ := HR.out.shape
    go_enter Tryz.func149, Tryz.ntmps149
    go_wp2
    go_still_tail 5, (by kernel_rfl)
    change wpList _ _ _ _ _ W0.drew
    generalize hwd : W0.drew = wd at *
    have HD := Lib.hid (show Below W0.heap.size W0 wd by rw [← hwd]; exact below_drew (Below.refl _ _))
    have hzd : W0.heap.size ≤ wd.heap.size := HD.out.size
    clear hwd b0 x0 x1 x2
    go_wp2_with (first
      | (go_at_call 19; refine hS.mono ?_; rintro e w3 ⟨rfl, hC3, hT3⟩))
    have HB3 := Lib.hid ((HB.out.below HD.out HB.out.lt).tch hT3 (.inr (by simp only [cObj]; decide)))
    have HX3 := Lib.hid ((HX.out.below HD.out HX.out.lt).tch hT3 (.inr (by simp only [cObj]; decide)))
    have HR3 := Lib.hid ((HR.out.below HD.out).of_c hT3)
    have HT3 := Lib.hid ((Tch.of_below HAL.out (p := cObj) (base := base)).trans ((Tch.of_below HD.out).trans hT3))
    have b0 := HB3.out.cell 0
    have b1 := HB3.out.cell 1
    have x0 := HX3.out.cell 0
    have x1 := HX3.out.cell 1
    have x2 := HX3.out.cell 2
    have hz3 : base ≤ w3.heap.size := by have := hT3.size; omega
    have HC3 := Lib.hid hC3
    have HG3 := Lib.hid ((HGB.out.below HD.out HGB.out.lt).tch hT3 (.inr (by simp only [cObj]; decide)))
    have g0 := HG3.out.cell 0
    have gl3 := HG3.out.lt
    unfold othV at g0
    have HOT := Lib.hid (HOt.out HZ.out w3 (HT3.out.wide fun _ => c_of_t))
    have HT3W := Lib.hid (HT3.out.wide fun _ => c_of_t)
    have HXN : Hid (¬ f1.F w.heap.size) := Lib.hid (@nf_new f1 _ hlim1)
    have HOA3 : Hid (OAt w3 base o ck st2 l) := Lib.hid ⟨⟨_, HB3.out, HR3.out, hnf⟩, HC3.out, hbo, hfo⟩
    clear hT3 hC3 HB HX HR HAL HD hS hw1 hzd HGB HOt
    go_wp2
    go_loopw [22] (fun i wr => (i = .int .i64 0 ∧ w3 = wr) ∨ (i = .int .i64 1 ∧ ∃ f2, Hid (R f2 0 wr ∧ FoM f1 f2 w3 wr))) (fun i _ => 1 - (intOf i).toNat)
    case atStart => exact .inl ⟨rfl, rfl⟩
    case round =>
      rcases hrel with ⟨rfl, rfl⟩ | ⟨rfl, f2, HF2⟩
      · go_wp2_with fail
        refine HOT.out.mono ?_
        rintro e w4 ⟨k, f2, rfl, hR2, hM⟩
        have HM := Lib.hid hM
        have HR2 := Lib.hid hR2
        clear hM hR2 HOT
        by_cases hk : k = 0
        · subst hk
          have HF2 : Hid (∃ f2, Hid (R f2 0 w4 ∧ FoM f1 f2 w3 w4)) := Lib.hid ⟨f2, Lib.hid ⟨HR2.out, HM.out⟩⟩
          clear HR2 HM
          go_wp2
          go_roundw
          case rel => exact .inr ⟨rfl, HF2.out⟩
          case measure => first | (simp [intOf]; done) | (simp [intOf]; omega)
        · have e0 : (k == 0) = false := by rw [beq_eq_false_iff_ne]; exact hk
          have HK := Lib.hid hk
          clear hk
          go_wp2
          go_ret
          exact ⟨k, f2, w3, w4, rfl, HT3W.out, HR2.out, HM.out, .inl ⟨HK.out, rfl, HM.out.oat HOA3.out⟩⟩
      · obtain ⟨w5, hw5⟩ : ∃ w5, wr = w5 := ⟨_, rfl⟩
        subst hw5
        have HO5 := Lib.hid (HF2.out.2.oat HOA3.out)
        have HX5 := Lib.hid (HF2.out.2.blk HX3.out (.inr (.inr (.inr rfl))) HXN.out)
        have hz5 : base ≤ wr.heap.size := Nat.le_trans hz3 HF2.out.2.sz
        obtain ⟨_, hC5, hbo5, hfo5⟩ := HO5.out
        obtain ⟨hR5, hnf5⟩ := HF2.out.2.row HR3.out (hnf)
        have hB5 := HF2.out.2.blk HB3.out (.inr (.inr (.inl rfl))) hfo
        have HB5 := Lib.hid hB5
        have HR5 := Lib.hid hR5
        have HC5 := Lib.hid hC5
        have HL := Lib.hid hl
        have HO5r := Lib.hid (HO.out)
        have hzx : w.heap.size < wr.heap.size := HX5.out.lt
        have hb1 := hB5.cell 1
        have hx0 := HX5.out.cell 0
        have hx1 := HX5.out.cell 1
        have hx2 := HX5.out.cell 2
        clear b0 b1 x0 x1 x2 g0 HOT hB5 hR5 hC5 HO HOA3 HB3 HR3 HX3 HC3 HG3 HO5 hl hs hw hg hzx
        go_wp2
        refine region_g [10] (S := (fun W => W.cell? ⟨o, 1, none⟩ = some (.slice A nR c) ∧ W.cell? ⟨w.heap.size, 0, none⟩ = some (.int .i64 x.k) ∧ W.cell? ⟨w.heap.size, 1, none⟩ = some (.string x.t) ∧ W.cell? ⟨w.heap.size, 2, none⟩ = some (.string x.v))) (by kernel_rfl) ⟨hb1, hx0, hx1, hx2⟩ (fun hH => ?_)
        refine g_take (i := 0) (v := .pointer (some ⟨o, 0, none⟩)) (by rfl) (by kernel_rfl) (by kernel_rfl) (by kernel_rfl) (by kernel_rfl) (fun _ _ _ h => (by cases h.1)) (Or.inl ⟨by rfl, fun W hS => (by obtain ⟨s0, s1, s2, s3⟩ := hS; go_simp)⟩) hH ?_
        simp only [Act.put, List.setIfInBounds_toArray, List.set_cons_zero, List.set_cons_succ]
        refine g_take (i := 1) (v := .pointer (some ⟨o, 0, none⟩)) (by rfl) (by kernel_rfl) (by kernel_rfl) (by kernel_rfl) (by kernel_rfl) (fun _ _ _ h => (by cases h.1)) (Or.inl ⟨by rfl, fun W hS => (by obtain ⟨s0, s1, s2, s3⟩ := hS; go_simp)⟩) hH ?_
        simp only [Act.put, List.setIfInBounds_toArray, List.set_cons_zero, List.set_cons_succ]
        refine g_take (i := 2) (v := .pointer (some ⟨o, 0, none⟩)) (by rfl) (by kernel_rfl) (by kernel_rfl) (by kernel_rfl) (by kernel_rfl) (fun _ _ _ h => (by cases h.1)) (Or.inl ⟨by rfl, fun W hS => (by obtain ⟨s0, s1, s2, s3⟩ := hS; go_simp)⟩) hH ?_
        simp only [Act.put, List.setIfInBounds_toArray, List.set_cons_zero, List.set_cons_succ]
        refine g_take (i := 3) (v := .pointer (some ⟨o, 1, none⟩)) (by rfl) (by kernel_rfl) (by kernel_rfl) (by kernel_rfl) (by kernel_rfl) (fun _ _ _ h => (by cases h.1)) (Or.inl ⟨by rfl, fun W hS => (by obtain ⟨s0, s1, s2, s3⟩ := hS; go_simp)⟩) hH ?_
        simp only [Act.put, List.setIfInBounds_toArray, List.set_cons_zero, List.set_cons_succ]
        refine g_take (i := 4) (v := .slice A nR c) (by rfl) (by kernel_rfl) (by kernel_rfl) (by kernel_rfl) (by kernel_rfl) (fun _ _ _ h => (by cases h.1)) (Or.inl ⟨by rfl, fun W hS => (by obtain ⟨s0, s1, s2, s3⟩ := hS; go_simp)⟩) hH ?_
        simp only [Act.put, List.setIfInBounds_toArray, List.set_cons_zero, List.set_cons_succ]
        refine g_take (i := 5) (v := .agg #[.int .i64 x.k, .string x.t, .string x.v]) (by rfl) (by kernel_rfl) (by kernel_rfl) (by kernel_rfl) (by kernel_rfl) (fun _ _ _ h => (by cases h.1)) (Or.inl ⟨by rfl, fun W hS => (by obtain ⟨s0, s1, s2, s3⟩ := hS; go_simp)⟩) hH ?_
        simp only [Act.put, List.setIfInBounds_toArray, List.set_cons_zero, List.set_cons_succ]
        refine g_one (i := 6) (by kernel_rfl) (by rfl) (fun K hK => ?_)
        go_simp
        refine hK.out _ _ (fun _ => ⟨(HB5.out.drew.alloc _).cell 1, (HX5.out.drew.alloc _).cell 0, (HX5.out.drew.alloc _).cell 1, (HX5.out.drew.alloc _).cell 2⟩) (fun _ => ?_)
        clear hK K hH
        have hBe := HB5.out.drew.alloc (.cells #[.int .i64 x.k, .string x.t, .string x.v] 38)
        have hXe := HX5.out.drew.alloc (.cells #[.int .i64 x.k, .string x.t, .string x.v] 38)
        have hdr : Below wr.heap.size wr wr.drew := below_drew (Below.refl _ _)
        have hRe := (HR5.out.below hdr).alloc (.cells #[.int .i64 x.k, .string x.t, .string x.v] 38)
        have hbe : base ≤ (wr.drew.alloc (.cells #[.int .i64 x.k, .string x.t, .string x.v] 38)).heap.size := by simp; exact Nat.le_succ_of_le hz5
        refine g_one (i := 7) (by kernel_rfl) (by rfl) (fun K hK => ?_)
        refine step_appT (by rfl) (.tmp 37) (.tmp 39) (by rfl) base (.slice A nR c) l x (by rfl) (by exact hRe) ⟨wr.heap.size, 0, none⟩ (by rfl) (by exact cellsOf3 wr.drew _ _ _ _) HL.out hbe ?_
        intro v4 w6 hown4 hg4 hnb4
        have hnf4 := hnf5.nb hnb4 (Nat.le_trans HC5.out.lim (by simp))
        have hrow5 := hown4
        have hT4 := rowT_push (v' := v4) (HR5.out.below hdr) hnf5 hg4
        obtain ⟨A4, n4, c4, rfl, _⟩ := hown4.shape
        have hB4 := HB5.out.drew.tch hT4 (.inr (by simp only [eObj]; decide))
        have hX4 := hXe.grown hg4 (fun e => by have := HO5r.out _ e.symm; omega)
        have hH : w6.cell? ⟨o, 1, none⟩ = some (.slice A nR c) ∧ w6.cell? ⟨w.heap.size, 0, none⟩ = some (.int .i64 x.k) ∧ w6.cell? ⟨w.heap.size, 1, none⟩ = some (.string x.t) ∧ w6.cell? ⟨w.heap.size, 2, none⟩ = some (.string x.v) := ⟨hB4.cell 1, hX4.cell 0, hX4.cell 1, hX4.cell 2⟩
        refine hK.out _ _ (fun _ => hH) (fun _ => ?_)
        clear hK K
        simp only [Act.put, List.setIfInBounds_toArray, List.set_cons_zero, List.set_cons_succ]
        refine g_one (i := 8) (by kernel_rfl) (by rfl) (fun K hK => ?_)
        go_simp
        refine hK.out _ _ (fun _ => hH) (fun _ => ?_)
        clear hK K
        refine g_one (i := 9) (by kernel_rfl) (by rfl) (fun K hK => ?_)
        go_simp
        refine hK.out _ _ (fun _ => hH) (fun _ => ?_)
        clear hK K
        have d1 := hB4.cell 1
        have f1' := hB4.frozen 1
        have dl := hB4.lt
        refine g_one (i := 10) (by kernel_rfl) (by rfl) (fun K hK => ?_)
        go_simp
        refine hK.out _ _ (fun h => absurd (List.mem_singleton.2 rfl) h) (fun _ => ?_)
        clear hK K
        refine g_done (by kernel_rfl) ⟨by first | rfl | trivial, ?_⟩ _
        have HF : Hid (OAt (w6.setCell ⟨o, 1, none⟩ (.slice A4 n4 c4)) base o ck st2 (l ++ [x]) ∧ Tch base tObj wr (w6.setCell ⟨o, 1, none⟩ (.slice A4 n4 c4))) := by
          have ht4 : Tch base eObj wr w6 := (Tch.of_below hdr).trans hT4
          have hset : Tch base tObj w6 (w6.setCell ⟨o, 1, none⟩ (.slice A4 n4 c4)) := (Tch.refl _ _ _).set hB4 hbo5 hfo5 (show tObj (.cells _ _ _) from .inr (.inr (.inl rfl))) 1 _
          have hsetO : Tch base oOnly w6 (w6.setCell ⟨o, 1, none⟩ (.slice A4 n4 c4)) := (Tch.refl _ _ _).set hB4 hbo5 hfo5 (show oOnly (.cells _ _ _) from rfl) 1 _
          refine Lib.hid ⟨⟨⟨_, hB4.set_ 1 _, ?_, hnf4⟩, ?_, hbo5, hfo5⟩, (ht4.wide fun _ => e_of_t).trans hset⟩
          · exact hrow5.tch hsetO (fun _ _ => by simp only [oOnly]; decide)
          · exact (HC5.out.of_e ht4).tch hsetO (fun cs t fr h hc => by simp only [oOnly] at hc; rcases h with rfl | rfl <;> exact absurd hc (by decide)) (fun _ _ hc => hc)
        clear hnb4 hnf4 hB4 hX4 hrow5 hT4 hown4 hg4 hRe hXe hBe hdr HB5 HX5 HR5 HC5 HO5r hH d1 f1' dl
        go_wp2
        go_ret
        exact ⟨0, f2, w3, wr, rfl, HT3W.out, HF2.out.1, HF2.out.2, .inr ⟨rfl, HF.out.1, HF.out.2⟩⟩
end
end Go.Proofs.YtalkjgijmceifaaGreatDoor

/-
  stream: New and Decode, for any machine.
  Foreign blocks, others than before: what a decoder holds stays clear of blocks that are new, and lies as it lay where foreign blocks alone have turned, or what its events lay in has.
  names: Join of the program.
-/
import Derived.Test.YtjepnddndpmnnaaGreatDoorGwA18
import Derived.Test.YtjepnddndpmnnaaGreatDoorGwA17
import Derived.Test.YtjepnddndpmnnaaGreatDoorGwA06
namespace Go.Proofs.YtjepnddndpmnnaaGreatDoor
open Go.RowKit Go.Maps
set_option maxRecDepth 100000
set_option linter.unusedSimpArgs false
set_option linter.unusedVariables false
set_option linter.unusedSectionVars false
variable [Tab] [Fo]
theorem RowT.erow [Fo] {w : World} {base : Nat} {v : Value} {l : List Ev} (htk : Fo.tk = none) (h : RowT w base v l) : ERow w base v l := by
  rcases h with ⟨_, h⟩ | ⟨n, h, _⟩
  · exact h
  · rw [htk] at h; cases h
/-- Where the text ends, or the error is met. -/
theorem at_any (w : World) (s o rd : Nat) (s4 : w.cell? ⟨s, 4, none⟩ = some (.int .i64 (rd : Int))) (s2 : w.cell? ⟨s, 2, none⟩ = some (.pointer (some ⟨o, 0, none⟩))) (o2 : w.cell? ⟨o, 2, none⟩ = some (.int .i64 0)) (hr : rd ≤ 1000000) :
    Calls Tryz.prog 16 #[.pointer (some ⟨s, 0, none⟩)] w fun e w' => e = .returned (.int .i64 (rd : Int)) ∧ w' = w.drew := by
  go_enter Tryz.func16, Tryz.ntmps16
  go_wp2
  go_region
  go_wp2
  go_ret
  exact ⟨rfl, rfl⟩
variable (M : Mach)

set_option maxHeartbeats 4000000 in
theorem snew_any (w : World) (base m : Nat) (hM : M.raw w base m) (htk : Fo.tk = none) (hb : base ≤ w.heap.size) :
    Calls Tryz.prog 13 #[.iface M.T (.pointer (some ⟨m, 0, none⟩))] w fun e w' => ∃ B s sc o ck, e = .returned (.pointer (some ⟨s, 0, none⟩)) ∧ StA w' base B s m sc o ck (ss0 M.toMachP) false false ∧ LowF base w w' := by
  go_enter Tryz.func13, Tryz.ntmps13
  go_wp2_with (first
    | (go_at_call 24; refine (new_any _).mono ?_; rintro e w1 ⟨rfl, rfl⟩))
  have hS1 : ScanAt (w.alloc (.cells #[.int .i64 0, .int .u8 128, .int .u8 191] 97)) w.heap.size 0 128 191 := Blk.new w _ _
  have al1 : Below w.heap.size w (w.alloc (.cells #[.int .i64 0, .int .u8 128, .int .u8 191] 97)) := (Below.refl _ _).alloc (Nat.le_refl _) _
  have hfl := M.raw_lim hM
  obtain ⟨W0, hW0⟩ : ∃ W0, w.alloc (.cells #[.int .i64 0, .int .u8 128, .int .u8 191] 97) = W0 := ⟨_, rfl⟩
  have hz1 : w.heap.size ≤ W0.heap.size := by rw [← hW0]; simp
  have hz0 : base ≤ W0.heap.size := Nat.le_trans hb (by rw [← hW0]; simp)
  rw [hW0] at hS1 al1 ⊢
  go_wp2_with (first
    | (go_at_call 10; refine (cnew_any W0 W0.heap.size (Nat.le_refl _) (Nat.le_trans hfl hz1)).mono ?_; rintro e w2 ⟨ck, rfl, hck, hC2, hb2⟩))
  go_ret
  have hz2 : W0.heap.size ≤ w2.heap.size := hb2.size
  have hS2 := hS1.below hb2 hS1.lt
  have hT : Below w2.heap.size w2 ((w2.alloc (.cells #[.pointer (some ⟨ck, 0, none⟩), .slice none 0 0, .int .i64 0] 45)).alloc (.cells (sCells M.T m w.heap.size w2.heap.size 0 0 false false) 49)) := ((Below.refl _ _).alloc (Nat.le_refl _) _).alloc (by simp) _
  have hO := Blk.new w2 45 #[.pointer (some ⟨ck, 0, none⟩), .slice none 0 0, .int .i64 0]
  have hO3 := hO.alloc (.cells (sCells M.T m w.heap.size w2.heap.size 0 0 false false) 49)
  have hSB := Blk.new (w2.alloc (.cells #[.pointer (some ⟨ck, 0, none⟩), .slice none 0 0, .int .i64 0] 45)) 49 (sCells M.T m w.heap.size w2.heap.size 0 0 false false)
  have hsz : (w2.alloc (.cells #[.pointer (some ⟨ck, 0, none⟩), .slice none 0 0, .int .i64 0] 45)).heap.size = w2.heap.size + 1 := by simp
  rw [hsz] at hSB
  refine ⟨((w2.alloc (.cells #[.pointer (some ⟨ck, 0, none⟩), .slice none 0 0, .int .i64 0] 45)).alloc (.cells (sCells M.T m w.heap.size w2.heap.size 0 0 false false) 49)).heap.size, w2.heap.size + 1, w.heap.size, w2.heap.size, ck, rfl, ?_, ?_⟩
  · refine ⟨hSB, hS2.below hT hS2.lt, M.start hM hb ((al1.trans (hb2.mono hz1)).trans (hT.mono (Nat.le_trans hz1 hz2))) hz1 (Nat.le_trans hz2 hT.size) ⟨⟨_, hO3, RowT.nil htk _ _, NF.nil⟩, hC2.below hT, hz2, nf_new (by omega)⟩, ⟨nf_new (by omega), nf_new hfl⟩, ?_⟩
    have := hS1.lt
    exact ⟨hSB.lt, Nat.lt_of_lt_of_le hS2.lt hT.size, by omega, hb, Nat.le_refl _, Nat.le_trans (Nat.le_trans hz0 hz2) hT.size⟩
  · exact ((LowF.of_below al1 hb).trans (LowF.of_below hb2 hz0)).trans (LowF.of_below hT (Nat.le_trans hz0 hz2))

variable {M}
/-- What a decoder returns. -/
def DEnd (lv : Value) (x : Ss M.toMachP) : Ending := .returned (.tuple #[lv, .int .i64 (closeE x), .int .i64 (x.rd : Int)])

set_option maxHeartbeats 4000000 in
theorem sdecode_any (w : World) (base m : Nat) (v : Value) (bs : List UInt8) (hM : M.raw w base m) (htk : Fo.tk = none) (hb : base ≤ w.heap.size) (hn : bs.length ≤ 50000) (hv : ∀ w', Below base w w' → BRead w' v bs) (hw : SN M.num base w) :
    Calls Tryz.prog 8 #[.iface M.T (.pointer (some ⟨m, 0, none⟩)), v] w fun e w' => ∃ lv, e = DEnd lv (feedG (ss0 M.toMachP) bs) ∧ ERow w' base lv (M.l (closeBs (feedG (ss0 M.toMachP) bs))) ∧ Below base w w' := by
  have hx := sinv_feedG bs (ss0 M.toMachP) 0 sinv0
  rw [Nat.zero_add] at hx
  have HX := Lib.hid hx
  have HV := Lib.hid hv
  have HN := Lib.hid hn
  have HWs := Lib.hid hw
  clear hx hv hw hn
  unfold DEnd
  generalize hy : feedG (ss0 M.toMachP) bs = y at *
  have HY := Lib.hid hy
  clear hy
  obtain ⟨E, hE⟩ : ∃ E, closeE y = E := ⟨_, rfl⟩
  rw [hE]
  have HE := Lib.hid hE
  clear hE
  go_enter Tryz.func8, Tryz.ntmps8
  go_wp2_with (first
    | (go_at_call 13; refine (snew_any M _ base m hM htk hb).mono ?_; rintro e w1 ⟨B, s, sc, o, ck, rfl, hA1, hb1⟩))
  have HB1 := Lib.hid hb1.low
  have HC := Lib.hid (feed_any w1 base B s m sc o ck (ss0 M.toMachP) false 0 v bs hA1 sinv0 (by have := HN.out; omega) (fun w' h => HV.out w' (HB1.out.trans h.low)) (HWs.out.below hb1.low))
  clear hb1 hA1 hM
  go_wp2_with fail
  refine HC.out.mono ?_
  rintro e w2 ⟨rfl, hA2, hb2⟩
  rw [HY.out] at hA2
  have HB2 := Lib.hid (HB1.out.trans hb2.low)
  have hD := sclose_any w2 base B s m sc o ck y false (2 * bs.length) hA2 HX.out.b (by have := HN.out; omega) (HWs.out.below HB2.out)
  rw [HE.out] at hD
  have HD := Lib.hid hD
  clear hD
  clear hb2 hA2 HC
  go_wp2_with fail
  refine HD.out.mono ?_
  rintro e w3 ⟨rfl, hE3, hb3⟩
  have HB3 := Lib.hid (HB2.out.trans hb3.low)
  have b2 := hE3.blk.cell 2
  have b3 := hE3.blk.cell 3
  have b4 := hE3.blk.cell 4
  unfold sCells at b2 b3 b4
  obtain ⟨⟨lv, hO, hR0, _⟩, _, _, _⟩ := hE3.out
  have hR := hR0.erow htk
  have o1 := hO.cell 1
  have o2 : w3.cell? ⟨o, 2, none⟩ = some (.int .i64 0) := hO.cell 2
  have HR := Lib.hid hR
  have hrd : y.rd ≤ 1000000 := by have := HX.out.rd; have := HN.out; omega
  clear hE3 hb3 hO hR HD hR0
  have b4' : w3.cell? ⟨s, 4, none⟩ = some (.int .i64 (y.rd : Int)) := b4
  obtain ⟨rd, hrd0⟩ : ∃ rd, y.rd = rd := ⟨_, rfl⟩
  rw [hrd0] at b4' hrd
  have HRD := Lib.hid hrd0
  clear hrd0 b4
  go_wp2
  refine region_g [] (S := (fun W => W.cell? ⟨s, 2, none⟩ = some (.pointer (some ⟨o, 0, none⟩)) ∧ W.cell? ⟨s, 3, none⟩ = some (.int .i64 E) ∧ W.cell? ⟨s, 4, none⟩ = some (.int .i64 (rd : Int)) ∧ W.cell? ⟨o, 1, none⟩ = some lv ∧ W.cell? ⟨o, 2, none⟩ = some (.int .i64 0))) (by kernel_rfl) ⟨b2, b3, b4', o1, o2⟩ (fun hH => ?_)
  refine g_take (i := 0) (v := .pointer (some ⟨s, 0, none⟩)) (by rfl) (by kernel_rfl) (by kernel_rfl) (by kernel_rfl) (by kernel_rfl) (fun _ _ _ h => (by cases h.1)) (Or.inl ⟨by rfl, fun W hS => (by obtain ⟨s2, s3, s4, o1, o2⟩ := hS; go_simp)⟩) hH ?_
  simp only [Act.put, List.setIfInBounds_toArray, List.set_cons_zero, List.set_cons_succ]
  refine g_take (i := 1) (v := .pointer (some ⟨s, 0, none⟩)) (by rfl) (by kernel_rfl) (by kernel_rfl) (by kernel_rfl) (by kernel_rfl) (fun _ _ _ h => (by cases h.1)) (Or.inl ⟨by rfl, fun W hS => (by obtain ⟨s2, s3, s4, o1, o2⟩ := hS; go_simp)⟩) hH ?_
  simp only [Act.put, List.setIfInBounds_toArray, List.set_cons_zero, List.set_cons_succ]
  refine g_take (i := 2) (v := .pointer (some ⟨s, 2, none⟩)) (by rfl) (by kernel_rfl) (by kernel_rfl) (by kernel_rfl) (by kernel_rfl) (fun _ _ _ h => (by cases h.1)) (Or.inl ⟨by rfl, fun W hS => (by obtain ⟨s2, s3, s4, o1, o2⟩ := hS; go_simp)⟩) hH ?_
  simp only [Act.put, List.setIfInBounds_toArray, List.set_cons_zero, List.set_cons_succ]
  refine g_take (i := 3) (v := .pointer (some ⟨o, 0, none⟩)) (by rfl) (by kernel_rfl) (by kernel_rfl) (by kernel_rfl) (by kernel_rfl) (fun _ _ _ h => (by cases h.1)) (Or.inl ⟨by rfl, fun W hS => (by obtain ⟨s2, s3, s4, o1, o2⟩ := hS; go_simp)⟩) hH ?_
  simp only [Act.put, List.setIfInBounds_toArray, List.set_cons_zero, List.set_cons_succ]
  refine g_take (i := 4) (v := .pointer (some ⟨o, 0, none⟩)) (by rfl) (by kernel_rfl) (by kernel_rfl) (by kernel_rfl) (by kernel_rfl) (fun _ _ _ h => (by cases h.1)) (Or.inl ⟨by rfl, fun W hS => (by obtain ⟨s2, s3, s4, o1, o2⟩ := hS; go_simp)⟩) hH ?_
  simp only [Act.put, List.setIfInBounds_toArray, List.set_cons_zero, List.set_cons_succ]
  refine g_take (i := 5) (v := .pointer (some ⟨o, 1, none⟩)) (by rfl) (by kernel_rfl) (by kernel_rfl) (by kernel_rfl) (by kernel_rfl) (fun _ _ _ h => (by cases h.1)) (Or.inl ⟨by rfl, fun W hS => (by obtain ⟨s2, s3, s4, o1, o2⟩ := hS; go_simp)⟩) hH ?_
  simp only [Act.put, List.setIfInBounds_toArray, List.set_cons_zero, List.set_cons_succ]
  refine g_take (i := 6) (v := lv) (by rfl) (by kernel_rfl) (by kernel_rfl) (by kernel_rfl) (by kernel_rfl) (fun _ _ _ h => (by cases h.1)) (Or.inl ⟨by rfl, fun W hS => (by obtain ⟨s2, s3, s4, o1, o2⟩ := hS; go_simp)⟩) hH ?_
  simp only [Act.put, List.setIfInBounds_toArray, List.set_cons_zero, List.set_cons_succ]
  refine g_take (i := 7) (v := .pointer (some ⟨s, 0, none⟩)) (by rfl) (by kernel_rfl) (by kernel_rfl) (by kernel_rfl) (by kernel_rfl) (fun _ _ _ h => (by cases h.1)) (Or.inl ⟨by rfl, fun W hS => (by obtain ⟨s2, s3, s4, o1, o2⟩ := hS; go_simp)⟩) hH ?_
  simp only [Act.put, List.setIfInBounds_toArray, List.set_cons_zero, List.set_cons_succ]
  refine g_take (i := 8) (v := .pointer (some ⟨s, 0, none⟩)) (by rfl) (by kernel_rfl) (by kernel_rfl) (by kernel_rfl) (by kernel_rfl) (fun _ _ _ h => (by cases h.1)) (Or.inl ⟨by rfl, fun W hS => (by obtain ⟨s2, s3, s4, o1, o2⟩ := hS; go_simp)⟩) hH ?_
  simp only [Act.put, List.setIfInBounds_toArray, List.set_cons_zero, List.set_cons_succ]
  refine g_take (i := 9) (v := .pointer (some ⟨s, 3, none⟩)) (by rfl) (by kernel_rfl) (by kernel_rfl) (by kernel_rfl) (by kernel_rfl) (fun _ _ _ h => (by cases h.1)) (Or.inl ⟨by rfl, fun W hS => (by obtain ⟨s2, s3, s4, o1, o2⟩ := hS; go_simp)⟩) hH ?_
  simp only [Act.put, List.setIfInBounds_toArray, List.set_cons_zero, List.set_cons_succ]
  refine g_take (i := 10) (v := .int .i64 E) (by rfl) (by kernel_rfl) (by kernel_rfl) (by kernel_rfl) (by kernel_rfl) (fun _ _ _ h => (by cases h.1)) (Or.inl ⟨by rfl, fun W hS => (by obtain ⟨s2, s3, s4, o1, o2⟩ := hS; go_simp)⟩) hH ?_
  simp only [Act.put, List.setIfInBounds_toArray, List.set_cons_zero, List.set_cons_succ]
  refine g_take (i := 11) (v := .pointer (some ⟨s, 0, none⟩)) (by rfl) (by kernel_rfl) (by kernel_rfl) (by kernel_rfl) (by kernel_rfl) (fun _ _ _ h => (by cases h.1)) (Or.inl ⟨by rfl, fun W hS => (by obtain ⟨s2, s3, s4, o1, o2⟩ := hS; go_simp)⟩) hH ?_
  simp only [Act.put, List.setIfInBounds_toArray, List.set_cons_zero, List.set_cons_succ]
  refine g_one (i := 12) (by kernel_rfl) (by rfl) (fun K hK => ?_)
  go_simp
  refine (at_any w3.drew s o rd b4' b2 o2 hrd).mono ?_
  rintro e w4 ⟨rfl, rfl⟩
  refine hK.out _ _ (fun _ => ⟨b2, b3, b4', o1, o2⟩) (fun _ => ?_)
  clear hK K hH
  refine g_one (i := 13) (by kernel_rfl) (by rfl) (fun K hK => ?_)
  go_simp
  refine hK.out _ _ (fun _ => ⟨b2, b3, b4', o1, o2⟩) (fun _ => ?_)
  clear hK K
  refine g_one (i := 14) (by kernel_rfl) (by rfl) (fun K hK => ?_)
  go_simp
  refine hK.out _ _ (fun _ => ⟨b2, b3, b4', o1, o2⟩) (fun _ => ?_)
  clear hK K
  refine g_one (i := 15) (by kernel_rfl) (by rfl) (fun K hK => ?_)
  go_simp
  refine hK.out _ _ (fun _ => ⟨b2, b3, b4', o1, o2⟩) (fun _ => ?_)
  clear hK K
  refine g_done (by kernel_rfl) ⟨by first | rfl | trivial, ?_⟩ _
  go_wp2
  go_ret3
  exact ⟨lv, by rw [HRD.out]; rfl, (HR.out.below (below_drew (Below.refl _ _))).below (below_drew (Below.refl _ _)), (HB3.out.trans (below_drew (Below.refl _ _))).trans (below_drew (Below.refl _ _))⟩

end Go.Proofs.YtjepnddndpmnnaaGreatDoor
namespace Go.Proofs.YtjepnddndpmnnaaGreatDoor
open Go.RowKit Go.Maps
set_option maxRecDepth 100000
set_option linter.unusedSimpArgs false
set_option linter.unusedVariables false
set_option linter.unusedSectionVars false
variable [Tab]

section
variable {w w' : World} {f1 f2 : Fo}
/-- The blocks that are foreign now were so, or are new. -/
def FoS (f1 f2 : Fo) (w : World) : Prop := ∀ k, k < w.heap.size → f2.F k → f1.F k
/-- What is of some kinds, and not foreign, lies as it lay. -/
def Mv (f1 : Fo) (p : Obj → Prop) (w w' : World) : Prop := ∀ k o, w.heap[k]? = some o → p o → ¬ f1.F k → w'.heap[k]? = some o
theorem Mv.of_below {p : Obj → Prop} (hb : Below w.heap.size w w') : Mv f1 p w w' := fun k o ho _ _ => (hb.block k (Array.getElem?_eq_some_iff.1 ho).1).trans ho
theorem Mv.narrow {p q : Obj → Prop} (h : Mv f1 p w w') (hq : ∀ o, q o → p o) : Mv f1 q w w' := fun k o ho hp hn => h k o ho (hq o hp) hn
theorem row_ltF {b : Nat} {e : TypeId} {size n : Nat} {v : Value} {xs : List Value} (h : w.ownsRow b e size v n xs) {g : Nat} (hg : v.ownBlock = some g) : g < w.heap.size := (World.ownsRow.lt h g hg).2
theorem row_mv {p : Obj → Prop} {b : Nat} {e : TypeId} {size n : Nat} {v : Value} {xs : List Value} (hm : Mv f1 p w w') (hr : w.ownsRow b e size v n xs) (hn : ∀ g, v.ownBlock = some g → ¬ f1.F g) (hp : ∀ cur, p (.cells cur e (0, 0))) : w'.ownsRow b e size v n xs := by
  refine ⟨hr.1, ?_⟩
  rcases hr.2 with hv | ⟨g, cap, cur, hv, hg, hh, q⟩
  · exact .inl hv
  · exact .inr ⟨g, cap, cur, hv, hg, hm g _ hh (hp _) (hn g (by rw [hv]; rfl)), q⟩
theorem maps_fo (hF : FoS f1 f2 w) {b : Nat} : ∀ {l : List PQ}, @MapsOk f1 w b l → @MapsOk f2 w b l
  | [], _ => trivial
  | q :: r, h => by
    refine ⟨fun k hk => ⟨⟨(h.1 k hk).1.1, fun hc => (h.1 k hk).1.2 (hF k ?_ hc)⟩, (h.1 k hk).2⟩, h.2.1, maps_fo hF h.2.2⟩
    have h2 := h.2.1
    rw [hk] at h2
    obtain ⟨es, c, ho⟩ := SetAt.obj h2
    exact (Array.getElem?_eq_some_iff.1 ho).1
theorem maps_nf {b : Nat} : ∀ {l : List PQ}, @MapsOk f1 w b l → ∀ q ∈ l, ∀ k, q.m = some k → ¬ f1.F k
  | [], _, q, hq => by cases hq
  | p :: r, hm, q, hq => by
    intro k hk
    rcases List.mem_cons.1 hq with rfl | hq
    · exact (hm.1 k hk).1.2
    · exact maps_nf hm.2.2 q hq k hk
theorem crep_mv (hF : FoS f1 f2 w) (hm : Mv f1 cObj w w') (hl : f2.lim ≤ w'.heap.size) {base g rb cap : Nat} {qs : List PQ} (h : @CRep f1 w base g rb cap qs) : @CRep f2 w' base g rb cap qs := by
  obtain ⟨h1, h2, h3, h4, h5, h6, h7⟩ := h
  have hr := row_ltF h3 (g := rb) rfl
  have hnf := maps_nf h4
  have hmp := maps_fo hF h4
  refine @CRep.mk f2 w' base g rb cap qs h1 (hm g _ h2 (.inl rfl) h5) ?_ ?_ ⟨fun hc => h5 (hF g (Blk.lt h2) hc), fun hc => h6 (hF rb hr hc), hl⟩
  · exact row_mv hm h3 (fun k hk hc => by have e : rb = k := Option.some.inj hk; exact h6 (e ▸ hc)) (fun _ => .inr rfl)
  · refine @MapsOk.keep _ f2 w w' base qs hmp fun q hq b hqb hbm => ?_
    obtain ⟨es, c, ho⟩ := hbm
    rw [hm b _ ho trivial (hnf q hq b hqb), ho]
theorem crep_fo (hF : FoS f1 f2 w) (hb : Below w.heap.size w w') (hl : f2.lim ≤ w'.heap.size) {base g rb cap : Nat} {qs : List PQ} (h : @CRep f1 w base g rb cap qs) : @CRep f2 w' base g rb cap qs := crep_mv hF (Mv.of_below hb) hl h
theorem rowt_mv (hk : f2.tk = f1.tk) (hm : Mv f1 eObj w w') {base : Nat} {v : Value} {l : List Ev} (h : @RowT f1 w base v l) (hn : @NF f1 v) : @RowT f2 w' base v l := by
  have hk' : ∀ g o, v.ownBlock = some g → w.heap[g]? = some o → w'.heap[g]? = some o := fun g o hg ho => by
    obtain ⟨_, _, cur, hc⟩ := @RowT.obj _ f1 _ _ _ _ h g hg
    have e := ho
    rw [hc] at e
    injection e with e
    exact hm g o ho (by rw [← e]; rfl) (hn g hg)
  have h2 := @RowT.frame _ f1 _ w' _ _ _ h hk'
  rcases h2 with ⟨h0, h2⟩ | ⟨n, h0, h1, h2⟩
  · exact .inl ⟨hk.trans h0, h2⟩
  · exact .inr ⟨n, hk.trans h0, h1, h2⟩
theorem oat_mv (hF : FoS f1 f2 w) (hk : f2.tk = f1.tk) (hm : Mv f1 tObj w w') (hl : f2.lim ≤ w'.heap.size) {base o ck : Nat} {st : List Pt} {l : List Ev} (h : @OAt f1 w base o ck st l) : @OAt f2 w' base o ck st l := by
  obtain ⟨⟨lv, hB, hR, hf⟩, ⟨rb, cap, qs, hq, hC⟩, hbo, ho⟩ := h
  exact @OAt.mk f2 w' base o ck st l ⟨lv, hm o _ hB (.inr (.inr (.inl rfl))) ho, rowt_mv hk (hm.narrow fun _ => e_of_t) hR hf, fun g hg hc => hf g hg (hF g (@RowT.lt _ f1 _ _ _ _ hR g hg).2 hc)⟩ ⟨rb, cap, qs, hq, crep_mv hF (hm.narrow fun _ => c_of_t) hl hC⟩ hbo fun hc => ho (hF o (Blk.lt hB) hc)
theorem oat_fo (hF : FoS f1 f2 w) (hk : f2.tk = f1.tk) (hb : Below w.heap.size w w') (hl : f2.lim ≤ w'.heap.size) {base o ck : Nat} {st : List Pt} {l : List Ev} (h : @OAt f1 w base o ck st l) : @OAt f2 w' base o ck st l := oat_mv hF hk (Mv.of_below hb) hl h
theorem tch_wk {f1 f2 : Fo} (hF : ∀ k, f2.F k → f1.F k) {c : Nat} {p : Obj → Prop} (h : @Tch f1 c p w w') : @Tch f2 c p w w' :=
  @Tch.mk f2 c p w w' (@Tch.os f1 _ _ _ _ h) (@Tch.tape f1 _ _ _ _ h) (@Tch.output f1 _ _ _ _ h) (@Tch.size f1 _ _ _ _ h) (fun k o ho hc => @Tch.block f1 _ _ _ _ h k o ho (hc.imp id (Or.imp id (hF k))))
/-- The same foreign blocks, and those that were made since. -/
@[reducible] def Fo.since (fo : Fo) (w w1 : World) (hl : fo.lim ≤ w1.heap.size) : Fo :=
  ⟨fun k => fo.F k ∨ (w.heap.size ≤ k ∧ k < w1.heap.size), w1.heap.size, fun k h => by
    rcases h with h | h
    · exact Nat.lt_of_lt_of_le (fo.ok k h) hl
    · exact h.2, fo.tk⟩
/-- Tell: what was made since lies as it lay. -/
theorem tell_new [fo : Fo] {w w1 : World} {base o ck : Nat} {st : List Pt} {l : List Ev} (x : Ev) (h : OAt w base o ck st l) (hb1 : Below w.heap.size w w1) (hg : Good st) (hw : NumW x.k w1) (hs : x.t.size ≤ 140737488355328) (hl : l.length ≤ 1000000) (hb : base ≤ w.heap.size) (hlim : Fo.lim ≤ w.heap.size) :
    Calls Tryz.prog 162 #[.pointer (some ⟨o, 0, none⟩), .agg #[.int .i64 x.k, .string x.t, .string x.v], .slice none 0 0] w1 fun e w' => e = .returned (.int .i64 (stepE st x)) ∧ OAt w' base o ck (stepS st x) (tellL st l x) ∧ Tch base tObj w w' ∧ ∀ k q, w.heap.size ≤ k → w1.heap[k]? = some q → w'.heap[k]? = some q := by
  have hl1 : fo.lim ≤ w1.heap.size := Nat.le_trans hlim hb1.size
  have hO : @OAt (Fo.since fo w w1 hl1) w1 base o ck st l := oat_fo (f1 := fo) (f2 := Fo.since fo w w1 hl1) (fun k hk hc => by
    rcases hc with hc | hc
    · exact hc
    · omega) rfl hb1 (Nat.le_refl _) h
  refine (@tell_any _ (Fo.since fo w w1 hl1) w1 base o ck st l x hO hg hw hs hl (Nat.le_trans hb hb1.size)).mono ?_
  rintro e w' ⟨rfl, hO', hT⟩
  have hT1 : Tch base tObj w1 w' := tch_wk (f1 := Fo.since fo w w1 hl1) (f2 := fo) (fun k hk => .inl hk) hT
  refine ⟨rfl, oat_fo (f1 := Fo.since fo w w1 hl1) (f2 := fo) (fun k _ hc => .inl hc) rfl (Below.refl _ _) (Nat.le_trans hl1 hT1.size) hO', (Tch.of_below hb1).trans hT1, fun k q hk hq => ?_⟩
  exact @Tch.block (Fo.since fo w w1 hl1) _ _ _ _ hT k q hq (.inr (.inr (.inr ⟨hk, (Array.getElem?_eq_some_iff.1 hq).1⟩)))
end
end Go.Proofs.YtjepnddndpmnnaaGreatDoor
namespace Go.Proofs.YtjepnddndpmnnaaGreatDoor
open Go.RowKit Go.Maps
set_option maxRecDepth 100000

def JoinEnd (s l : List UInt8) : Ending :=
  match joinL s l with
  | none => .returned (.tuple #[.string ⟨#[]⟩, .bool false])
  | some f => .returned (.tuple #[.string ⟨f.toArray⟩, .bool true])
theorem joinEnd_none {s l : List UInt8} (h : joinL s l = none) : JoinEnd s l = .returned (.tuple #[.string ⟨#[]⟩, .bool false]) := by unfold JoinEnd; rw [h]
theorem joinEnd_some {s l f : List UInt8} (h : joinL s l = some f) : JoinEnd s l = .returned (.tuple #[.string ⟨f.toArray⟩, .bool true]) := by unfold JoinEnd; rw [h]
theorem joined_str (s l : ByteArray) : (⟨#[123]⟩ ++ s ++ ⟨#[125]⟩ ++ l : ByteArray) = ⟨(123 :: (s.data.toList ++ 125 :: l.data.toList)).toArray⟩ := by
  apply ByteArray.ext
  apply Array.toList_inj.1
  simp
theorem joined_size (s l : ByteArray) : (⟨#[123]⟩ ++ s ++ ⟨#[125]⟩ ++ l : ByteArray).size = s.size + l.size + 2 := by
  simp only [ByteArray.size_append]
  show 1 + s.size + 1 + l.size = _
  omega

set_option maxHeartbeats 1000000 in
theorem join_any (s l : ByteArray) (w : World) (hm : s.size ≤ 140737488355328) (hm2 : l.size ≤ 140737488355328) :
    Calls Tryz.prog 177 #[.string s, .string l] w fun e w' => e = JoinEnd s.data.toList l.data.toList ∧ Below w.heap.size w w' := by
  have hls : s.data.toList.length = s.size := by simp
  have hll : l.data.toList.length = l.size := by simp
  have hbel := Below.refl w.heap.size w
  rcases Bool.eq_false_or_eq_true (localL l.data.toList) with hf | hf
  · have HF := Lib.hid hf
    have h16 := (local_len hf).2
    by_cases h0 : s.size = 0
    · have hs : s = ⟨#[]⟩ := ByteArray.ext (Array.eq_empty_of_size_eq_zero h0)
      subst hs
      rw [joinEnd_some (f := l.data.toList) (by unfold joinL; rw [if_pos ⟨hf, .inl rfl⟩, if_pos rfl])]
      clear hf hls hll h0
      go_enter Tryz.func177, Tryz.ntmps177
      go_wp2_with (first
        | (go_at_call 40; refine (local_any l _ hm2).mono ?_; rintro e w' ⟨rfl, rfl⟩; rw [HF.out])
        | (go_at_call 34; refine (clone_any _ _ hm2).mono ?_; rintro e w' ⟨rfl, hb1⟩; replace hbel := hbel.trans (hb1.mono hbel.size); clear hb1))
      go_ret2
      exact ⟨rfl, hbel⟩
    · have hn1 := str_ne h0
      have hn2 := str_ne2 h0
      have hnil : s.data.toList ≠ [] := by intro hc; rw [hc] at hls; simp at hls; omega
      rcases Bool.eq_false_or_eq_true (spaceL s.data.toList) with hs | hs
      case' inl => have HS := Lib.hid hs
      case' inr => have HS := Lib.hid hs
      case inr =>
        rw [joinEnd_none (by unfold joinL; rw [if_neg (by rw [hs]; simp [hnil])])]
        clear hf hls hll h0 hs hnil
        go_enter Tryz.func177, Tryz.ntmps177
        go_wp2_with (first
          | (go_at_call 40; refine (local_any l _ hm2).mono ?_; rintro e w' ⟨rfl, rfl⟩; rw [HF.out])
          | (go_at_call 39; refine (space_any _ _ hm).mono ?_; rintro e w' ⟨rfl, hb1⟩; rw [HS.out]; replace hbel := hbel.trans (hb1.mono hbel.size); clear hb1))
        go_ret2
        exact ⟨rfl, hbel⟩
      case inl =>
        have h48 := (space_len hs).2
        have HZ := joined_size s l
        have HJ := Lib.hid (joined_str s l)
        by_cases hov : 48 < s.size + l.size + 2
        case' pos => rw [joinEnd_none (by unfold joinL; rw [if_pos ⟨hf, .inr hs⟩, if_neg hnil, if_pos (by omega)])]
        case' neg => rw [joinEnd_some (by unfold joinL; rw [if_pos ⟨hf, .inr hs⟩, if_neg hnil, if_neg (by omega)]), ← HJ.out]
        all_goals
          clear hf hls hll h0 hs hnil HJ
          go_enter Tryz.func177, Tryz.ntmps177
          go_wp2_with (first
            | (go_at_call 40; refine (local_any l _ hm2).mono ?_; rintro e w' ⟨rfl, rfl⟩; rw [HF.out])
            | (go_at_call 39; refine (space_any _ _ hm).mono ?_; rintro e w' ⟨rfl, hb1⟩; rw [HS.out]; replace hbel := hbel.trans (hb1.mono hbel.size); clear hb1))
          go_ret2
          exact ⟨rfl, hbel⟩
  · have HF := Lib.hid hf
    rw [joinEnd_none (by unfold joinL; rw [if_neg (by rw [hf]; simp)])]
    clear hf hls hll
    go_enter Tryz.func177, Tryz.ntmps177
    go_wp2_with (first
      | (go_at_call 40; refine (local_any l _ hm2).mono ?_; rintro e w' ⟨rfl, rfl⟩; rw [HF.out]))
    go_ret2
    exact ⟨rfl, hbel⟩
end Go.Proofs.YtjepnddndpmnnaaGreatDoor

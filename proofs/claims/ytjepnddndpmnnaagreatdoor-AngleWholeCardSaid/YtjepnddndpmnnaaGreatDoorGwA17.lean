/-
  The brace syntax: what lies while a text is read; Tell.
  A Stream as plain functions on bytes, for any machine. No program is read here.
  stream: what a machine has to be, for a Stream to drive it: how it lies, what its calls do and leave.
-/
import Derived.Test.YtjepnddndpmnnaaGreatDoorGwA16
import Derived.Test.YtjepnddndpmnnaaGreatDoorGwA14
import Derived.Test.YtjepnddndpmnnaaGreatDoorGwA05
import Derived.StillTailTactics
import Derived.Test.YtjepnddndpmnnaaGreatDoorGwA04
namespace Go.Proofs.YtjepnddndpmnnaaGreatDoor
open Go.RowKit Go.Maps
set_option maxRecDepth 100000
set_option linter.unusedSimpArgs false
set_option linter.unusedVariables false
set_option linter.unusedSectionVars false
set_option linter.unusedSectionVars false
variable [Tab] [Fo]

/-- The row of what waits, of all that was told: whole, or without the first that were taken. -/
def RowT (w : World) (base : Nat) (v : Value) (l : List Ev) : Prop := (Fo.tk = none ∧ ERow w base v l) ∨ ∃ n, Fo.tk = some n ∧ n ≤ l.length ∧ WE w base v (l.drop n)
section
variable {w w' : World} {base : Nat} {v : Value} {l : List Ev}
theorem RowT.obj (h : RowT w base v l) {g : Nat} (hg : v.ownBlock = some g) : base ≤ g ∧ g < w.heap.size ∧ ∃ cur, w.heap[g]? = some (.cells cur 38 (0, 0)) := by
  rcases h with ⟨_, h⟩ | ⟨_, _, _, h⟩
  · exact (WE.of_erow h).obj hg
  · exact h.obj hg
theorem RowT.frame (h : RowT w base v l) (hk : ∀ g o, v.ownBlock = some g → w.heap[g]? = some o → w'.heap[g]? = some o) : RowT w' base v l := by
  rcases h with ⟨h0, h⟩ | ⟨n, h0, h1, h⟩
  · refine .inl ⟨h0, h.1, ?_⟩
    rcases h.2 with hn | ⟨g, cap, cur, hv, hg, hh, r⟩
    · exact .inl hn
    · exact .inr ⟨g, cap, cur, hv, hg, hk g _ (by rw [hv]; rfl) hh, r⟩
  · exact .inr ⟨n, h0, h1, h.frame hk⟩
theorem RowT.below (h : RowT w base v l) (hb : Below w.heap.size w w') : RowT w' base v l := h.frame fun g o _ ho => (hb.block g (Array.getElem?_eq_some_iff.1 ho).1).trans ho
theorem RowT.alloc (h : RowT w base v l) (o : Obj) : RowT (w.alloc o) base v l := h.below ((Below.refl _ _).alloc (Nat.le_refl _) _)
theorem RowT.tch {b : Nat} {p : Obj → Prop} (h : RowT w base v l) (ht : Tch b p w w') (hp : ∀ cur fr, ¬ p (.cells cur 38 fr)) : RowT w' base v l :=
  h.frame fun g o hg ho => by
    obtain ⟨_, _, cur, hc⟩ := h.obj hg
    rw [ho] at hc
    injection hc with hc
    subst hc
    exact ht.block _ _ ho (.inr (.inl (hp _ _)))
theorem RowT.of_c (h : RowT w base v l) (ht : Tch base cObj w w') : RowT w' base v l := h.tch ht (fun _ _ => by simp only [cObj]; decide)
theorem RowT.shape (h : RowT w base v l) : ∃ A n c, v = .slice A n c ∧ n ≤ l.length := by
  rcases h with ⟨_, h⟩ | ⟨_, _, _, h⟩
  · obtain ⟨A, c, e⟩ := h.shape
    exact ⟨A, _, c, e, Nat.le_refl _⟩
  · obtain ⟨A, c, e⟩ := h.shape
    exact ⟨A, _, c, e, by simp⟩
theorem RowT.lt (h : RowT w base v l) {g : Nat} (hg : v.ownBlock = some g) : base ≤ g ∧ g < w.heap.size := ⟨(h.obj hg).1, (h.obj hg).2.1⟩
theorem RowT.low {b : Nat} (h : RowT w base v l) (hb : b ≤ base) : RowT w b v l := by
  rcases h with ⟨h0, h⟩ | ⟨n, h0, h1, h⟩
  · refine .inl ⟨h0, h.1, ?_⟩
    rcases h.2 with hn | ⟨g, cap, cur, hv, hg, r⟩
    · exact .inl hn
    · exact .inr ⟨g, cap, cur, hv, Nat.le_trans hb hg, r⟩
  · exact .inr ⟨n, h0, h1, h.low hb⟩
theorem RowT.nil (h0 : Fo.tk = none) (w : World) (base : Nat) : RowT w base (.slice none 0 0) [] := .inl ⟨h0, ERow.nil w base⟩
theorem run_append_t (h : RowT w base v l) (x : Ev) (A : Addr) (ty : TypeId) (hc : ∀ j u, [Value.int .i64 x.k, .string x.t, .string x.v][j]? = some u → w.cell? (A.add j) = some u)
    (hl : l.length ≤ 1000000) (hbase : base ≤ w.heap.size) :
    ∃ v' w', (Builtin.append_ #[24, 24] ty #[v, .slice (some A) 1 1]).run Tryz.prog w = .ok v' w' ∧ RowT w' base v' (l ++ [x]) ∧ w.grownBy w' v.ownBlock ∧ NB w v v' := by
  rcases h with ⟨h0, h⟩ | ⟨n, h0, h1, h⟩
  · obtain ⟨i, hi, hz, hsize, hby⟩ := info_parts Tryz.infoEv
    obtain ⟨v', w', hr, h2, h3, _, h5⟩ := run_append_own_at (P := Tryz.prog) w base 24 ty 38 i _ 3 40 Tryz.underlying24 hi hz hsize hby rfl (by decide) v l.length (evcs l) h A 1 1 _ rfl hc (by simp [Value.oneCell']) (by simp only [maxLen]; omega) (by omega) hbase
    refine ⟨v', w', hr, .inl ⟨h0, ?_⟩, h3, h5.imp id fun e => ⟨_, e, Nat.le_refl _⟩⟩
    unfold ERow
    rw [evcs_snoc, List.length_append]
    exact h2
  · obtain ⟨v', w', hr, h2, h3, h5⟩ := run_append_we base v (l.drop n) h x A ty hc (by simp; omega) hbase
    refine ⟨v', w', hr, .inr ⟨n, h0, by simp; omega, ?_⟩, h3, h5⟩
    rw [List.drop_append_of_le_length h1]
    exact h2
theorem step_appT {ops : Array Oper} {o : Oper} {a : Act} {K : Act → World → Prop} {Q : Exit → Act → World → Prop} {E : Prop} (hgd : o.guard = none) (s x : Operand)
    (ho : o.op = .call { callee := .builtin .append, args := #[s, x], argTypes := #[24, 24] })
    (base : Nat) (v : Value) (l : List Ev) (y : Ev) (hs : a.eval s = v) (hown : RowT w base v l) (A : Addr) (hx : a.eval x = .slice (some A) 1 1)
    (hc : ∀ j u, [Value.int .i64 y.k, .string y.t, .string y.v][j]? = some u → w.cell? (A.add j) = some u) (hl : l.length ≤ 1000000) (hbase : base ≤ w.heap.size)
    (h : ∀ v' w', RowT w' base v' (l ++ [y]) → w.grownBy w' v.ownBlock → NB w v v' → K (a.put o.dst v') w') :
    if Region.wanted o (yielded ops a.tmps) = true then Oper.wp Tryz.prog o a w K Q else E := by
  have hw : Region.wanted o (yielded ops a.tmps) = true := by simp [Region.wanted, hgd]
  rw [if_pos hw]
  obtain ⟨v', w', hrun, h2, h3, h5⟩ := run_append_t hown y A o.type hc hl hbase
  unfold Oper.wp execOp
  simp only [ho, resolve, invoke, builtin, Sem.run_bind, Sem.run_pure, Result.andThen_ok, List.map_toArray, List.map_cons, List.map_nil, hs, hx, hrun]
  exact h v' w' h2 h3 h5
theorem rowT_push {v' : Value} {o : Obj} (h : RowT w base v l) (hf : NF v) (hg : (w.alloc o).grownBy w' v.ownBlock) : Tch base eObj w w' := by
  refine ((Tch.refl base eObj w).alloc o).trans ?_
  cases hv : v.ownBlock with
  | none => rw [hv] at hg; exact Tch.of_grown_none hg
  | some g =>
    obtain ⟨h1, _, cur, hh⟩ := (h.alloc o).obj hv
    rw [hv] at hg
    exact Tch.of_grown hg h1 (hf g hv) hh rfl
end

/-- The events that wait, and the Check that they passed. -/
structure OAt (w : World) (base o ck : Nat) (st : List Pt) (l : List Ev) : Prop where
  out : ∃ lv, Blk w o 45 #[.pointer (some ⟨ck, 0, none⟩), lv, .int .i64 0] ∧ RowT w base lv l ∧ NF lv
  chk : CAt w base ck st
  bo : base ≤ o
  nf : ¬ Fo.F o
def tObj : Obj → Prop
  | .cells _ t _ => t = 75 ∨ t = 72 ∨ t = 45 ∨ t = 38
  | .map _ _ => True
  | _ => False

def oOnly : Obj → Prop
  | .cells _ t _ => t = 45
  | _ => False
def TellPost (w : World) (base o ck : Nat) (st : List Pt) (l : List Ev) (x : Ev) (e : Ending) (w' : World) : Prop :=
  e = .returned (.int .i64 (stepE st x)) ∧ OAt w' base o ck (stepS st x) (tellL st l x) ∧ Tch base tObj w w'

theorem c_of_t {o : Obj} (h : cObj o) : tObj o := by
  cases o <;> simp only [cObj, tObj] at h ⊢
  · rcases h with h | h <;> simp [h]
theorem e_of_t {o : Obj} (h : eObj o) : tObj o := by
  cases o <;> simp only [eObj, tObj] at h ⊢
  · simp [h]
theorem Tch.wide {base : Nat} {p q : Obj → Prop} {w w' : World} (h : Tch base p w w') (hpq : ∀ o, p o → q o) : Tch base q w w' :=
  ⟨h.os, h.tape, h.output, h.size, fun k o ho hc => h.block k o ho (hc.imp id (Or.imp (fun hn hp => hn (hpq o hp)) id))⟩

set_option maxHeartbeats 4000000 in
theorem tell_any (w : World) (base o ck : Nat) (st : List Pt) (l : List Ev) (x : Ev) (h : OAt w base o ck st l) (hg : Good st) (hw : NumW x.k w) (hs : x.t.size ≤ 140737488355328) (hl : l.length ≤ 1000000) (hb : base ≤ w.heap.size) :
    Calls Tryz.prog 162 #[.pointer (some ⟨o, 0, none⟩), .agg #[.int .i64 x.k, .string x.t, .string x.v], .slice none 0 0] w (TellPost w base o ck st l x) := by
  obtain ⟨⟨lv, hB, hR, hnf⟩, hC, hbo, hfo⟩ := h
  have hB1 := hB.alloc (.cells #[.int .i64 x.k, .string x.t, .string x.v] 38)
  have hX1 := Blk.new w 38 #[.int .i64 x.k, .string x.t, .string x.v]
  have hR1 := hR.alloc (.cells #[.int .i64 x.k, .string x.t, .string x.v] 38)
  have al : Below w.heap.size w (w.alloc (.cells #[.int .i64 x.k, .string x.t, .string x.v] 38)) := (Below.refl _ _).alloc (Nat.le_refl _) _
  have hC1 := hC.below al
  have hw1 := hw.below al
  obtain ⟨W0, hW0⟩ : ∃ W0, w.alloc (.cells #[.int .i64 x.k, .string x.t, .string x.v] 38) = W0 := ⟨_, rfl⟩
  have hs0 : W0.heap.size = w.heap.size + 1 := by rw [← hW0]; simp
  rw [hW0] at hB1 hX1 hR1 hC1 hw1 al
  have b0 : W0.cell? ⟨o, 0, none⟩ = some (.pointer (some ⟨ck, 0, none⟩)) := hB1.cell 0
  have x0 : W0.cell? ⟨w.heap.size, 0, none⟩ = some (.int .i64 x.k) := hX1.cell 0
  have x1 : W0.cell? ⟨w.heap.size, 1, none⟩ = some (.string x.t) := hX1.cell 1
  have x2 : W0.cell? ⟨w.heap.size, 2, none⟩ = some (.string x.v) := hX1.cell 2
  have hS := estep_any W0.drew base ck st x (hC1.below (below_drew (Below.refl _ _))) hg (hw1.drewN 1) hs
  unfold SPost evV at hS
  have HO := Lib.hid (fun g hg => (RowT.lt hR (g := g) hg).2)
  have HB := Lib.hid hB1
  have HX := Lib.hid hX1
  have HR := Lib.hid hR1
  have HAL := Lib.hid al
  have hbz : base ≤ W0.heap.size := by omega
  clear hB hR hC hB1 hX1 hR1 hC1 al
  by_cases hz : stepE st x = 0
  case neg =>
    have hsn : stepS st x = st := by unfold stepS; rw [if_neg hz]
    have e1 : (stepE st x == 0) = false := by rw [beq_eq_false_iff_ne]; exact hz
    have e2 : (stepE st x != 0) = true := by simp [bne, e1]
    unfold TellPost tellL
    rw [if_neg hz, hsn]
    rw [hsn] at hS
    generalize stepE st x = E at *
    clear hz hsn
    go_enter Tryz.func162, Tryz.ntmps162
    go_wp2
    go_still_tail 5, (by kernel_rfl)
    change wpList _ _ _ _ _ W0.drew
    generalize hwd : W0.drew = wd at *
    have HD := Lib.hid (show Below W0.heap.size W0 wd by rw [← hwd]; exact below_drew (Below.refl _ _))
    clear hwd b0 x0 x1 x2
    go_wp2_with (first
      | (go_at_call 11; refine hS.mono ?_; rintro e w3 ⟨rfl, hC3, hT3⟩))
    go_ret
    have ht : Tch base cObj w w3 := (Tch.of_below HAL.out).trans ((Tch.of_below HD.out).trans hT3)
    refine ⟨rfl, ⟨⟨lv, ?_, ?_, hnf⟩, hC3, hbo, hfo⟩, ht.wide fun _ => c_of_t⟩
    · exact ((HB.out.below HD.out HB.out.lt).tch hT3 (.inr (by simp only [cObj]; decide)))
    · exact (HR.out.below HD.out).of_c hT3
  case pos =>
    unfold TellPost tellL
    rw [if_pos hz]
    rw [hz] at hS ⊢
    generalize stepS st x = st2 at *
    clear hz
    obtain ⟨A, nR, c, rfl, hnR⟩ := HR.out.shape
    go_enter Tryz.func162, Tryz.ntmps162
    go_wp2
    go_still_tail 5, (by kernel_rfl)
    change wpList _ _ _ _ _ W0.drew
    generalize hwd : W0.drew = wd at *
    have HD := Lib.hid (show Below W0.heap.size W0 wd by rw [← hwd]; exact below_drew (Below.refl _ _))
    have hzd : W0.heap.size ≤ wd.heap.size := HD.out.size
    clear hwd b0 x0 x1 x2
    go_wp2_with (first
      | (go_at_call 11; refine hS.mono ?_; rintro e w3 ⟨rfl, hC3, hT3⟩))
    have HB3 := Lib.hid ((HB.out.below HD.out HB.out.lt).tch hT3 (.inr (by simp only [cObj]; decide)))
    have HX3 := Lib.hid ((HX.out.below HD.out HX.out.lt).tch hT3 (.inr (by simp only [cObj]; decide)))
    have HR3 := Lib.hid ((HR.out.below HD.out).of_c hT3)
    have HT3 := Lib.hid ((Tch.of_below HAL.out (p := cObj) (base := base)).trans ((Tch.of_below HD.out).trans hT3))
    have b0 := HB3.out.cell 0
    have b1 := HB3.out.cell 1
    have x0 := HX3.out.cell 0
    have x1 := HX3.out.cell 1
    have x2 := HX3.out.cell 2
    have hz3 : base ≤ w3.heap.size := by have := hT3.size; omega
    have HC3 := Lib.hid hC3
    clear hT3 hC3 HB HX HR HAL HD hS hw1 hzd
    go_wp2
    go_loopw [22] (fun i wr => i = .int .i64 0 ∧ w3 = wr) (fun _ _ => 0)
    case atStart => exact ⟨rfl, rfl⟩
    case' round =>
      obtain ⟨rfl, rfl⟩ := hrel
      go_wp2
    refine region_g [10] (S := (fun W => W.cell? ⟨o, 1, none⟩ = some (.slice A nR c) ∧ W.cell? ⟨w.heap.size, 0, none⟩ = some (.int .i64 x.k) ∧ W.cell? ⟨w.heap.size, 1, none⟩ = some (.string x.t) ∧ W.cell? ⟨w.heap.size, 2, none⟩ = some (.string x.v))) (by kernel_rfl) ⟨b1, x0, x1, x2⟩ (fun hH => ?_)
    refine g_take (i := 0) (v := .pointer (some ⟨o, 0, none⟩)) (by rfl) (by kernel_rfl) (by kernel_rfl) (by kernel_rfl) (by kernel_rfl) (fun _ _ _ h => (by cases h.1)) (Or.inl ⟨by rfl, fun W hS => (by obtain ⟨s0, s1, s2, s3⟩ := hS; go_simp)⟩) hH ?_
    simp only [Act.put, List.setIfInBounds_toArray, List.set_cons_zero, List.set_cons_succ]
    refine g_take (i := 1) (v := .pointer (some ⟨o, 0, none⟩)) (by rfl) (by kernel_rfl) (by kernel_rfl) (by kernel_rfl) (by kernel_rfl) (fun _ _ _ h => (by cases h.1)) (Or.inl ⟨by rfl, fun W hS => (by obtain ⟨s0, s1, s2, s3⟩ := hS; go_simp)⟩) hH ?_
    simp only [Act.put, List.setIfInBounds_toArray, List.set_cons_zero, List.set_cons_succ]
    refine g_take (i := 2) (v := .pointer (some ⟨o, 0, none⟩)) (by rfl) (by kernel_rfl) (by kernel_rfl) (by kernel_rfl) (by kernel_rfl) (fun _ _ _ h => (by cases h.1)) (Or.inl ⟨by rfl, fun W hS => (by obtain ⟨s0, s1, s2, s3⟩ := hS; go_simp)⟩) hH ?_
    simp only [Act.put, List.setIfInBounds_toArray, List.set_cons_zero, List.set_cons_succ]
    refine g_take (i := 3) (v := .pointer (some ⟨o, 1, none⟩)) (by rfl) (by kernel_rfl) (by kernel_rfl) (by kernel_rfl) (by kernel_rfl) (fun _ _ _ h => (by cases h.1)) (Or.inl ⟨by rfl, fun W hS => (by obtain ⟨s0, s1, s2, s3⟩ := hS; go_simp)⟩) hH ?_
    simp only [Act.put, List.setIfInBounds_toArray, List.set_cons_zero, List.set_cons_succ]
    refine g_take (i := 4) (v := .slice A nR c) (by rfl) (by kernel_rfl) (by kernel_rfl) (by kernel_rfl) (by kernel_rfl) (fun _ _ _ h => (by cases h.1)) (Or.inl ⟨by rfl, fun W hS => (by obtain ⟨s0, s1, s2, s3⟩ := hS; go_simp)⟩) hH ?_
    simp only [Act.put, List.setIfInBounds_toArray, List.set_cons_zero, List.set_cons_succ]
    refine g_take (i := 5) (v := .agg #[.int .i64 x.k, .string x.t, .string x.v]) (by rfl) (by kernel_rfl) (by kernel_rfl) (by kernel_rfl) (by kernel_rfl) (fun _ _ _ h => (by cases h.1)) (Or.inl ⟨by rfl, fun W hS => (by obtain ⟨s0, s1, s2, s3⟩ := hS; go_simp)⟩) hH ?_
    simp only [Act.put, List.setIfInBounds_toArray, List.set_cons_zero, List.set_cons_succ]
    refine g_one (i := 6) (by kernel_rfl) (by rfl) (fun K hK => ?_)
    go_simp
    refine hK.out _ _ (fun _ => ⟨(HB3.out.drew.alloc _).cell 1, (HX3.out.drew.alloc _).cell 0, (HX3.out.drew.alloc _).cell 1, (HX3.out.drew.alloc _).cell 2⟩) (fun _ => ?_)
    clear hK K hH
    have hBe := HB3.out.drew.alloc (.cells #[.int .i64 x.k, .string x.t, .string x.v] 38)
    have hXe := HX3.out.drew.alloc (.cells #[.int .i64 x.k, .string x.t, .string x.v] 38)
    have hdr : Below w3.heap.size w3 w3.drew := below_drew (Below.refl _ _)
    have hRe := (HR3.out.below hdr).alloc (.cells #[.int .i64 x.k, .string x.t, .string x.v] 38)
    have hbe : base ≤ (w3.drew.alloc (.cells #[.int .i64 x.k, .string x.t, .string x.v] 38)).heap.size := by simp; exact Nat.le_succ_of_le hz3
    refine g_one (i := 7) (by kernel_rfl) (by rfl) (fun K hK => ?_)
    refine step_appT (by rfl) (.tmp 37) (.tmp 39) (by rfl) base (.slice A nR c) l x (by rfl) (by exact hRe) ⟨w3.heap.size, 0, none⟩ (by rfl) (by exact cellsOf3 w3.drew _ _ _ _) hl hbe ?_
    intro v4 w4 hown4 hg4 hnb4
    have hnf4 := hnf.nb hnb4 (Nat.le_trans HC3.out.lim (by simp))
    have hrow5 := hown4
    have hT4 := rowT_push (v' := v4) (HR3.out.below hdr) hnf hg4
    obtain ⟨A4, n4, c4, rfl, _⟩ := hown4.shape
    have hB4 := HB3.out.drew.tch hT4 (.inr (by simp only [eObj]; decide))
    have hX4 := hXe.grown hg4 (fun e => by have := HO.out _ e.symm; omega)
    have hH : w4.cell? ⟨o, 1, none⟩ = some (.slice A nR c) ∧ w4.cell? ⟨w.heap.size, 0, none⟩ = some (.int .i64 x.k) ∧ w4.cell? ⟨w.heap.size, 1, none⟩ = some (.string x.t) ∧ w4.cell? ⟨w.heap.size, 2, none⟩ = some (.string x.v) := ⟨hB4.cell 1, hX4.cell 0, hX4.cell 1, hX4.cell 2⟩
    refine hK.out _ _ (fun _ => hH) (fun _ => ?_)
    clear hK K
    simp only [Act.put, List.setIfInBounds_toArray, List.set_cons_zero, List.set_cons_succ]
    refine g_one (i := 8) (by kernel_rfl) (by rfl) (fun K hK => ?_)
    go_simp
    refine hK.out _ _ (fun _ => hH) (fun _ => ?_)
    clear hK K
    refine g_one (i := 9) (by kernel_rfl) (by rfl) (fun K hK => ?_)
    go_simp
    refine hK.out _ _ (fun _ => hH) (fun _ => ?_)
    clear hK K
    have d1 := hB4.cell 1
    have f1 := hB4.frozen 1
    have dl := hB4.lt
    refine g_one (i := 10) (by kernel_rfl) (by rfl) (fun K hK => ?_)
    go_simp
    refine hK.out _ _ (fun h => absurd (List.mem_singleton.2 rfl) h) (fun _ => ?_)
    clear hK K
    refine g_done (by kernel_rfl) ⟨by first | rfl | trivial, ?_⟩ _
    have HF : Hid (OAt (w4.setCell ⟨o, 1, none⟩ (.slice A4 n4 c4)) base o ck st2 (l ++ [x]) ∧ Tch base tObj w (w4.setCell ⟨o, 1, none⟩ (.slice A4 n4 c4))) := by
      have ht4 : Tch base eObj w3 w4 := (Tch.of_below hdr).trans hT4
      have hset : Tch base tObj w4 (w4.setCell ⟨o, 1, none⟩ (.slice A4 n4 c4)) := (Tch.refl _ _ _).set hB4 hbo hfo (show tObj (.cells _ _ _) from .inr (.inr (.inl rfl))) 1 _
      have hsetO : Tch base oOnly w4 (w4.setCell ⟨o, 1, none⟩ (.slice A4 n4 c4)) := (Tch.refl _ _ _).set hB4 hbo hfo (show oOnly (.cells _ _ _) from rfl) 1 _
      refine Lib.hid ⟨⟨⟨_, hB4.set_ 1 _, ?_, hnf4⟩, ?_, hbo, hfo⟩, ((HT3.out.wide fun _ => c_of_t).trans (ht4.wide fun _ => e_of_t)).trans hset⟩
      · exact hrow5.tch hsetO (fun _ _ => by simp only [oOnly]; decide)
      · exact (HC3.out.of_e ht4).tch hsetO (fun cs t fr h hc => by simp only [oOnly] at hc; rcases h with rfl | rfl <;> exact absurd hc (by decide)) (fun _ _ hc => hc)
    clear hnb4 hnf4 hB4 hX4 hrow5 hT4 hown4 hg4 hRe hXe hBe hdr HB3 HX3 HR3 HT3 HC3 HO hH d1 f1 dl
    go_wp2
    go_ret
    exact ⟨rfl, HF.out⟩
end Go.Proofs.YtjepnddndpmnnaaGreatDoor
namespace Go.Proofs.YtjepnddndpmnnaaGreatDoor
set_option maxRecDepth 100000
set_option linter.unusedSimpArgs false
set_option linter.unusedVariables false
set_option linter.unusedSectionVars false
variable [Tab]

/-- A machine, as plain functions: its state, its step and its end, with what holds ahead of each byte. -/
structure MachP where
  σ : Type
  x0 : σ
  stp : σ → UInt8 → σ
  ste : σ → UInt8 → Int
  fin : σ → σ
  fne : σ → Int
  st : σ → List Pt
  l : σ → List Ev
  Inv : σ → Nat → Prop
  inv0 : Inv x0 0
  inv_step : ∀ {x n} b, Inv x n → ste x b = 0 → Inv (stp x b) (n + 2)
  len_step : ∀ {x n} b, Inv x n → (l (stp x b)).length ≤ 2 * (n + 2)
  inv_mono : ∀ {x n k}, Inv x n → n ≤ k → Inv x k
  inv_len : ∀ {x n}, Inv x n → (l x).length ≤ 2 * n
section
variable (M : MachP)
/-- A text that is read: the machine with its Check and events; the Scan; the error, and how many bytes were read. -/
structure Ss where
  b : M.σ
  sl : Int
  slo : Int
  shi : Int
  e : Int
  rd : Nat
def ss0 : Ss M := ⟨M.x0, 0, 128, 191, 0, 0⟩
variable {M}
def feed1 (x : Ss M) (c : UInt8) : Ss M :=
  if x.e ≠ 0 then x
  else if stOk x.sl x.slo x.shi (c.toNat : Int) = true then
    ⟨M.stp x.b c, stL x.sl (c.toNat : Int), stLo x.sl (c.toNat : Int), stHi x.sl (c.toNat : Int), M.ste x.b c, if M.ste x.b c = 0 then x.rd + 1 else x.rd⟩
  else { x with e := 3 }
def feedG (x : Ss M) (l : List UInt8) : Ss M := l.foldl feed1 x
theorem feedG_cons (x : Ss M) (c : UInt8) (l : List UInt8) : feedG x (c :: l) = feedG (feed1 x c) l := rfl
theorem feed1_stop {x : Ss M} (h : x.e ≠ 0) (c : UInt8) : feed1 x c = x := by unfold feed1; rw [if_pos h]
theorem feedG_stop {x : Ss M} (h : x.e ≠ 0) : ∀ l, feedG x l = x
  | [] => rfl
  | c :: l => by rw [feedG_cons, feed1_stop h]; exact feedG_stop h l
structure SInv (x : Ss M) (k : Nat) : Prop where
  b : x.e = 0 → M.Inv x.b (2 * k)
  ln : (M.l x.b).length ≤ 2 * (2 * k)
  rd : x.rd ≤ k
  sl : 0 ≤ x.sl ∧ x.sl ≤ 3
theorem sinv_feed1 {x : Ss M} {k : Nat} (h : SInv x k) (c : UInt8) : SInv (feed1 x c) (k + 1) := by
  unfold feed1
  split
  · rename_i he
    exact ⟨fun e => absurd e he, by have := h.ln; omega, by have := h.rd; omega, h.sl⟩
  · rename_i he
    have he' : x.e = 0 := by simpa using he
    split
    · exact ⟨fun e => M.inv_step c (h.b he') e, M.len_step c (h.b he'), by have := h.rd; simp only; split <;> omega, stL_range h.sl.1 h.sl.2⟩
    · exact ⟨fun e => absurd (show (3 : Int) = 0 from e) (by decide), by have := h.ln; simp only; omega, by have := h.rd; simp only; omega, h.sl⟩
theorem sinv0 : SInv (ss0 M) 0 := ⟨fun _ => M.inv0, M.inv_len M.inv0, by simp [ss0], by simp [ss0]⟩
theorem sinv_feedG : ∀ (l : List UInt8) (x : Ss M) (k : Nat), SInv x k → SInv (feedG x l) (k + l.length)
  | [], _, _, h => h
  | c :: l, x, k, h => by
    have := sinv_feedG l (feed1 x c) (k + 1) (sinv_feed1 h c)
    rw [feedG_cons, List.length_cons]
    rwa [show k + (l.length + 1) = k + 1 + l.length from by omega]

def endE (x : Ss M) : Int := if x.sl = 0 then M.fne x.b else 3
def endBs (x : Ss M) : M.σ := if x.sl = 0 then M.fin x.b else x.b
def closeE (x : Ss M) : Int := if x.e ≠ 0 then x.e else endE x
def closeBs (x : Ss M) : M.σ := if x.e ≠ 0 then x.b else endBs x
end
end Go.Proofs.YtjepnddndpmnnaaGreatDoor
namespace Go.Proofs.YtjepnddndpmnnaaGreatDoor
open Go.RowKit Go.Maps
set_option maxRecDepth 100000
set_option linter.unusedSimpArgs false
set_option linter.unusedVariables false
set_option linter.unusedSectionVars false
variable [Tab] [Fo]

/-- The variables of the library, below base. -/
def SW (base : Nat) (w : World) : Prop := ∃ w0, Nm.StdW w0 ∧ w0.heap.size ≤ base ∧ Below w0.heap.size w0 w
theorem SW.std {base : Nat} {w : World} (h : SW base w) : Nm.StdW w := by obtain ⟨w0, h1, _, h3⟩ := h; exact h1.below h3
theorem SW.below {base : Nat} {w w' : World} (h : SW base w) (hb : Below base w w') : SW base w' := by
  obtain ⟨w0, h1, h2, h3⟩ := h
  exact ⟨w0, h1, h2, h3.trans (hb.mono h2)⟩
theorem SW.tch {base : Nat} {w w' : World} {p : Obj → Prop} (h : SW base w) (ht : Tch base p w w') (hb : base ≤ w.heap.size) : SW base w' := h.below (ht.below hb)

/-- The same, of a machine that tells numbers. -/
def SN (n : Prop) (base : Nat) (w : World) : Prop := n → SW base w
theorem SN.of {n : Prop} {base : Nat} {w : World} (h : SW base w) : SN n base w := fun _ => h
theorem SN.below {n : Prop} {base : Nat} {w w' : World} (h : SN n base w) (hb : Below base w w') : SN n base w' := fun e => (h e).below hb
theorem SN.tch {n : Prop} {base : Nat} {w w' : World} {p : Obj → Prop} (h : SN n base w) (ht : Tch base p w w') (hb : base ≤ w.heap.size) : SN n base w' := fun e => (h e).tch ht hb

def ssObj : Obj → Prop
  | .cells _ t _ => t = 49 ∨ t = 97
  | _ => False
/-- What a step leaves of what it does not know. -/
structure FrG (obj : Obj → Prop) (base B : Nat) (w w' : World) : Prop where
  low : Below base w w'
  keep : ∀ k o, w.heap[k]? = some o → k < B → ¬ obj o → w'.heap[k]? = some o
  fo : ∀ k o, w.heap[k]? = some o → Fo.F k → w'.heap[k]? = some o
theorem FrG.refl (obj : Obj → Prop) (base B : Nat) (w : World) : FrG obj base B w w := ⟨Below.refl _ _, fun k o h _ _ => h, fun k o h _ => h⟩
section
variable {obj : Obj → Prop} {base B : Nat} {w w' w'' : World}
theorem FrG.trans (h : FrG obj base B w w') (k : FrG obj base B w' w'') : FrG obj base B w w'' := ⟨h.low.trans k.low, fun i o ho hi hn => k.keep i o (h.keep i o ho hi hn) hi hn, fun i o ho hf => k.fo i o (h.fo i o ho hf) hf⟩
theorem FrG.of_tch (h : Tch base obj w w') (hb : base ≤ w.heap.size) : FrG obj base B w w' := ⟨h.below hb, fun k o ho _ hn => h.block k o ho (.inr (.inl hn)), fun k o ho hf => h.block k o ho (.inr (.inr hf))⟩
end
/-- Below base, and of the foreign blocks, nothing has turned. -/
structure LowF (base : Nat) (w w' : World) : Prop where
  low : Below base w w'
  fo : ∀ k o, w.heap[k]? = some o → Fo.F k → w'.heap[k]? = some o
section
variable {obj : Obj → Prop} {base B : Nat} {w w' w'' : World}
theorem LowF.refl (base : Nat) (w : World) : LowF base w w := ⟨Below.refl _ _, fun k o h _ => h⟩
theorem LowF.trans (h : LowF base w w') (k : LowF base w' w'') : LowF base w w'' := ⟨h.low.trans k.low, fun i o ho hf => k.fo i o (h.fo i o ho hf) hf⟩
theorem LowF.of_tch {p : Obj → Prop} (h : Tch base p w w') (hb : base ≤ w.heap.size) : LowF base w w' := ⟨h.below hb, fun k o ho hf => h.block k o ho (.inr (.inr hf))⟩
theorem LowF.of_below (h : Below w.heap.size w w') (hb : base ≤ w.heap.size) : LowF base w w' := ⟨h.mono hb, fun k o ho _ => (h.block k (Array.getElem?_eq_some_iff.1 ho).1).trans ho⟩
theorem LowF.drew (base : Nat) (w : World) : LowF base w w.drew := ⟨below_drew (Below.refl _ _), fun k o h _ => h⟩
theorem FrG.lowF (h : FrG obj base B w w') : LowF base w w' := ⟨h.low, h.fo⟩
end
/-- A row, a Check, events that wait: they lie as they lay where no block of theirs has turned. -/
theorem row_up {w w' : World} {b : Nat} {e : TypeId} {size n : Nat} {v : Value} {xs : List Value} (h : w.ownsRow b e size v n xs) (hk : ∀ k o, b ≤ k → w.heap[k]? = some o → w'.heap[k]? = some o) : w'.ownsRow b e size v n xs := by
  refine ⟨h.1, ?_⟩
  rcases h.2 with hn | ⟨g, cap, cur, hv, hg, hh, r⟩
  · exact .inl hn
  · exact .inr ⟨g, cap, cur, hv, hg, hk _ _ hg hh, r⟩

theorem OAt.tch {w w' : World} {base o ck : Nat} {st : List Pt} {l : List Ev} {p : Obj → Prop} (h : OAt w base o ck st l) (ht : Tch base p w w') (h1 : ∀ cs t fr, t = 75 ∨ t = 72 ∨ t = 45 ∨ t = 38 → ¬ p (.cells cs t fr)) (h2 : ∀ es c, ¬ p (.map es c)) : OAt w' base o ck st l := by
  obtain ⟨⟨lv, hB, hR, hf⟩, hC, hb, ho⟩ := h
  exact ⟨⟨lv, hB.tch ht (.inr (h1 _ _ _ (.inr (.inr (.inl rfl))))), hR.tch ht (fun _ _ => h1 _ _ _ (.inr (.inr (.inr rfl)))), hf⟩, hC.tch ht (fun cs t fr h => h1 cs t fr (by rcases h with h | h; exact .inl h; exact .inr (.inl h))) h2, hb, ho⟩
theorem OAt.of_ss {w w' : World} {base o ck : Nat} {st : List Pt} {l : List Ev} (h : OAt w base o ck st l) (ht : Tch base ssObj w w') : OAt w' base o ck st l :=
  h.tch ht (fun cs t fr h hc => by simp only [ssObj] at hc; rcases h with rfl | rfl | rfl | rfl <;> exact absurd hc (by decide)) (fun _ _ hc => hc)
structure Mach extends MachP where
  T : TypeId
  fs : FuncId
  fe : FuncId
  hms : ∀ (a : Addr) (w : World), (method 331 T (.pointer (some a)) "Step").run Tryz.prog w = .ok (fs, .pointer (some a)) w
  hme : ∀ (a : Addr) (w : World), (method 331 T (.pointer (some a)) "End").run Tryz.prog w = .ok (fe, .pointer (some a)) w
  efs : ∀ args w, (callFunc fs args).run Tryz.prog w = .ok (.enter fs args) w
  efe : ∀ args w, (callFunc fe args).run Tryz.prog w = .ok (.enter fe args) w
  num : Prop
  raw : World → Nat → Nat → Prop
  At : World → Nat → Nat → Nat → Nat → Nat → σ → Prop
  obj : Obj → Prop
  nss : ∀ cs t fr, t = 49 ∨ t = 97 → ¬ obj (.cells cs t fr)
  raw_below : ∀ {w w' base m}, raw w base m → Below w.heap.size w w' → raw w' base m
  raw_lim : ∀ {w base m}, raw w base m → Fo.lim ≤ w.heap.size
  start : ∀ {w0 w base b2 B m o ck}, raw w0 base m → base ≤ w0.heap.size → Below w0.heap.size w0 w → w0.heap.size ≤ b2 → b2 ≤ w.heap.size → OAt w b2 o ck [topP] [] → At w base B m o ck x0
  out : ∀ {w base B m o ck x}, At w base B m o ck x → OAt w base o ck (st x) (l x)
  ss : ∀ {w w' base B m o ck x}, At w base B m o ck x → Tch base ssObj w w' → (∀ k o, B ≤ k → w.heap[k]? = some o → w'.heap[k]? = some o) → At w' base B m o ck x
  step_any : ∀ (w : World) (base B m o ck : Nat) (x : σ) (b : UInt8) (n : Nat), At w base B m o ck x → Inv x n → n ≤ 100000 → B ≤ w.heap.size → SN num base w → base ≤ w.heap.size →
    Calls Tryz.prog fs #[.pointer (some ⟨m, 0, none⟩), .int .u8 (b.toNat : Int), .pointer (some ⟨o, 0, none⟩)] w fun e w' => e = .returned (.int .i64 (ste x b)) ∧ At w' base B m o ck (stp x b) ∧ FrG obj base B w w'
  end_any : ∀ (w : World) (base B m o ck : Nat) (x : σ) (n : Nat), At w base B m o ck x → Inv x n → n ≤ 100000 → SN num base w → base ≤ w.heap.size →
    Calls Tryz.prog fe #[.pointer (some ⟨m, 0, none⟩), .pointer (some ⟨o, 0, none⟩)] w fun e w' => e = .returned (.int .i64 (fne x)) ∧ OAt w' base o ck (st (fin x)) (l (fin x)) ∧ FrG obj base B w w'
end Go.Proofs.YtjepnddndpmnnaaGreatDoor

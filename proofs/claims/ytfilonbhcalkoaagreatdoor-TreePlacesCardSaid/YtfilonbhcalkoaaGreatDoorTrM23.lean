/-
  tree: May.
-/
import Derived.Test.YtfilonbhcalkoaaGreatDoorTrM22
import Derived.Test.YtfilonbhcalkoaaGreatDoorTrM18
namespace Go.Proofs.YtfilonbhcalkoaaGreatDoor
open Go.RowKit Go.Maps Go.Shelf
attribute [local go_sem] Oper.semAt_some
set_option maxRecDepth 100000

mutual
theorem vis_ok : ∀ n : Nd, okT n → ∀ x ∈ visN n, x.t.size ≤ 140737488355328 ∧ x.v.size ≤ 140737488355328
  | .mk k t v kids, h, x, hx => by
    simp only [visN] at hx
    split at hx
    · rcases List.mem_cons.1 hx with rfl | hx
      · exact ⟨h.1.2.2.1, h.1.2.2.2⟩
      · rcases List.mem_append.1 hx with hx | hx
        · exact visL_ok kids h.2.2 x hx
        · simp only [endL] at hx
          split at hx
          · simp at hx; subst hx; exact ⟨Nat.zero_le _, Nat.zero_le _⟩
          · cases hx
    · simp at hx; subst hx; exact ⟨Nat.zero_le _, Nat.zero_le _⟩
theorem visL_ok : ∀ l : List Nd, okTL l → ∀ x ∈ visL l, x.t.size ≤ 140737488355328 ∧ x.v.size ≤ 140737488355328
  | [], _, x, hx => by cases hx
  | n :: r, h, x, hx => by
    simp only [visL] at hx
    rcases List.mem_append.1 hx with hx | hx
    · exact vis_ok n h.1 x hx
    · exact visL_ok r h.2 x hx
end
theorem first_at : ∀ (l : List Ev) (st : List Pt) (k : Nat) (h : k < l.length), allOk st (l.take k) → stepE (runS st (l.take k)) l[k] ≠ 0 → firstE st l = stepE (runS st (l.take k)) l[k]
  | x :: l, st, 0, _, _, hn => by
    have hn2 : stepE st x ≠ 0 := hn
    simp only [firstE]
    rw [if_neg hn2]; rfl
  | x :: l, st, k + 1, h, ha, hn => by
    simp only [List.take_succ_cons, allOk] at ha
    simp only [firstE, if_pos ha.1]
    exact first_at l (stepS st x) k (by simpa using h) ha.2 hn
theorem cObj_needs {b0 B : Nat} (k : Nat) (o : Obj) (h : Needs cWalk b0 B k o) : k < b0 ∨ ¬ cObj o := by
  rcases h with h | h | ⟨_, h⟩
  · exact .inl h
  · refine .inr fun hc => ?_
    cases o <;> simp only [cWalk, cObj] at h hc
    rcases h with h | h | h <;> rcases hc with hc | hc <;> exact absurd (h.symm.trans hc) (by decide)
  · refine .inr fun hc => ?_
    cases o <;> simp [isBk, cObj] at h hc

theorem below_putk {B : Nat} {w W : World} (h : Below B w W) {l : Nat} (hB : B ≤ l) (o' : Obj) : Below B w (W.putObj l o') :=
  ⟨h.os, h.tape, h.output, Nat.le_trans h.size (grownBy_putObj' W l o').size, fun k hk => (World.putObj_heap_other (by omega)).trans (h.block k hk)⟩

set_option maxHeartbeats 4000000 in
theorem tmay_any (n : Nd) (A : Option Addr) (c : Nat) (w : World) (k : Int) (t v : ByteArray) (len : Nat) (hn : n.k = k ∧ n.t = t ∧ n.v = v ∧ n.kids.length = len) (ho : okT n) (hA : NAt (fun b _ => b < w.heap.size) w n A c) (hw : Nm.StdW w) :
    Calls Tryz.prog 16 #[.agg #[.int .i64 k, .string t, .string v, .slice A len c]] w fun e w' => e = .returned (.int .i64 (mayN n)) ∧ Below w.heap.size w w' := by
  refine (callsIn_wide (n := 6)).1 ?_
  refine callsIn_of_wp_marks Tryz.func16 rfl trivial ?_ rfl
  simp only [Tryz.ntmps16, List.size_toArray, List.length_cons, List.length_nil, Nat.reduceAdd, Nat.reduceSub, Array.replicate_succ, Array.replicate_zero, List.push_toArray, List.append_toArray, List.nil_append, List.cons_append]
  have hW0 : Below w.heap.size w ((w.alloc (.cells #[.int .i64 k, .string t, .string v, .slice A len c] 24)).alloc (.cells #[.int .i64 0] 28)) := ((Below.refl _ w).alloc (Nat.le_refl _) _).alloc (by simp) _
  have hx0 : Blk ((w.alloc (.cells #[.int .i64 k, .string t, .string v, .slice A len c] 24)).alloc (.cells #[.int .i64 0] 28)) w.heap.size 24 #[.int .i64 k, .string t, .string v, .slice A len c] := (Blk.new w _ _).alloc _
  have hr0 : Blk ((w.alloc (.cells #[.int .i64 k, .string t, .string v, .slice A len c] 24)).alloc (.cells #[.int .i64 0] 28)) (w.heap.size + 1) 28 #[.int .i64 0] := by
    have := Blk.new (w.alloc (.cells #[.int .i64 k, .string t, .string v, .slice A len c] 24)) 28 #[.int .i64 0]
    rw [World.size_alloc] at this
    exact this
  gi_wp2_with (first
    | (refine ⟨trivial, ?_⟩; gi_at_call 29; refine (callsIn_wide.2 (cnew_any _ w.heap.size (by simp; omega))).mono ?_; rintro e w1 ⟨g, rfl, hg, hC1, hb1⟩; have hx1 := (hx0.below hb1 hx0.lt).alloc (.cells #[.pointer (some ⟨g, 0, none⟩)] 52); have g0 : (w1.alloc (.cells #[.pointer (some ⟨g, 0, none⟩)] 52)).cell? ⟨w.heap.size, 0, none⟩ = some (.int .i64 k) := hx1.cell 0; have g1 : (w1.alloc (.cells #[.pointer (some ⟨g, 0, none⟩)] 52)).cell? ⟨w.heap.size, 1, none⟩ = some (.string t) := hx1.cell 1; have g2 : (w1.alloc (.cells #[.pointer (some ⟨g, 0, none⟩)] 52)).cell? ⟨w.heap.size, 2, none⟩ = some (.string v) := hx1.cell 2; have g3 : (w1.alloc (.cells #[.pointer (some ⟨g, 0, none⟩)] 52)).cell? ⟨w.heap.size, 3, none⟩ = some (.slice A len c) := hx1.cell 3)
    | (refine ⟨trivial, ?_⟩; gi_at_call 25; refine (callsIn_wide.2 (twalk_any k t v A len c _)).mono ?_; rintro e w2 ⟨rfl, rfl⟩))
  obtain ⟨W2, hW2⟩ : ∃ W2, (w.alloc (.cells #[.int .i64 k, .string t, .string v, .slice A len c] 24)).alloc (.cells #[.int .i64 0] 28) = W2 := ⟨_, rfl⟩
  rw [hW2] at hW0 hx0 hr0 hg hb1
  have hs2 : W2.heap.size = w.heap.size + 2 := by rw [← hW2]; simp
  obtain ⟨W3, hW3⟩ : ∃ W3, (w1.alloc (.cells #[.pointer (some ⟨g, 0, none⟩)] 52)).alloc (.cells #[.int .i64 k, .string t, .string v, .slice A len c] 24) = W3 := ⟨_, rfl⟩
  rw [hW3]
  have hbel1 : Below w.heap.size w w1 := hW0.trans (hb1.mono (by omega))
  have hl13 : Below w1.heap.size w1 W3 := by rw [← hW3]; exact ((Below.refl _ w1).alloc (Nat.le_refl _) _).alloc (by simp) _
  have hbel : Below w.heap.size w W3 := hbel1.trans (hl13.mono hbel1.size)
  have hsz : W3.heap.size = w1.heap.size + 2 := by rw [← hW3]; simp
  have hsz1 : w.heap.size + 2 ≤ w1.heap.size := by have := hb1.size; omega
  have hbx : NBox W3 (w1.heap.size + 1) n A c := by
    unfold NBox
    rw [hn.1, hn.2.1, hn.2.2.1, hn.2.2.2, ← hW3]
    have := Blk.new (w1.alloc (.cells #[.pointer (some ⟨g, 0, none⟩)] 52)) 24 #[.int .i64 k, .string t, .string v, .slice A len c]
    rw [World.size_alloc] at this
    exact this
  have hpc : Blk W3 w1.heap.size 52 #[.pointer (some ⟨g, 0, none⟩)] := by
    rw [← hW3]
    exact (Blk.new w1 _ _).alloc _
  have hrc : Blk W3 (w.heap.size + 1) 28 #[.int .i64 0] := (hr0.below hb1 hr0.lt).below hl13 (by omega)
  have hC3 : CAt W3 w.heap.size g [topP] := hC1.below hl13
  have hA3 : NAt (fun b _ => b < w.heap.size) W3 n A c := hA.below hbel
  have hgl : g < w1.heap.size := hC1.lt
  have hvis := vis_ok n ho
  clear g0 g1 g2 g3 hx1 hx0 hr0 hW2 hW3 hn hb1 hC1 hA ho
  have kc : ∀ {X Y : World}, Tch w.heap.size cObj X Y → Kept (Needs cWalk w.heap.size W3.heap.size) X Y := fun h => Kept.of_tch h cObj_needs
  refine range_rounds (C := cWalk) (T := tWalk) tWalk_bk cWalk_bk rfl rfl (f := 36) (fa := #[]) (lb := #[.pointer (some ⟨w1.heap.size + 1, 0, none⟩)]) rfl trivial (enters_of Tryz.func36 (by kernel_rfl) rfl)
    (x := visA n) (N := (visN n).length) (fun _ => rfl) (b0 := w.heap.size) (by omega) (Needs cWalk w.heap.size W3.heap.size) (fun _ _ h => h)
    (fun o => walk1_any n _ _ w.heap.size A c _ (by simp; omega) (by omega) ((Blk.alloc (Blk.alloc hbx _) _)) ((hA3.below ((Below.refl _ _).alloc (Nat.le_refl _) _)).below ((Below.refl _ _).alloc (Nat.le_refl _) _)))
    (fun j W' => CAt W' w.heap.size g (runS [topP] ((visN n).take j)) ∧ allOk [topP] ((visN n).take j) ∧ Blk W' (w.heap.size + 1) 28 #[.int .i64 0] ∧ Blk W' w1.heap.size 52 #[.pointer (some ⟨g, 0, none⟩)] ∧ Below w.heap.size w W')
    (fun W' => Blk W' (w.heap.size + 1) 28 #[.int .i64 (mayN n)] ∧ Below w.heap.size w W')
    (fun j A' A'' hi ht => ⟨hi.1.tch (p := tWalk) (ht.lower (by omega)) (fun cs t fr h hc => by simp only [tWalk] at hc; rcases h with rfl | rfl <;> exact absurd hc (by decide)) (fun _ _ hc => hc), hi.2.1, hi.2.2.1.tch ht (.inl (by omega)), hi.2.2.2.1.tch ht (.inl (by omega)), hi.2.2.2.2.trans ((ht.lower (by omega)).below hi.2.2.2.2.size)⟩)
    (fun A' A'' hi ht => ⟨hi.1.tch ht (.inl (by omega)), hi.2.trans ((ht.lower (by omega)).below hi.2.size)⟩)
    ⟨hC3, trivial, hrc, hpc, hbel⟩
    (fun j a' W' => ∃ eb, Blk W' eb 44 #[.int .i64 ((visN n).getD j noneE).k, .string ((visN n).getD j noneE).t, .string ((visN n).getD j noneE).v] ∧ a' = { tmps := #[.agg #[.int .i64 k, .string t, .string v, .slice A len c], .pointer (some ⟨w.heap.size, 0, none⟩), .pointer (some ⟨w.heap.size + 1, 0, none⟩), .pointer (some ⟨w1.heap.size, 0, none⟩), .pointer (some ⟨eb, 0, none⟩), undef, .pointer (some ⟨g, 0, none⟩), .agg #[.int .i64 k, .string t, .string v, .slice A len c], .func (.func 36) #[] #[.pointer (some ⟨w1.heap.size + 1, 0, none⟩)], evV ((visN n).getD j noneE), undef, undef, undef, undef, undef, undef], defers := [] })
    (fun j a' A' A'' h ht => by obtain ⟨eb, h1, h2⟩ := h; exact ⟨eb, h1.tch ht (.inr (by simp [tWalk])), h2⟩)
    ?assign ?body ?done ?stop
  case assign =>
    intro l' j W' Kc hj hi hKc
    unfold visA evV at *
    generalize (visN n).getD j noneE = x at *
    gi_wp2
    obtain ⟨i1, i2, i3, i4, i5⟩ := hi
    have hal : Below W'.heap.size W' (W'.alloc (.cells #[.int .i64 x.k, .string x.t, .string x.v] 44)) := (Below.refl _ _).alloc (Nat.le_refl _) _
    exact hKc _ _ (Kept.alloc1 _ _ _) ⟨i1.below hal, i2, i3.alloc _, i4.alloc _, i5.trans (hal.mono i5.size)⟩ ⟨_, Blk.new _ _ _, rfl⟩
  case body =>
    rintro l' j a' W' hj ⟨i1, i2, i3, i4, i5⟩ ⟨eb, hE, rfl⟩
    have hgx : (visN n).getD j noneE = (visN n)[j] := by rw [List.getD_eq_getElem?_getD, List.getElem?_eq_getElem hj]; rfl
    have htk : (visN n).take (j + 1) = (visN n).take j ++ [(visN n)[j]] := List.take_succ_eq_append_getElem hj
    have hfa := first_at (visN n) [topP] j hj i2
    rw [hgx] at hE ⊢
    have hok := (hvis _ (List.getElem_mem hj)).1
    have hG := good_run good_start ((visN n).take j)
    have hST := estep_any W' w.heap.size g (runS [topP] ((visN n).take j)) (visN n)[j] i1 hG (hw.below (i5)) hok
    have hnx1 : runS [topP] ((visN n).take (j + 1)) = stepS (runS [topP] ((visN n).take j)) (visN n)[j] := by rw [htk, runS_snoc]
    have hnx2 := fun (h : stepE (runS [topP] ((visN n).take j)) (visN n)[j] = 0) => (allOk_snoc [topP] ((visN n).take j) (visN n)[j]).2 ⟨i2, h⟩
    rw [← htk] at hnx2
    have e3 : W'.cell? ⟨w1.heap.size, 0, none⟩ = some (.pointer (some ⟨g, 0, none⟩)) := i4.cell 0
    clear hgx htk hok
    unfold evV at hST ⊢
    unfold SPost at hST
    generalize (visN n)[j] = x at *
    have e0 : W'.cell? ⟨eb, 0, none⟩ = some (.int .i64 x.k) := hE.cell 0
    have e1 : W'.cell? ⟨eb, 1, none⟩ = some (.string x.t) := hE.cell 1
    have e2 : W'.cell? ⟨eb, 2, none⟩ = some (.string x.v) := hE.cell 2
    generalize runS [topP] ((visN n).take j) = st at *
    by_cases hz : stepE st x = 0
    · rw [hz] at hST
      have HN2 := Lib.hid (hnx2 hz)
      have HN1 := Lib.hid hnx1
      clear hz hnx2 hfa hnx1
      gi_wp2_with (first
        | (refine ⟨trivial, ?_⟩; gi_at_call 30; refine (CallsIn.inRound l' (callsIn_wide.2 hST)).mono ?_; clear hST; rintro e w4 ⟨rfl, hC4, hT4⟩))
      refine ⟨kc hT4, .inl ⟨rfl, by rw [HN1.out]; exact hC4, HN2.out, i3.tch hT4 (.inr (by simp only [cObj]; decide)), i4.tch hT4 (.inr (by simp only [cObj]; decide)), i5.trans (hT4.below i5.size)⟩⟩
    · have HF := Lib.hid (hfa hz)
      have z1 := ibeq hz
      have z2 := ibne hz
      generalize stepE st x = E at *
      have f3 : W'.frozen? ⟨w.heap.size + 1, 0, none⟩ = false := i3.frozen 0
      have g3 : W'.cell? ⟨w.heap.size + 1, 0, none⟩ = some (.int .i64 0) := i3.cell 0
      have l3 := i3.lt
      clear hz hnx2 hfa hnx1
      gi_wp2_with (first
        | (refine ⟨trivial, ?_⟩; gi_at_call 30; refine (CallsIn.inRound l' (callsIn_wide.2 hST)).mono ?_; clear hST; rintro e w4 ⟨rfl, hC4, hT4⟩; have i6 := i3.tch hT4 (.inr (by simp only [cObj]; decide)); have f4 : w4.frozen? ⟨w.heap.size + 1, 0, none⟩ = false := i6.frozen 0; have g4 : w4.cell? ⟨w.heap.size + 1, 0, none⟩ = some (.int .i64 0) := i6.cell 0; have l4 := i6.lt))
      have b4 := i5.trans (hT4.below i5.size)
      refine ⟨?_, .inr ⟨rfl, by unfold mayN; rw [HF.out]; exact i6.set_ 0 (.int .i64 E), b4.setCell (p := ⟨w.heap.size + 1, 0, none⟩) (by simp) _⟩⟩
      refine Kept.of_tch (B := w.heap.size) (T := fun o => cObj o ∨ ∃ cs fr, o = .cells cs 28 fr) ?_ ?_
      · exact (show Tch w.heap.size (fun o => cObj o ∨ ∃ cs fr, o = .cells cs 28 fr) W' w4 from ⟨hT4.os, hT4.tape, hT4.output, hT4.size, fun k o ho hc => hT4.block k o ho (hc.imp_right fun h h' => h (.inl h'))⟩).set i6 (by omega) (.inr ⟨_, _, rfl⟩) 0 _
      · intro k o h
        rcases cObj_needs k o h with h1 | h1
        · exact .inl h1
        · rcases h with h | h | ⟨_, h⟩
          · exact .inl h
          · refine .inr ?_
            rintro (h2 | ⟨cs, fr, rfl⟩)
            · exact h1 h2
            · simp only [cWalk] at h; exact absurd h (by decide)
          · refine .inr ?_
            rintro (h2 | ⟨cs, fr, rfl⟩)
            · exact h1 h2
            · cases h
  case done =>
    rintro D W' hD hk ⟨i1, i2, i3, i4, i5⟩ hK'
    rw [List.take_length] at i2
    have hz : mayN n = 0 := (firstE_ok _ _).2 i2
    have f3 : W'.frozen? ⟨w.heap.size + 1, 0, none⟩ = false := i3.frozen 0
    have g3 : W'.cell? ⟨w.heap.size + 1, 0, none⟩ = some (.int .i64 0) := i3.cell 0
    have l3 := i3.lt
    gi_wp2
    have hD1 : (W'.setCell ⟨w.heap.size + 1, 0, none⟩ (.int .i64 0)).heap[D]? = some (.deferred (some [])) := (Below.heap_setCell W' ⟨w.heap.size + 1, 0, none⟩ _ D (by show D ≠ w.heap.size + 1; omega)).trans hK'
    refine ⟨by simp, .inl ⟨_, _, rfl, run_takeDeferred hD1, ?_⟩⟩
    have g5 : Blk ((W'.setCell ⟨w.heap.size + 1, 0, none⟩ (.int .i64 0)).putObj D (.deferred none)) (w.heap.size + 1) 28 #[.int .i64 0] := (World.putObj_heap_other (show w.heap.size + 1 ≠ D by omega)).trans (i3.set_ 0 (.int .i64 0))
    have g6 : _ = some (Value.int .i64 0) := g5.cell 0
    refine ⟨.int .i64 0, ?_, by rw [hz], below_putk (i5.setCell (p := ⟨w.heap.size + 1, 0, none⟩) (by simp) _) (by omega) _⟩
    simp [results, Tryz.f16, go_sem, g6]
  case stop =>
    rintro D W' hD hk ⟨i3, i5⟩ hK'
    gi_wp2
    refine ⟨by simp, .inl ⟨_, _, rfl, run_takeDeferred hK', ?_⟩⟩
    have g5 : Blk (W'.putObj D (.deferred none)) (w.heap.size + 1) 28 #[.int .i64 (mayN n)] := (World.putObj_heap_other (show w.heap.size + 1 ≠ D by omega)).trans i3
    have g6 : _ = some (Value.int .i64 (mayN n)) := g5.cell 0
    refine ⟨.int .i64 (mayN n), ?_, rfl, below_putk i5 (by omega) _⟩
    simp [results, Tryz.f16, go_sem, g6]
end Go.Proofs.YtfilonbhcalkoaaGreatDoor

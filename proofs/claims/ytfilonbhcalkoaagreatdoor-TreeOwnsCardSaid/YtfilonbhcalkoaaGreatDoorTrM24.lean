/-
  tree: Walk.
-/
import Derived.Test.YtfilonbhcalkoaaGreatDoorTrM23
import Derived.Test.YtfilonbhcalkoaaGreatDoorTrM08
import Derived.Test.YtfilonbhcalkoaaGreatDoorTrM09
namespace Go.Proofs.YtfilonbhcalkoaaGreatDoor
open Go.RowKit Go.Maps Go.Shelf
attribute [local go_sem] Oper.semAt_some
set_option maxRecDepth 100000
set_option linter.unusedSimpArgs false

theorem eObj_needs {b0 B : Nat} (k : Nat) (o : Obj) (h : Needs cWalk b0 B k o) : k < b0 ∨ ¬ (eObj o ∨ ∃ cs fr, o = .cells cs 27 fr) := by
  rcases h with h | h | ⟨_, h⟩
  · exact .inl h
  · refine .inr ?_
    cases o <;> simp only [cWalk, eObj] at h ⊢
    rintro (h2 | ⟨cs, fr, h2⟩)
    · subst h2; exact absurd h (by decide)
    · cases h2; exact absurd h (by decide)
  · refine .inr ?_
    rintro (h2 | ⟨cs, fr, rfl⟩)
    · cases o <;> simp [isBk, eObj] at h h2
    · cases h
/-- What Walk's rounds turn. -/
def lObj (o : Obj) : Prop := eObj o ∨ ∃ cs fr, o = .cells cs 27 fr

set_option maxHeartbeats 4000000 in
theorem twalkall_any (n : Nd) (A : Option Addr) (c : Nat) (w : World) (k : Int) (t v : ByteArray) (len : Nat) (hn : n.k = k ∧ n.t = t ∧ n.v = v ∧ n.kids.length = len) (ho : okT n) (hz : (visN n).length ≤ 1000000000000) (hA : NAt (fun b _ => b < w.heap.size) w n A c) (hw : Nm.StdW w) :
    Calls Tryz.prog 13 #[.agg #[.int .i64 k, .string t, .string v, .slice A len c]] w fun e w' => ∃ lv, e = .returned (.tuple #[lv, .int .i64 (mayN n)]) ∧ Below w.heap.size w w' ∧ (mayN n ≠ 0 → lv = .slice none 0 0) ∧ (mayN n = 0 → ERow w' w.heap.size lv (flat n)) := by
  refine (callsIn_wide (n := 6)).1 ?_
  refine callsIn_of_wp_marks Tryz.func13 rfl trivial ?_ rfl
  simp only [Tryz.ntmps13, List.size_toArray, List.length_cons, List.length_nil, Nat.reduceAdd, Nat.reduceSub, Array.replicate_succ, Array.replicate_zero, List.push_toArray, List.append_toArray, List.nil_append, List.cons_append]
  have hW0 : Below w.heap.size w (w.alloc (.cells #[.int .i64 k, .string t, .string v, .slice A len c] 24)) := (Below.refl _ w).alloc (Nat.le_refl _) _
  have hx0 := Blk.new w 24 #[.int .i64 k, .string t, .string v, .slice A len c]
  have hM := tmay_any n A c (w.alloc (.cells #[.int .i64 k, .string t, .string v, .slice A len c] 24)) k t v len hn ho ((hA.below hW0).weaken (fun b _ hb => by simp; omega)) (hw.below hW0)
  by_cases hm : mayN n = 0
  · rw [hm] at hM ⊢
    obtain ⟨hsh, hal⟩ := may_shaped hm
    have hvf := vis_flat n hsh
    gi_wp2_with (first
      | (refine ⟨trivial, ?_⟩; gi_at_call 16; refine (callsIn_wide.2 hM).mono ?_; clear hM; rintro e w1 ⟨rfl, hb1⟩; have hx1 := (hx0.below hb1 hx0.lt).alloc (.cells #[.slice none 0 0] 27); have g0 : (w1.alloc (.cells #[.slice none 0 0] 27)).cell? ⟨w.heap.size, 0, none⟩ = some (.int .i64 k) := hx1.cell 0; have g1 : (w1.alloc (.cells #[.slice none 0 0] 27)).cell? ⟨w.heap.size, 1, none⟩ = some (.string t) := hx1.cell 1; have g2 : (w1.alloc (.cells #[.slice none 0 0] 27)).cell? ⟨w.heap.size, 2, none⟩ = some (.string v) := hx1.cell 2; have g3 : (w1.alloc (.cells #[.slice none 0 0] 27)).cell? ⟨w.heap.size, 3, none⟩ = some (.slice A len c) := hx1.cell 3)
      | (refine ⟨trivial, ?_⟩; gi_at_call 25; refine (callsIn_wide.2 (twalk_any k t v A len c _)).mono ?_; rintro e w2 ⟨rfl, rfl⟩))
    obtain ⟨W3, hW3⟩ : ∃ W3, (w1.alloc (.cells #[.slice none 0 0] 27)).alloc (.cells #[.int .i64 k, .string t, .string v, .slice A len c] 24) = W3 := ⟨_, rfl⟩
    rw [hW3]
    have hbel1 : Below w.heap.size w w1 := hW0.trans (hb1.mono (by simp))
    have hl13 : Below w1.heap.size w1 W3 := by rw [← hW3]; exact ((Below.refl _ w1).alloc (Nat.le_refl _) _).alloc (by simp) _
    have hbel : Below w.heap.size w W3 := hbel1.trans (hl13.mono hbel1.size)
    have hsz : W3.heap.size = w1.heap.size + 2 := by rw [← hW3]; simp
    have hsz1 : w.heap.size ≤ w1.heap.size := hbel1.size
    have hbx : NBox W3 (w1.heap.size + 1) n A c := by
      unfold NBox
      rw [hn.1, hn.2.1, hn.2.2.1, hn.2.2.2, ← hW3]
      have := Blk.new (w1.alloc (.cells #[.slice none 0 0] 27)) 24 #[.int .i64 k, .string t, .string v, .slice A len c]
      rw [World.size_alloc] at this
      exact this
    have hpl : Blk W3 w1.heap.size 27 #[.slice none 0 0] := by
      rw [← hW3]
      exact (Blk.new w1 _ _).alloc _
    have hA3 : NAt (fun b _ => b < w.heap.size) W3 n A c := hA.below hbel
    have hvis := vis_ok n ho
    clear g0 g1 g2 g3 hx1 hx0 hW3 hn hb1 hA ho
    have kc : ∀ {X Y : World}, Tch w.heap.size lObj X Y → Kept (Needs cWalk w.heap.size W3.heap.size) X Y := fun h => Kept.of_tch h eObj_needs
    refine range_rounds (C := cWalk) (T := tWalk) tWalk_bk cWalk_bk rfl rfl (f := 36) (fa := #[]) (lb := #[.pointer (some ⟨w1.heap.size + 1, 0, none⟩)]) rfl trivial (enters_of Tryz.func36 (by kernel_rfl) rfl)
      (x := visA n) (N := (visN n).length) (fun _ => rfl) (b0 := w.heap.size) (by omega) (Needs cWalk w.heap.size W3.heap.size) (fun _ _ h => h)
      (fun o => walk1_any n _ _ w.heap.size A c _ (by simp; omega) (by omega) ((Blk.alloc (Blk.alloc hbx _) _)) ((hA3.below ((Below.refl _ _).alloc (Nat.le_refl _) _)).below ((Below.refl _ _).alloc (Nat.le_refl _) _)))
      (fun j W' => ∃ A' cap, Blk W' w1.heap.size 27 #[.slice A' j cap] ∧ ERow W' w.heap.size (.slice A' j cap) ((visN n).take j) ∧ Below w.heap.size w W')
      (fun W' => False)
      (fun j A' A'' hi ht => by
        obtain ⟨A1, cap, i1, i2, i3⟩ := hi
        exact ⟨A1, cap, i1.tch ht (.inl (by omega)), row_tch i2 ht (fun _ _ => by simp only [tWalk]; decide), i3.trans ((ht.lower (by omega)).below i3.size)⟩)
      (fun A' A'' hi ht => hi)
      ⟨none, 0, hpl, ERow.nil _ _, hbel⟩
      (fun j a' W' => ∃ eb, Blk W' eb 44 #[.int .i64 ((visN n).getD j noneE).k, .string ((visN n).getD j noneE).t, .string ((visN n).getD j noneE).v] ∧ (∃ A1 cap, Blk W' w1.heap.size 27 #[.slice A1 j cap] ∧ A1 ≠ some ⟨eb, 0, none⟩) ∧ a' = { tmps := #[.agg #[.int .i64 k, .string t, .string v, .slice A len c], .pointer (some ⟨w.heap.size, 0, none⟩), .slice none 0 0, .int .i64 0, .int .i64 0, .pointer (some ⟨w1.heap.size, 0, none⟩), .pointer (some ⟨eb, 0, none⟩), .agg #[.int .i64 k, .string t, .string v, .slice A len c], .int .i64 0, .int .i64 0, .bool false, undef, .agg #[.int .i64 k, .string t, .string v, .slice A len c], .func (.func 36) #[] #[.pointer (some ⟨w1.heap.size + 1, 0, none⟩)], evV ((visN n).getD j noneE), undef, undef, undef, undef, undef, undef, undef, undef, undef, undef, undef, undef, undef], defers := [] })
      (fun j a' A' A'' h ht => by obtain ⟨eb, h1, ⟨A1, cap, h3, h4⟩, h2⟩ := h; exact ⟨eb, h1.tch ht (.inr (by simp [tWalk])), ⟨A1, cap, h3.tch ht (.inl (by omega)), h4⟩, h2⟩)
      ?assign ?body ?done ?stop
    case assign =>
      intro l' j W' Kc hj hi hKc
      unfold visA evV at *
      generalize (visN n).getD j noneE = x at *
      gi_wp2
      obtain ⟨A1, cap, i1, i2, i3⟩ := hi
      exact hKc _ _ (Kept.alloc1 _ _ _) ⟨A1, cap, i1.alloc _, i2.alloc _, i3.alloc i3.size _⟩ ⟨_, Blk.new _ _ _, ⟨A1, cap, i1.alloc _, fun e => by subst e; have := (World.ownsRow.lt i2 W'.heap.size rfl).2; omega⟩, rfl⟩
    case body =>
      rintro l' j a' W' hj ⟨A1, cap, i1, i2, i3⟩ ⟨eb, hE, ⟨A2, cap2, m1, hAe⟩, rfl⟩
      obtain rfl : A1 = A2 := by
        unfold Blk at i1 m1
        rw [i1] at m1
        injection m1 with m1
        injection m1 with m1
        injection m1 with m1
        injection m1 with m1
        injection m1
      clear m1
      have hgx : (visN n).getD j noneE = (visN n)[j] := by rw [List.getD_eq_getElem?_getD, List.getElem?_eq_getElem hj]; rfl
      have htk : (visN n).take (j + 1) = (visN n).take j ++ [(visN n)[j]] := List.take_succ_eq_append_getElem hj
      have hok := hvis _ (List.getElem_mem hj)
      have htl : ((visN n).take j).length = j := by rw [List.length_take]; omega
      rw [hgx] at hE ⊢
      unfold evV
      clear hgx
      generalize (visN n)[j] = x at *
      have e0 : W'.cell? ⟨eb, 0, none⟩ = some (.int .i64 x.k) := hE.cell 0
      have e1 : W'.cell? ⟨eb, 1, none⟩ = some (.string x.t) := hE.cell 1
      have e2 : W'.cell? ⟨eb, 2, none⟩ = some (.string x.v) := hE.cell 2
      have e3 : W'.cell? ⟨w1.heap.size, 0, none⟩ = some (.slice A1 j cap) := i1.cell 0
      have f3 : W'.frozen? ⟨w1.heap.size, 0, none⟩ = false := i1.frozen 0
      have l3 := i1.lt
      gi_wp2
      refine region_g_in [12] (S := (fun W => W.cell? ⟨w1.heap.size, 0, none⟩ = some (.slice A1 j cap) ∧ W.cell? ⟨eb, 0, none⟩ = some (.int .i64 x.k) ∧ W.cell? ⟨eb, 1, none⟩ = some (.string x.t) ∧ W.cell? ⟨eb, 2, none⟩ = some (.string x.v))) (by kernel_rfl) (by kernel_rfl) ⟨e3, e0, e1, e2⟩ (fun hH => ?_)
      refine g_take (i := 0) (v := .slice A1 j cap) (by rfl) (by kernel_rfl) (by kernel_rfl) (by kernel_rfl) (by kernel_rfl) (fun _ _ _ h => (by cases h.1)) (Or.inl ⟨by rfl, fun W hS => (by obtain ⟨s3, s0, s1, s2⟩ := hS; go_simp)⟩) hH ?_
      simp only [Act.put, List.setIfInBounds_toArray, List.set_cons_zero, List.set_cons_succ]
      refine g_take (i := 1) (v := .pointer (some ⟨eb, 0, none⟩)) (by rfl) (by kernel_rfl) (by kernel_rfl) (by kernel_rfl) (by kernel_rfl) (fun _ _ _ h => (by cases h.1)) (Or.inl ⟨by rfl, fun W hS => (by obtain ⟨s3, s0, s1, s2⟩ := hS; go_simp)⟩) hH ?_
      simp only [Act.put, List.setIfInBounds_toArray, List.set_cons_zero, List.set_cons_succ]
      refine g_take (i := 2) (v := .int .i64 x.k) (by rfl) (by kernel_rfl) (by kernel_rfl) (by kernel_rfl) (by kernel_rfl) (fun _ _ _ h => (by cases h.1)) (Or.inl ⟨by rfl, fun W hS => (by obtain ⟨s3, s0, s1, s2⟩ := hS; go_simp)⟩) hH ?_
      simp only [Act.put, List.setIfInBounds_toArray, List.set_cons_zero, List.set_cons_succ]
      refine g_take (i := 3) (v := .pointer (some ⟨eb, 1, none⟩)) (by rfl) (by kernel_rfl) (by kernel_rfl) (by kernel_rfl) (by kernel_rfl) (fun _ _ _ h => (by cases h.1)) (Or.inl ⟨by rfl, fun W hS => (by obtain ⟨s3, s0, s1, s2⟩ := hS; go_simp)⟩) hH ?_
      simp only [Act.put, List.setIfInBounds_toArray, List.set_cons_zero, List.set_cons_succ]
      refine g_take (i := 4) (v := .string x.t) (by rfl) (by kernel_rfl) (by kernel_rfl) (by kernel_rfl) (by kernel_rfl) (fun _ _ _ h => (by cases h.1)) (Or.inl ⟨by rfl, fun W hS => (by obtain ⟨s3, s0, s1, s2⟩ := hS; go_simp)⟩) hH ?_
      simp only [Act.put, List.setIfInBounds_toArray, List.set_cons_zero, List.set_cons_succ]
      refine g_take (i := 6) (v := .pointer (some ⟨eb, 2, none⟩)) (by rfl) (by kernel_rfl) (by kernel_rfl) (by kernel_rfl) (by kernel_rfl) (fun _ _ _ h => (by cases h.1)) (Or.inl ⟨by rfl, fun W hS => (by obtain ⟨s3, s0, s1, s2⟩ := hS; go_simp)⟩) hH ?_
      simp only [Act.put, List.setIfInBounds_toArray, List.set_cons_zero, List.set_cons_succ]
      refine g_take (i := 7) (v := .string x.v) (by rfl) (by kernel_rfl) (by kernel_rfl) (by kernel_rfl) (by kernel_rfl) (fun _ _ _ h => (by cases h.1)) (Or.inl ⟨by rfl, fun W hS => (by obtain ⟨s3, s0, s1, s2⟩ := hS; go_simp)⟩) hH ?_
      simp only [Act.put, List.setIfInBounds_toArray, List.set_cons_zero, List.set_cons_succ]
      refine g_one (i := 5) (by kernel_rfl) (by rfl) (fun K hK => ?_)
      go_simp
      refine (clone_any x.t _ hok.1).mono ?_
      rintro e w5 ⟨rfl, hb5⟩
      have j1 := i1.drew.below hb5 i1.lt
      have jE := hE.drew.below hb5 hE.lt
      have j2 : ERow w5 w.heap.size (.slice A1 j cap) ((visN n).take j) := ERow.below (w := W'.drew) i2 hb5
      have t5 : Tch w.heap.size lObj W' w5 := (Tch.refl _ _ _).drew.trans (Tch.of_below hb5)
      refine hK.out _ _ (fun _ => ⟨j1.cell 0, jE.cell 0, jE.cell 1, jE.cell 2⟩) (fun hH5' => ?_)
      have hH5 := hH5' (by decide)
      clear hH5'
      clear hK K hH hb5 i1 hE i2
      refine g_one (i := 8) (by kernel_rfl) (by rfl) (fun K hK => ?_)
      go_simp
      refine (clone_any x.v _ hok.2).mono ?_
      rintro e w6 ⟨rfl, hb6⟩
      have k1 := j1.below hb6 j1.lt
      have kE := jE.below hb6 jE.lt
      have k2 : ERow w6 w.heap.size (.slice A1 j cap) ((visN n).take j) := ERow.below (w := w5) j2 hb6
      have t6 : Tch w.heap.size lObj W' w6 := t5.trans (Tch.of_below hb6)
      refine hK.out _ _ (fun _ => ⟨k1.cell 0, kE.cell 0, kE.cell 1, kE.cell 2⟩) (fun hH6' => ?_)
      have hH6 := hH6' (by decide)
      clear hH6'
      clear hK K hH5 hb6 j1 jE j2 t5
      refine g_take (i := 9) (v := .agg #[.int .i64 x.k, .string x.t, .string x.v]) (by rfl) (by kernel_rfl) (by kernel_rfl) (by kernel_rfl) (by kernel_rfl) (fun _ _ _ h => (by cases h.1)) (Or.inl ⟨by rfl, fun W hS => (by obtain ⟨s3, s0, s1, s2⟩ := hS; go_simp)⟩) hH6 ?_
      simp only [Act.put, List.setIfInBounds_toArray, List.set_cons_zero, List.set_cons_succ]
      refine g_one (i := 10) (by kernel_rfl) (by rfl) (fun K hK => ?_)
      go_simp
      refine hK.out _ _ (fun _ => ⟨(k1.alloc _).cell 0, (kE.alloc _).cell 0, (kE.alloc _).cell 1, (kE.alloc _).cell 2⟩) (fun hH7' => ?_)
      have hH7 := hH7' (by decide)
      clear hH7'
      clear hK K hH6
      refine g_one (i := 11) (by kernel_rfl) (by rfl) (fun K hK => ?_)
      have hne : some eb ≠ (Value.slice A1 j cap).ownBlock := by
        rcases k2.2 with ⟨h1, _⟩ | ⟨g, c', cur, h1, _⟩
        · injection h1 with h1; subst h1; exact fun h => (by cases h)
        · injection h1 with h1; subst h1; intro h; cases h; exact hAe rfl
      have hj12 : j + 1 ≤ 1000000000000 := by omega
      refine step_appG (by rfl) (.tmp 15) (.tmp 25) 27 (by rfl) w.heap.size 44 _ 3 40 Tryz.underlying27 Tryz.infoEv (by rfl) (by decide) (.slice A1 j cap) j (evcs ((visN n).take j)) [.int .i64 x.k, .string x.t, .string x.v] (by rfl) (by have := k2.alloc (.cells #[.int .i64 x.k, .string x.t, .string x.v] 44); unfold ERow at this; rw [htl] at this; exact this) (by simp [Value.oneCell']) ⟨w6.heap.size, 0, none⟩ 1 1 (by rfl) (by rfl) (by exact cellsOf3 w6 _ _ _ _) (by simp only [maxLen]; omega) (by omega) (by have := i3.size; have := t6.size; simp; omega) ?_
      intro v2 w7 hown7 hg7
      obtain ⟨row7, tT⟩ := erow_push (x := x) k2 hg7 (by rw [htl]; exact hown7)
      obtain ⟨r2, c2, rfl⟩ := rowN_shape hown7 (Nat.succ_pos _)
      have l1 := k1.tch tT (.inr (by simp only [eObj]; decide))
      have lE := (kE.alloc _).grown hg7 hne
      rw [← htk] at row7
      have lc : w7.cell? ⟨w1.heap.size, 0, none⟩ = some (.slice A1 j cap) := l1.cell 0
      have lf : w7.frozen? ⟨w1.heap.size, 0, none⟩ = false := l1.frozen 0
      have ll := l1.lt
      refine hK.out _ _ (fun _ => ⟨lc, lE.cell 0, lE.cell 1, lE.cell 2⟩) (fun hH8 => ?_)
      clear hK K hH7 hH8 hown7 hg7
      refine g_one (i := 12) (by kernel_rfl) (by rfl) (fun K hK => ?_)
      simp only [Act.put, List.getElem_toArray, List.getElem_cons_succ, List.getElem_cons_zero, List.setIfInBounds_toArray, List.set_cons_zero, List.set_cons_succ]
      go_simp
      refine hK.out _ _ (fun h => absurd (by decide) h) (fun _ => ?_)
      refine g_done (by kernel_rfl) ⟨rfl, ?_⟩ _
      clear hK K lc lf ll lE
      have tl : Tch w.heap.size eObj w6 w7 → Tch w.heap.size lObj w6 w7 := fun h => ⟨h.os, h.tape, h.output, h.size, fun k o ho hc => h.block k o ho (hc.imp_right fun h h' => h (.inl h'))⟩
      have hlb : w.heap.size ≤ w1.heap.size := hsz1
      have ts : Tch w.heap.size (fun o => ∃ cs fr, o = .cells cs 27 fr) w7 (w7.setCell ⟨w1.heap.size, 0, none⟩ (.slice (some ⟨r2, 0, none⟩) (j + 1) c2)) := tch_set (T := fun o => ∃ cs fr, o = .cells cs 27 fr) l1 hlb ⟨_, _, rfl⟩ 0 _
      have ts2 : Tch w.heap.size lObj w7 (w7.setCell ⟨w1.heap.size, 0, none⟩ (.slice (some ⟨r2, 0, none⟩) (j + 1) c2)) := tch_set (T := lObj) l1 hlb (.inr ⟨_, _, rfl⟩) 0 _
      have hT := (t6.trans (tl tT)).trans ts2
      exact ⟨kc hT, .inl ⟨rfl, some ⟨r2, 0, none⟩, c2, l1.set_ 0 (.slice (some ⟨r2, 0, none⟩) (j + 1) c2), row_tch row7 ts (fun _ _ h => by obtain ⟨_, _, h⟩ := h; cases h), i3.trans (hT.below i3.size)⟩⟩
    case done =>
      rintro D W' hD hk ⟨A1, cap, i1, i2, i3⟩ hK'
      rw [List.take_length, hvf] at i2
      rw [hvf] at i1
      have g3 : W'.cell? ⟨w1.heap.size, 0, none⟩ = some (.slice A1 (flat n).length cap) := i1.cell 0
      gi_wp2
      refine ⟨by simp, .inl ⟨_, _, rfl, run_takeDeferred hK', ?_⟩⟩
      refine ⟨.tuple #[.slice A1 (flat n).length cap, .int .i64 0], ?_, _, rfl, below_putk i3 (by omega) _, ?_⟩
      · simp [results, Tryz.f13, go_sem]
      · exact row_tch i2 (tch_put (T := tWalk) (B := 0) _ (Nat.zero_le _) hK' trivial) (fun _ _ => by simp only [tWalk]; decide)
    case stop =>
      rintro D W' hD hk h hK'
      exact h.elim
  · have z1 := ibeq hm
    have z2 := ibne hm
    generalize mayN n = E at *
    gi_wp2_with (first
      | (refine ⟨trivial, ?_⟩; gi_at_call 16; refine (callsIn_wide.2 hM).mono ?_; clear hM; rintro e w1 ⟨rfl, hb1⟩))
    refine ⟨.tuple #[.slice none 0 0, .int .i64 E], ?_, _, rfl, hW0.trans (hb1.mono (by simp)), fun _ => rfl, fun h => absurd h hm⟩
    simp [results, Tryz.f13, go_sem]
end Go.Proofs.YtfilonbhcalkoaaGreatDoor

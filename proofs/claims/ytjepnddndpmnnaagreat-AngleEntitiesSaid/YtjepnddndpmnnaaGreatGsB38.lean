/-
  stream: events that are asked for, for any machine: take, Next, End.
-/
import Derived.Test.YtjepnddndpmnnaaGreatGsB18
namespace Go.Proofs.YtjepnddndpmnnaaGreat
open Go.RowKit Go.Maps
set_option maxRecDepth 100000
set_option linter.unusedSimpArgs false
set_option linter.unusedVariables false
set_option linter.unusedSectionVars false
variable [Tab] [Fo]

/-- Nothing has turned but three blocks. -/
structure Fr3 (a b c : Nat) (w w' : World) : Prop where
  os : w'.os = w.os
  tape : w'.tape = w.tape
  output : w'.output = w.output
  size : w.heap.size ≤ w'.heap.size
  keep : ∀ k, k < w.heap.size → k ≠ a → k ≠ b → k ≠ c → w'.heap[k]? = w.heap[k]?
section
variable {a b c : Nat} {w w' w'' : World}
theorem Fr3.refl (a b c : Nat) (w : World) : Fr3 a b c w w := ⟨rfl, rfl, rfl, Nat.le_refl _, fun _ _ _ _ _ => rfl⟩
theorem Fr3.trans (h : Fr3 a b c w w') (k : Fr3 a b c w' w'') : Fr3 a b c w w'' := ⟨k.os.trans h.os, k.tape.trans h.tape, k.output.trans h.output, Nat.le_trans h.size k.size, fun i hi h1 h2 h3 => (k.keep i (Nat.lt_of_lt_of_le hi h.size) h1 h2 h3).trans (h.keep i hi h1 h2 h3)⟩
theorem Fr3.of_below (h : Below w.heap.size w w') : Fr3 a b c w w' := ⟨h.os, h.tape, h.output, h.size, fun k hk _ _ _ => h.block k hk⟩
theorem Fr3.below {base : Nat} (h : Fr3 a b c w w') (ha : base ≤ a) (hb : base ≤ b) (hc : base ≤ c) (hz : base ≤ w.heap.size) : Below base w w' :=
  ⟨h.os, h.tape, h.output, h.size, fun k hk => h.keep k (by omega) (by omega) (by omega) (by omega)⟩
theorem Fr3.blk {g : Nat} {t : TypeId} {cs : Array Value} (h : Fr3 a b c w w') (hB : Blk w g t cs) (h1 : g ≠ a) (h2 : g ≠ b) (h3 : g ≠ c) : Blk w' g t cs := (h.keep g hB.lt h1 h2 h3).trans hB
theorem Fr3.set (h : Fr3 a b c w w') (p : Addr) (u : Value) (hp : p.block = a ∨ p.block = b ∨ p.block = c) : Fr3 a b c w (w'.setCell p u) :=
  ⟨h.os, h.tape, h.output, by simpa [World.setCell] using h.size, fun k hk h1 h2 h3 => (Below.heap_setCell w' p u k (by rcases hp with hp | hp | hp <;> omega)).trans (h.keep k hk h1 h2 h3)⟩
theorem Fr3.row {base : Nat} {e : TypeId} {size n : Nat} {v : Value} {xs : List Value} (h : Fr3 a b c w w') (hr : w.ownsRow base e size v n xs) (hn : ∀ g, v.ownBlock = some g → g ≠ a ∧ g ≠ b ∧ g ≠ c) : w'.ownsRow base e size v n xs := by
  refine ⟨hr.1, ?_⟩
  rcases hr.2 with hv | ⟨g, cap, cur, hv, hg, hh, q⟩
  · exact .inl hv
  · obtain ⟨n1, n2, n3⟩ := hn g (by rw [hv]; rfl)
    exact .inr ⟨g, cap, cur, hv, hg, (h.keep g (Array.getElem?_eq_some_iff.1 hh).1 n1 n2 n3).trans hh, q⟩
end

/-- Events that wait: the row of what is left, in the block g, behind what was taken. -/
def WRow (w : World) (g : Nat) (v : Value) (l : List Ev) : Prop :=
  (l = [] ∧ v = .slice none 0 0) ∨
  ∃ d cap cur, v = .slice (some ⟨g, d * 3, none⟩) l.length cap ∧ l.length ≤ cap ∧ cap ≤ maxLen ∧ w.heap[g]? = some (.cells cur 46 (0, 0)) ∧ (d + cap) * 3 ≤ cur.size ∧ ∀ j, j < l.length * 3 → cur[d * 3 + j]? = (evcs l)[j]?
/-- A Stream whose events are asked for. -/
structure Wt (w : World) (base s sc o ck m g : Nat) (T : TypeId) (e : Int) (rd : Nat) (cl en : Bool) (l : List Ev) : Prop where
  blk : Blk w s 75 (sCells T m sc o e rd cl en)
  out : ∃ lv, Blk w o 82 #[.pointer (some ⟨ck, 0, none⟩), lv, .int .i64 0] ∧ WRow w g lv l
  bs : base ≤ s
  bo : base ≤ o
  bg : base ≤ g
theorem WRow.frame {w w' : World} {g : Nat} {v : Value} {l : List Ev} (h : WRow w g v l) (hk : ∀ o, w.heap[g]? = some o → w'.heap[g]? = some o) : WRow w' g v l := by
  rcases h with h | ⟨d, cap, cur, h1, h2, h3, h4, h5⟩
  · exact .inl h
  · exact .inr ⟨d, cap, cur, h1, h2, h3, hk _ h4, h5⟩
theorem RowT.we [Fo] {w : World} {base : Nat} {v : Value} {l : List Ev} (h : RowT w base v l) : WE w base v (l.drop (Fo.tk.getD 0)) := by
  rcases h with ⟨h0, h⟩ | ⟨n, h0, _, h⟩
  · rw [h0]; exact WE.of_erow h
  · rw [h0]; exact h
theorem EAt.wtk {T : TypeId} {w : World} {base s m sc o ck : Nat} {e : Int} {rd : Nat} {cl en : Bool} {st : List Pt} {l : List Ev} [Fo] (h : EAt T w base s m sc o ck e rd cl en st l) : ∃ g, Wt w base s sc o ck m g T e rd cl en (l.drop (Fo.tk.getD 0)) ∧ g < w.heap.size ∧ ¬ Fo.F g ∧ o < w.heap.size ∧ ¬ Fo.F o ∧ ∃ cs t fr, w.heap[g]? = some (.cells cs t fr) ∧ (t = 46 ∨ t = 75) := by
  obtain ⟨⟨lv, hB, hR, hnf⟩, _, hbo, hno⟩ := h.out
  rcases hR.we with ⟨hv, h0⟩ | ⟨g, d, cap, cur, hv, hg, hh, hnc, hm, hs, hj⟩
  · exact ⟨s, ⟨h.blk, ⟨lv, hB, .inl ⟨h0, hv⟩⟩, h.bs, hbo, h.bs⟩, h.blk.lt, h.ns, hB.lt, hno, _, _, _, h.blk, .inr rfl⟩
  · exact ⟨g, ⟨h.blk, ⟨lv, hB, .inr ⟨d, cap, cur, hv, hnc, hm, hh, hs, hj⟩⟩, h.bs, hbo, hg⟩, (Array.getElem?_eq_some_iff.1 hh).1, hnf g (by rw [hv]; rfl), hB.lt, hno, _, _, _, hh, .inl rfl⟩
theorem EAt.wt {T : TypeId} {w : World} {base s m sc o ck : Nat} {e : Int} {rd : Nat} {cl en : Bool} {st : List Pt} {l : List Ev} [Fo] (h : EAt T w base s m sc o ck e rd cl en st l) (htk : Fo.tk = none) : ∃ g, Wt w base s sc o ck m g T e rd cl en l ∧ g < w.heap.size ∧ ¬ Fo.F g ∧ o < w.heap.size ∧ ¬ Fo.F o := by
  obtain ⟨g, h1, h2, h3, h4, h5, _⟩ := h.wtk
  rw [htk] at h1
  exact ⟨g, h1, h2, h3, h4, h5⟩
def zeroEv : Value := .agg #[.int .i64 0, .string ⟨#[]⟩, .string ⟨#[]⟩]
theorem evcs_cons (x : Ev) (l : List Ev) : evcs (x :: l) = [.int .i64 x.k, .string x.t, .string x.v] ++ evcs l := by simp [evcs, evc]

theorem cells_two (W : World) (x : Ev) : ((W.alloc (.cells #[.int .i64 x.k, .string x.t, .string x.v] 46)).alloc (.cells #[.int .i64 x.k, .string x.t, .string x.v] 46)).cell? ⟨W.heap.size, 0, none⟩ = some (.int .i64 x.k) ∧
    ((W.alloc (.cells #[.int .i64 x.k, .string x.t, .string x.v] 46)).alloc (.cells #[.int .i64 x.k, .string x.t, .string x.v] 46)).cell? ⟨W.heap.size, 1, none⟩ = some (.string x.t) ∧
    ((W.alloc (.cells #[.int .i64 x.k, .string x.t, .string x.v] 46)).alloc (.cells #[.int .i64 x.k, .string x.t, .string x.v] 46)).cell? ⟨W.heap.size, 2, none⟩ = some (.string x.v) := by
  have h := (Blk.new W 46 #[.int .i64 x.k, .string x.t, .string x.v]).alloc (.cells #[.int .i64 x.k, .string x.t, .string x.v] 46)
  exact ⟨h.cell 0, h.cell 1, h.cell 2⟩
theorem take_tail {w : World} {o ck g d cap : Nat} {cur : Array Value} {x : Ev} {l : List Ev} {lv : Value} (hB : Blk w o 82 #[.pointer (some ⟨ck, 0, none⟩), lv, .int .i64 0]) (hgo : g ≠ o) (hnc : l.length + 1 ≤ cap) (hm : cap ≤ maxLen) (hh : w.heap[g]? = some (.cells cur 46 (0, 0))) (hsz : (d + cap) * 3 ≤ cur.size) (hj : ∀ j, j < (x :: l).length * 3 → cur[d * 3 + j]? = (evcs (x :: l))[j]?)
    (lv' : Value) (hlv : (l = [] ∧ lv' = .slice (some ⟨g, d * 3, none⟩) l.length 0) ∨ lv' = .slice (some ⟨g, d * 3 + 3, none⟩) l.length (cap - 1)) (W : World)
    (hW : W = ((((w.setCell ⟨g, d * 3, none⟩ (.int .i64 0)).setCell ⟨g, d * 3 + 1, none⟩ (.string ⟨#[]⟩)).setCell ⟨g, d * 3 + 2, none⟩ (.string ⟨#[]⟩)).setCell ⟨o, 1, none⟩ lv')) (c1 c2 : Obj) :
    (∃ lv', Blk ((W.alloc c1).alloc c2) o 82 #[.pointer (some ⟨ck, 0, none⟩), lv', .int .i64 0] ∧ WRow ((W.alloc c1).alloc c2) g lv' l) ∧ Fr3 o o g w ((W.alloc c1).alloc c2) := by
  have hG : Blk w g 46 cur := hh
  have al : Below W.heap.size W ((W.alloc c1).alloc c2) := ((Below.refl _ _).alloc (Nat.le_refl _) _).alloc (by simp) _
  have hG3 := ((hG.set_ (d * 3) (.int .i64 0)).set_ (d * 3 + 1) (.string ⟨#[]⟩)).set_ (d * 3 + 2) (.string ⟨#[]⟩)
  have hB3 := ((hB.far (p := ⟨g, d * 3, none⟩) (Ne.symm hgo) (.int .i64 0)).far (p := ⟨g, d * 3 + 1, none⟩) (Ne.symm hgo) (.string ⟨#[]⟩)).far (p := ⟨g, d * 3 + 2, none⟩) (Ne.symm hgo) (.string ⟨#[]⟩)
  have hB4 := hB3.set_ 1 lv'
  have hG4 := hG3.far (p := ⟨o, 1, none⟩) hgo lv'
  rw [← hW] at hB4 hG4
  have hF : Fr3 o o g w W := by
    rw [hW]
    exact ((((Fr3.refl o o g w).set ⟨g, d * 3, none⟩ _ (.inr (.inr rfl))).set ⟨g, d * 3 + 1, none⟩ _ (.inr (.inr rfl))).set ⟨g, d * 3 + 2, none⟩ _ (.inr (.inr rfl))).set ⟨o, 1, none⟩ _ (.inl rfl)
  refine ⟨⟨lv', hB4.below al hB4.lt, WRow.frame (w := W) ?_ fun q hq => (al.block g (Array.getElem?_eq_some_iff.1 hq).1).trans hq⟩, hF.trans (Fr3.of_below al)⟩
  rcases hlv with ⟨h0, h⟩ | h
  · exact .inr ⟨d, 0, _, h, by rw [h0]; exact Nat.le_refl _, Nat.zero_le _, hG4, by simp only [Array.size_setIfInBounds]; omega, fun j hjl => by rw [h0] at hjl; simp at hjl⟩
  · refine .inr ⟨d + 1, cap - 1, _, by rw [h, Nat.succ_mul], by omega, by omega, hG4, by simp only [Array.size_setIfInBounds]; omega, fun j hjl => ?_⟩
    have := hj (3 + j) (by rw [List.length_cons]; omega)
    rw [evcs_cons, List.getElem?_append_right (by simp)] at this
    simp only [List.length_cons, List.length_nil, Nat.zero_add, Nat.add_sub_cancel_left] at this
    rw [Array.getElem?_setIfInBounds_ne (by omega), Array.getElem?_setIfInBounds_ne (by omega), Array.getElem?_setIfInBounds_ne (by omega), show (d + 1) * 3 + j = d * 3 + (3 + j) by omega]
    exact this

set_option maxHeartbeats 4000000 in
theorem take_any (w : World) (o ck g : Nat) (lv : Value) (x : Ev) (l : List Ev) (hB : Blk w o 82 #[.pointer (some ⟨ck, 0, none⟩), lv, .int .i64 0]) (hR : WRow w g lv (x :: l)) (hl : l.length ≤ 1000000) :
    Calls Tryz.prog 50 #[.pointer (some ⟨o, 0, none⟩)] w fun e w' => e = .returned (evV x) ∧ (∃ lv', Blk w' o 82 #[.pointer (some ⟨ck, 0, none⟩), lv', .int .i64 0] ∧ WRow w' g lv' l) ∧ Fr3 o o g w w' := by
  rcases hR with ⟨h0, _⟩ | ⟨d, cap, cur, rfl, hnc, hm, hh, hsz, hj⟩
  · cases h0
  have hgo : g ≠ o := by
    rintro rfl
    unfold Blk at hB
    rw [hh] at hB
    injection hB with hB
    injection hB with _ hB
    exact absurd hB (by decide)
  have hG : Blk w g 46 cur := hh
  have o1 := hB.cell 1
  have j0 := hj 0 (by simp)
  have j1 := hj 1 (by simp; omega)
  have j2 := hj 2 (by simp; omega)
  rw [evcs_cons] at j0 j1 j2
  simp only [Nat.add_zero] at j0 j1 j2
  have g0 : w.cell? ⟨g, d * 3, none⟩ = some (.int .i64 x.k) := by rw [hG.cell, j0]; rfl
  have g1 : w.cell? ⟨g, d * 3 + 1, none⟩ = some (.string x.t) := by rw [hG.cell, j1]; rfl
  have g2 : w.cell? ⟨g, d * 3 + 2, none⟩ = some (.string x.v) := by rw [hG.cell, j2]; rfl
  have hlo := hB.lt
  have hlg := hG.lt
  have fo := hB.frozen 1
  have fg0 := hG.frozen (d * 3)
  have fg1 := hG.frozen (d * 3 + 1)
  have fg2 := hG.frozen (d * 3 + 2)
  go_enter Tryz.func50, Tryz.ntmps50
  go_wp2
  case inl =>
    have hc1 : cap = 1 := by assumption
    subst hc1
    have h0 : l = [] := List.eq_nil_of_length_eq_zero (by have := hnc; rw [List.length_cons] at this; omega)
    have hT := take_tail (l := l) hB hgo (by have := hnc; rw [List.length_cons] at this; exact this) hm hh hsz hj (.slice (some ⟨g, d * 3, none⟩) l.length 0) (.inl ⟨h0, rfl⟩) _ rfl (.cells #[.int .i64 x.k, .string x.t, .string x.v] 46) (.cells #[.int .i64 x.k, .string x.t, .string x.v] 46)
    obtain ⟨W, hW⟩ : ∃ W, ((((w.setCell ⟨g, d * 3, none⟩ (.int .i64 0)).setCell ⟨g, d * 3 + 1, none⟩ (.string ⟨#[]⟩)).setCell ⟨g, d * 3 + 2, none⟩ (.string ⟨#[]⟩)).setCell ⟨o, 1, none⟩ (.slice (some ⟨g, d * 3, none⟩) l.length 0)) = W := ⟨_, rfl⟩
    have hz : W.heap.size = w.heap.size := by rw [← hW]; simp [World.setCell]
    rw [hW] at hT ⊢
    obtain ⟨r0, r1, r2⟩ := cells_two W x
    rw [hz] at r0 r1 r2
    clear o1 j0 j1 j2 hh hj hG g0 g1 g2 fo fg0 fg1 fg2 hW
    refine bodyPost_ret (v := evV x) (by simp [results, Tryz.results50, go_sem, r0, r1, r2, evV]) rfl ⟨rfl, hT⟩
  case inr =>
    have hT := take_tail (l := l) hB hgo (by have := hnc; rw [List.length_cons] at this; exact this) hm hh hsz hj (.slice (some ⟨g, d * 3 + 3, none⟩) l.length (cap - 1)) (.inr rfl) _ rfl (.cells #[.int .i64 x.k, .string x.t, .string x.v] 46) (.cells #[.int .i64 x.k, .string x.t, .string x.v] 46)
    obtain ⟨W, hW⟩ : ∃ W, ((((w.setCell ⟨g, d * 3, none⟩ (.int .i64 0)).setCell ⟨g, d * 3 + 1, none⟩ (.string ⟨#[]⟩)).setCell ⟨g, d * 3 + 2, none⟩ (.string ⟨#[]⟩)).setCell ⟨o, 1, none⟩ (.slice (some ⟨g, d * 3 + 3, none⟩) l.length (cap - 1))) = W := ⟨_, rfl⟩
    have hz : W.heap.size = w.heap.size := by rw [← hW]; simp [World.setCell]
    rw [hW] at hT ⊢
    obtain ⟨r0, r1, r2⟩ := cells_two W x
    rw [hz] at r0 r1 r2
    clear o1 j0 j1 j2 hh hj hG g0 g1 g2 fo fg0 fg1 fg2 hW
    refine bodyPost_ret (v := evV x) (by simp [results, Tryz.results50, go_sem, r0, r1, r2, evV]) rfl ⟨rfl, hT⟩

/-- What Next answers of events that wait. -/
def NxS (e : Int) (cl : Bool) : Int := if e ≠ 0 then 4 else if cl then 3 else 2
theorem Wt.os {w : World} {base s sc o ck m g : Nat} {T : TypeId} {e : Int} {rd : Nat} {cl en : Bool} {l : List Ev} (h : Wt w base s sc o ck m g T e rd cl en l) : s ≠ o := by
  obtain ⟨lv, hB, _⟩ := h.out
  have k := h.blk
  rintro rfl
  unfold Blk at k hB
  rw [k] at hB
  injection hB with hB
  injection hB with _ hB
  exact absurd hB (by decide)

set_option maxHeartbeats 4000000 in
theorem next_got (w : World) (base s sc o ck m g : Nat) (T : TypeId) (e : Int) (rd : Nat) (cl en : Bool) (x : Ev) (l : List Ev) (h : Wt w base s sc o ck m g T e rd cl en (x :: l)) (hl : l.length ≤ 1000000) :
    Calls Tryz.prog 31 #[.pointer (some ⟨s, 0, none⟩)] w fun f w' => f = .returned (.tuple #[evV x, .int .i64 1]) ∧ Wt w' base s sc o ck m g T e rd cl en l ∧ Fr3 s o g w w' := by
  obtain ⟨lv, hB, hR⟩ := h.out
  have hso := h.os
  have c2 := h.blk.cell 2
  unfold sCells at c2
  have hls := h.blk.lt
  have hlo := hB.lt
  have al : Below w.heap.size w (w.alloc (.cells #[.int .i64 0, .string ⟨#[]⟩, .string ⟨#[]⟩] 46)) := (Below.refl _ _).alloc (Nat.le_refl _) _
  have hN := Blk.new w 46 #[.int .i64 0, .string ⟨#[]⟩, .string ⟨#[]⟩]
  have hB1 := hB.below al hlo
  have hR1 : WRow (w.alloc (.cells #[.int .i64 0, .string ⟨#[]⟩, .string ⟨#[]⟩] 46)) g lv (x :: l) := hR.frame fun q hq => (al.block g (Array.getElem?_eq_some_iff.1 hq).1).trans hq
  have hgl : g < w.heap.size := by
    rcases hR with ⟨h0, _⟩ | ⟨d, cap, cur, _, _, _, hh, _⟩
    · cases h0
    · exact (Array.getElem?_eq_some_iff.1 hh).1
  have hS1 := h.blk.below al hls
  generalize hW0 : w.alloc (.cells #[.int .i64 0, .string ⟨#[]⟩, .string ⟨#[]⟩] 46) = W0 at *
  have c2' : W0.cell? ⟨s, 2, none⟩ = some (.pointer (some ⟨o, 0, none⟩)) := hS1.cell 2
  have o1 : W0.cell? ⟨o, 1, none⟩ = some lv := hB1.cell 1
  have hT := take_any W0 o ck g lv x l hB1 hR1 hl
  have hlv : ∃ A c, lv = .slice A (l.length + 1) c := by
    rcases hR with ⟨h0, _⟩ | ⟨d, cap, cur, h1, _⟩
    · cases h0
    · exact ⟨_, _, h1⟩
  obtain ⟨A, c, rfl⟩ := hlv
  have z1 : decide ((0 : Int) < (l.length : Int) + 1) = true := by first | (simp; done) | (simp; omega)
  have z1' : decide ((0 : Int) < ((l.length + 1 : Nat) : Int)) = true := by first | (simp; done) | (simp; omega)
  have HF := Lib.hid (And.intro hT (And.intro al (And.intro hS1 (And.intro hN h))))
  clear hT hB hR c2 hB1 hR1 al hS1 hN h
  go_enter Tryz.func31, Tryz.ntmps31
  go_wp2_with fail
  refine HF.out.1.mono ?_
  rintro f w1 ⟨rfl, ⟨lv', hB', hR'⟩, hF1⟩
  obtain ⟨-, al, hS1, hN, h⟩ := HF.out
  have hn : w.heap.size < W0.heap.size := by rw [← hW0]; simp
  have hN1 := hF1.blk hN (by omega) (by omega) (by omega)
  have hgs : g ≠ s := by
    rintro rfl
    obtain ⟨lv0, hB0, hR0⟩ := h.out
    have k := h.blk
    rcases hR0 with ⟨h0, _⟩ | ⟨d, cap, cur, _, _, _, hh, _⟩
    · cases h0
    · unfold Blk at k
      rw [hh] at k
      injection k with k
      injection k with _ k
      exact absurd k (by decide)
  have hS2 := hF1.blk hS1 hso hso (Ne.symm hgs)
  have hF : Fr3 s o g w w1 := (Fr3.of_below al).trans ⟨hF1.os, hF1.tape, hF1.output, hF1.size, fun k hk _ h2 h3 => hF1.keep k hk h2 h2 h3⟩
  have hW1 := ((hN1.set_ 0 (.int .i64 x.k)).set_ 1 (.string x.t)).set_ 2 (.string x.v)
  have hs1 : w.heap.size < w1.heap.size := Nat.lt_of_lt_of_le hn hF1.size
  have m0 : w1.cell? ⟨w.heap.size, 0, none⟩ = some (.int .i64 0) := hN1.cell 0
  have m1 : w1.cell? ⟨w.heap.size, 1, none⟩ = some (.string ⟨#[]⟩) := hN1.cell 1
  have m2 : w1.cell? ⟨w.heap.size, 2, none⟩ = some (.string ⟨#[]⟩) := hN1.cell 2
  have n0 := hN1.frozen 0
  have n1 := hN1.frozen 1
  have n2 := hN1.frozen 2
  obtain ⟨W, hW⟩ : ∃ W, ((w1.setCell ⟨w.heap.size, 0, none⟩ (.int .i64 x.k)).setCell ⟨w.heap.size, 1, none⟩ (.string x.t)).setCell ⟨w.heap.size, 2, none⟩ (.string x.v) = W := ⟨_, rfl⟩
  have hkeep : ∀ k, k ≠ w.heap.size → W.heap[k]? = w1.heap[k]? := fun k hk => by
    rw [← hW]
    exact ((Below.heap_setCell _ ⟨w.heap.size, 2, none⟩ _ k hk).trans (Below.heap_setCell _ ⟨w.heap.size, 1, none⟩ _ k hk)).trans (Below.heap_setCell _ ⟨w.heap.size, 0, none⟩ _ k hk)
  have hFW : Fr3 s o g w W := ⟨by rw [← hW]; exact hF.os, by rw [← hW]; exact hF.tape, by rw [← hW]; exact hF.output, by rw [← hW]; simpa [World.setCell] using hF.size, fun k hk h1 h2 h3 => (hkeep k (by omega)).trans (hF.keep k hk h1 h2 h3)⟩
  rw [hW] at hW1
  have r0 : W.cell? ⟨w.heap.size, 0, none⟩ = some (.int .i64 x.k) := hW1.cell 0
  have r1 : W.cell? ⟨w.heap.size, 1, none⟩ = some (.string x.t) := hW1.cell 1
  have r2 : W.cell? ⟨w.heap.size, 2, none⟩ = some (.string x.v) := hW1.cell 2
  have HR := Lib.hid (show Wt W base s sc o ck m g T e rd cl en l ∧ Fr3 s o g w W from ⟨⟨(hkeep s (by omega)).trans hS2, ⟨lv', (hkeep o (by omega)).trans hB', hR'.frame fun q hq => (hkeep g (by omega)).trans hq⟩, h.bs, h.bo, h.bg⟩, hFW⟩)
  clear HF al hS1 hN h hB' hR' hF1 hS2 hF hkeep hFW hW1 hN1 c2' o1 hW0
  simp only [evV]
  go_wp2
  refine bodyPost_ret (v := .tuple #[evV x, .int .i64 1]) (by simp [results, Tryz.results31, go_sem, r0, r1, r2, evV]) rfl ⟨rfl, HR.out⟩

set_option maxHeartbeats 4000000 in
theorem next_none (w : World) (base s sc o ck m g : Nat) (T : TypeId) (e : Int) (rd : Nat) (cl en : Bool) (h : Wt w base s sc o ck m g T e rd cl en []) :
    Calls Tryz.prog 31 #[.pointer (some ⟨s, 0, none⟩)] w fun f w' => f = .returned (.tuple #[zeroEv, .int .i64 (NxS e cl)]) ∧ Wt w' base s sc o ck m g T e rd cl (en || decide (NxS e cl ≠ 2)) [] ∧ Fr3 s o g w w' := by
  obtain ⟨lv, hB, hR⟩ := h.out
  have hlv : ∃ A c, lv = .slice A 0 c := by
    rcases hR with ⟨_, h1⟩ | ⟨d, cap, cur, h1, _⟩
    · exact ⟨_, _, h1⟩
    · exact ⟨_, _, h1⟩
  obtain ⟨A, c, rfl⟩ := hlv
  have al : Below w.heap.size w (w.alloc (.cells #[.int .i64 0, .string ⟨#[]⟩, .string ⟨#[]⟩] 46)) := (Below.refl _ _).alloc (Nat.le_refl _) _
  have hN := Blk.new w 46 #[.int .i64 0, .string ⟨#[]⟩, .string ⟨#[]⟩]
  have hB1 := hB.below al hB.lt
  have hS1 := h.blk.below al h.blk.lt
  have hR1 : ∀ W' : World, (∀ q, g < w.heap.size → g ≠ s → w.heap[g]? = some q → W'.heap[g]? = some q) → WRow W' g (.slice A 0 c) [] := by
    intro W' hk
    have hb := h.blk
    rcases hR with ⟨_, h1⟩ | ⟨d, cap, cur, h1, h2, h3, h4, h5⟩
    · exact .inl ⟨rfl, h1⟩
    · refine .inr ⟨d, cap, cur, h1, h2, h3, hk _ (Array.getElem?_eq_some_iff.1 h4).1 ?_ h4, h5⟩
      rintro rfl
      unfold Blk at hb
      rw [h4] at hb
      injection hb with hb
      injection hb with _ hb
      exact absurd hb (by decide)
  have hso := h.os
  have hls := h.blk.lt
  have hlo := hB.lt
  generalize hW0 : w.alloc (.cells #[.int .i64 0, .string ⟨#[]⟩, .string ⟨#[]⟩] 46) = W0 at *
  have s2 : W0.cell? ⟨s, 2, none⟩ = some (.pointer (some ⟨o, 0, none⟩)) := hS1.cell 2
  have s3 : W0.cell? ⟨s, 3, none⟩ = some (.int .i64 e) := hS1.cell 3
  have s5 : W0.cell? ⟨s, 5, none⟩ = some (.bool cl) := hS1.cell 5
  have s6 : W0.cell? ⟨s, 6, none⟩ = some (.bool en) := hS1.cell 6
  have f6 := hS1.frozen 6
  have o1 : W0.cell? ⟨o, 1, none⟩ = some (.slice A 0 c) := hB1.cell 1
  have hn : w.heap.size < W0.heap.size := by rw [← hW0]; simp
  have m0 : W0.cell? ⟨w.heap.size, 0, none⟩ = some (.int .i64 0) := hN.cell 0
  have m1 : W0.cell? ⟨w.heap.size, 1, none⟩ = some (.string ⟨#[]⟩) := hN.cell 1
  have m2 : W0.cell? ⟨w.heap.size, 2, none⟩ = some (.string ⟨#[]⟩) := hN.cell 2
  have hsn : w.heap.size ≠ s := by omega
  have n0 := hN.frozen 0
  have n1 := hN.frozen 1
  have n2 := hN.frozen 2
  -- what the stores of an empty event leave
  have hz : ∀ (W1 : World) (en' : Bool), Blk W1 w.heap.size 46 #[.int .i64 0, .string ⟨#[]⟩, .string ⟨#[]⟩] → Blk W1 s 75 (sCells T m sc o e rd cl en') → Blk W1 o 82 #[.pointer (some ⟨ck, 0, none⟩), .slice A 0 c, .int .i64 0] → Fr3 s o g w W1 → (∀ q, g < w.heap.size → g ≠ s → w.heap[g]? = some q → W1.heap[g]? = some q) →
      ∀ W, W = ((W1.setCell ⟨w.heap.size, 0, none⟩ (.int .i64 0)).setCell ⟨w.heap.size, 1, none⟩ (.string ⟨#[]⟩)).setCell ⟨w.heap.size, 2, none⟩ (.string ⟨#[]⟩) →
      (Wt W base s sc o ck m g T e rd cl en' [] ∧ Fr3 s o g w W) ∧ W.cell? ⟨w.heap.size, 0, none⟩ = some (.int .i64 0) ∧ W.cell? ⟨w.heap.size, 1, none⟩ = some (.string ⟨#[]⟩) ∧ W.cell? ⟨w.heap.size, 2, none⟩ = some (.string ⟨#[]⟩) := by
    intro W1 en' q1 q2 q3 q4 q5 W hW
    have hW1 := ((q1.set_ 0 (.int .i64 0)).set_ 1 (.string ⟨#[]⟩)).set_ 2 (.string ⟨#[]⟩)
    have hkeep : ∀ k, k ≠ w.heap.size → W.heap[k]? = W1.heap[k]? := fun k hk => by
      rw [hW]
      exact ((Below.heap_setCell _ ⟨w.heap.size, 2, none⟩ _ k hk).trans (Below.heap_setCell _ ⟨w.heap.size, 1, none⟩ _ k hk)).trans (Below.heap_setCell _ ⟨w.heap.size, 0, none⟩ _ k hk)
    rw [← hW] at hW1
    exact ⟨⟨⟨(hkeep s (by omega)).trans q2, ⟨_, (hkeep o (by omega)).trans q3, hR1 _ fun q h1 h2 hq => (hkeep g (by omega)).trans (q5 q h1 h2 hq)⟩, h.bs, h.bo, h.bg⟩, ⟨by rw [hW]; exact q4.os, by rw [hW]; exact q4.tape, by rw [hW]; exact q4.output, by rw [hW]; simpa [World.setCell] using q4.size, fun k hk h1 h2 h3 => (hkeep k (by omega)).trans (q4.keep k hk h1 h2 h3)⟩⟩, hW1.cell 0, hW1.cell 1, hW1.cell 2⟩
  have hS6 : Blk (W0.setCell ⟨s, 6, none⟩ (.bool true)) s 75 (sCells T m sc o e rd cl true) := hS1.set_ 6 (.bool true)
  have HM := Lib.hid (hz W0 en hN hS1 hB1 (Fr3.of_below al) (fun q h1 _ hq => (al.block g h1).trans hq))
  have HE := Lib.hid (hz (W0.setCell ⟨s, 6, none⟩ (.bool true)) true (hN.far (p := ⟨s, 6, none⟩) (show w.heap.size ≠ s by omega) (.bool true)) hS6 (hB1.far (p := ⟨s, 6, none⟩) (Ne.symm hso) (.bool true)) ((Fr3.of_below al).set ⟨s, 6, none⟩ (.bool true) (.inl rfl)) (fun q h1 h2 hq => (Below.heap_setCell W0 ⟨s, 6, none⟩ _ g h2).trans ((al.block g h1).trans hq)))
  have hls0 : s < W0.heap.size := by omega
  clear hz hB hR al hN hB1 hS1 hR1 h hS6
  by_cases he : e = 0
  · subst he
    cases cl with
    | true =>
      have hx : NxS 0 true = 3 := rfl
      rw [hx, show (en || decide ((3 : Int) ≠ 2)) = true by simp]
      go_enter Tryz.func31, Tryz.ntmps31
      go_wp2
      obtain ⟨hr, r0, r1, r2⟩ := HE.out _ rfl
      refine bodyPost_ret (v := .tuple #[zeroEv, .int .i64 3]) (by simp [results, Tryz.results31, go_sem, r0, r1, r2, zeroEv]) rfl ⟨rfl, hr⟩
    | false =>
      have hx : NxS 0 false = 2 := rfl
      rw [hx, show (en || decide ((2 : Int) ≠ 2)) = en by simp]
      go_enter Tryz.func31, Tryz.ntmps31
      go_wp2
      obtain ⟨hr, r0, r1, r2⟩ := HM.out _ rfl
      refine bodyPost_ret (v := .tuple #[zeroEv, .int .i64 2]) (by simp [results, Tryz.results31, go_sem, r0, r1, r2, zeroEv]) rfl ⟨rfl, hr⟩
  · have e0 : (e == 0) = false := by rw [beq_eq_false_iff_ne]; exact he
    have hx : NxS e cl = 4 := if_pos he
    rw [hx, show (en || decide ((4 : Int) ≠ 2)) = true by simp]
    go_enter Tryz.func31, Tryz.ntmps31
    go_wp2
    obtain ⟨hr, r0, r1, r2⟩ := HE.out _ rfl
    refine bodyPost_ret (v := .tuple #[zeroEv, .int .i64 4]) (by simp [results, Tryz.results31, go_sem, r0, r1, r2, zeroEv]) rfl ⟨rfl, hr⟩

/-- The end, once Next has said so. -/
theorem endOf_any (w : World) (s : Nat) (T : TypeId) (m sc o : Nat) (e : Int) (rd : Nat) (cl en : Bool) (h : Blk w s 75 (sCells T m sc o e rd cl en)) (o2 : w.cell? ⟨o, 2, none⟩ = some (.int .i64 0)) (hr : rd ≤ 1000000) :
    Calls Tryz.prog 16 #[.pointer (some ⟨s, 0, none⟩)] w fun f w' => f = .returned (.tuple #[.int .i64 (if en then e else 0), .int .i64 (if en then (rd : Int) else -1)]) ∧ ∃ n, w' = w.drewN n := by
  have s3 : w.cell? ⟨s, 3, none⟩ = some (.int .i64 e) := h.cell 3
  have s4 : w.cell? ⟨s, 4, none⟩ = some (.int .i64 (rd : Int)) := h.cell 4
  have s6 : w.cell? ⟨s, 6, none⟩ = some (.bool en) := h.cell 6
  have s2 : w.cell? ⟨s, 2, none⟩ = some (.pointer (some ⟨o, 0, none⟩)) := h.cell 2
  clear h
  cases en with
  | true =>
    go_enter Tryz.func16, Tryz.ntmps16
    go_wp2
    refine region_g [] (S := (fun W => W.cell? ⟨s, 3, none⟩ = some (.int .i64 e))) (by kernel_rfl) s3 (fun hH => ?_)
    refine g_take (i := 0) (v := .pointer (some ⟨s, 0, none⟩)) (by rfl) (by kernel_rfl) (by kernel_rfl) (by kernel_rfl) (by kernel_rfl) (fun _ _ _ h => (by cases h.1)) (Or.inl ⟨by rfl, fun W hS => (by go_simp)⟩) hH ?_
    simp only [Act.put, List.setIfInBounds_toArray, List.set_cons_zero, List.set_cons_succ]
    refine g_take (i := 1) (v := .pointer (some ⟨s, 0, none⟩)) (by rfl) (by kernel_rfl) (by kernel_rfl) (by kernel_rfl) (by kernel_rfl) (fun _ _ _ h => (by cases h.1)) (Or.inl ⟨by rfl, fun W hS => (by go_simp)⟩) hH ?_
    simp only [Act.put, List.setIfInBounds_toArray, List.set_cons_zero, List.set_cons_succ]
    refine g_take (i := 2) (v := .pointer (some ⟨s, 3, none⟩)) (by rfl) (by kernel_rfl) (by kernel_rfl) (by kernel_rfl) (by kernel_rfl) (fun _ _ _ h => (by cases h.1)) (Or.inl ⟨by rfl, fun W hS => (by go_simp)⟩) hH ?_
    simp only [Act.put, List.setIfInBounds_toArray, List.set_cons_zero, List.set_cons_succ]
    refine g_take (i := 3) (v := .int .i64 e) (by rfl) (by kernel_rfl) (by kernel_rfl) (by kernel_rfl) (by kernel_rfl) (fun _ _ _ h => (by cases h.1)) (Or.inl ⟨by rfl, fun W hS => (by go_simp)⟩) hH ?_
    simp only [Act.put, List.setIfInBounds_toArray, List.set_cons_zero, List.set_cons_succ]
    refine g_take (i := 4) (v := .pointer (some ⟨s, 0, none⟩)) (by rfl) (by kernel_rfl) (by kernel_rfl) (by kernel_rfl) (by kernel_rfl) (fun _ _ _ h => (by cases h.1)) (Or.inl ⟨by rfl, fun W hS => (by go_simp)⟩) hH ?_
    simp only [Act.put, List.setIfInBounds_toArray, List.set_cons_zero, List.set_cons_succ]
    refine g_one (i := 5) (by kernel_rfl) (by rfl) (fun K hK => ?_)
    go_simp
    refine (at_any w.drew s o rd s4 s2 o2 hr).mono ?_
    rintro e w4 ⟨rfl, rfl⟩
    refine hK.out _ _ (fun _ => s3) (fun _ => ?_)
    clear hK K hH
    refine g_one (i := 6) (by kernel_rfl) (by rfl) (fun K hK => ?_)
    go_simp
    refine hK.out _ _ (fun _ => s3) (fun _ => ?_)
    clear hK K
    refine g_one (i := 7) (by kernel_rfl) (by rfl) (fun K hK => ?_)
    go_simp
    refine hK.out _ _ (fun _ => s3) (fun _ => ?_)
    clear hK K
    refine g_done (by kernel_rfl) ⟨by first | rfl | trivial, ?_⟩ _
    go_wp2
    go_ret2
    exact ⟨rfl, 2, rfl⟩
  | false =>
    go_enter Tryz.func16, Tryz.ntmps16
    go_wp2
    go_ret2
    exact ⟨rfl, 0, rfl⟩
end Go.Proofs.YtjepnddndpmnnaaGreat

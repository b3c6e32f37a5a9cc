/-
  outline: begin.
  outline: shut.
  outline: the first line of a text, of a block.
-/
import Derived.Test.YtalkjgijmceifaaGreatDoorOwA33
namespace Go.Proofs.YtalkjgijmceifaaGreatDoor
open Go.RowKit Go.Maps
set_option maxRecDepth 100000
set_option linter.unusedSimpArgs false
set_option linter.unusedVariables false
set_option linter.unusedSectionVars false
set_option linter.unusedSectionVars false
variable [Tab] [Fo]

theorem Tryz.infoIn : (Tryz.prog.info? 3).map (fun i => (i.zero, i.size, i.bytes)) = some (some (.int .i64 0), 1, 8) := by kernel_rfl
theorem cells1 (w : World) (u : Value) (t : TypeId) : ∀ j y, [u][j]? = some y → (w.alloc (.cells #[u] t)).cell? ((⟨w.heap.size, 0, none⟩ : Addr).add j) = some y := by
  intro j y hj
  have hB := Blk.new w t #[u]
  match j, hj with
  | 0, hj => cases hj; exact hB.cell 0
def inO : Obj → Prop
  | .cells _ t _ => t = 3
  | _ => False
theorem in_ol (q : Obj) (h : inO q) : olObj q := by
  cases q <;> simp only [inO] at h
  exact .inr (.inr h)
section
variable {base L p o ck an g : Nat} {S : List UInt8} {x : Ox} {a : Nat} {w w' w0 w1 W : World} {q : Obj → Prop}
/-- The open blocks anew: their row was turned alone. -/
theorem OlI.setbk (h : OlI base L p o ck an g S x a w) (h1 : Tch base inO w w') {v : Value} {ps : List Int} (hv : ORow w' base 3 v (ps.map (.int .i64))) (hnf : NF v) (hpn : ps.length ≤ 1000) :
    OlI base L p o ck an g S { x with bk := ps } a (w'.setCell ⟨p, 1, none⟩ v) ∧ Tch base olObj w (w'.setCell ⟨p, 1, none⟩ v) := by
  obtain ⟨bv, hB, _, _⟩ := h.blk
  obtain ⟨T, hT⟩ := h.oa
  have hno : ∀ cs t fr, t ≠ 3 → ¬ inO (.cells cs t fr) := fun cs t fr hh hc => hh (by simpa only [inO] using hc)
  have hnp : ∀ cs t fr, t ≠ 72 → ¬ pzO (.cells cs t fr) := fun cs t fr hh hc => hh (by simpa only [pzO] using hc)
  have hB' : Blk w' p 72 #[.pointer (some ⟨an, 0, none⟩), bv, .bool x.lk, .bool x.en] := hB.tch h1 (.inr (hno _ _ _ (by decide)))
  have ht : Tch base pzO w' (w'.setCell ⟨p, 1, none⟩ v) := (Tch.refl _ _ _).set hB' h.pl.2.2.1 h.pl.2.2.2.2.2 (show pzO (.cells _ _ _) from rfl) 1 v
  have hln : LAt w' L (oL o g) S a := Blk.tch h.ln h1 (.inr (hno _ _ _ (by decide)))
  have hoth : Blk w' g 39 #[othV an] := h.oth.tch h1 (.inr (hno _ _ _ (by decide)))
  refine ⟨⟨Blk.tch hln ht (.inr (hnp _ _ _ (by decide))), h.al, h.s9, hoth.tch ht (.inr (hnp _ _ _ (by decide))), ⟨v, hB'.set_ 1 _, row_tch hv ht (fun _ _ => hnp _ _ _ (by decide)), hnf⟩, ⟨T, (hT.tch h1 (fun r hr hc => ?_)).tch ht (fun r hr hc => ?_)⟩, (h.std.tch h1 h.pl.1).tch ht (Nat.le_trans h.pl.1 h1.size), h.pl' (Nat.le_trans h1.size ht.size), h.tk.of rfl rfl rfl, hpn, h.lb⟩, (h1.wide in_ol).trans (ht.wide pz_ol)⟩
  · cases r with
    | cells cs t fr => simp only [inO] at hc; subst hc; exact tA_no _ _ _ (by simp) hr
    | _ => exact hc
  · cases r with
    | cells cs t fr => simp only [pzO] at hc; subst hc; exact tA_no _ _ _ (by simp) hr
    | _ => exact hc
set_option maxHeartbeats 16000000 in
theorem begin_O (k : Int) (hk : k = 5 ∨ k = 7) (hok : lenO x + 1 + 2 * (S.length - a) ≤ 900000) (hbn : x.bk.length ≤ 900) (h : OlI base L p o ck an g S x a w) :
    Calls Tryz.prog 184 #[rV L p, .int .i64 k] w (Pq (OI base L p o ck an g S olObj w) (OF base L p o ck an g S olObj w) (beginO S k a x)) := by
  obtain ⟨b, W, hg, hW, hB, hlt, hi, hT⟩ := rboxO (q := olObj) h
  have HU := Lib.hid hT
  have HB := Lib.hid hB
  obtain ⟨R, hR⟩ : ∃ R, beginO S k a x = R := ⟨_, rfl⟩
  rw [hR]
  unfold beginO at hR
  have HR := Lib.hid hR
  have h160 := hi.s9
  have HOk := Lib.hid hok
  have HI := Lib.hid hi
  have HTl := Lib.hid ((oT (p := p) (ck := ck) (an := an) (q := olObj) (w0 := W) (by omega) ox_ol).tell (evB k) (oi_refl hi) (by show lenO x ≤ _; omega) (Nat.zero_le _))
  obtain ⟨b0, b1, _⟩ := ob_cells hB
  unfold rV
  clear h hT hB hi hR hok
  go_enter Tryz.func184, Tryz.ntmps184
  go_wp2_with fail
  refine HTl.out.mono ?_
  rintro e w1 (⟨a1, y, hr, rfl, h1⟩ | ⟨hr, k2, rfl, hF⟩)
  case inr =>
    refine ⟨rfl, poq_up HU.out (.inr ⟨?_, k2, rfl, hF⟩)⟩
    rw [← HR.out]
    cases ht : tellO x (evB k) with
    | none => rfl
    | some y => rw [ht] at hr; cases hr
  cases ht : tellO x (evB k) with
  | none => rw [ht] at hr; cases hr
  | some y' =>
  rw [ht] at hr
  have e1 : (a, y') = (a1, y) := Option.some.inj hr
  injection e1 with e1 e2
  subst e1 e2
  rw [ht] at HR
  have HR1 : Hid (entryO S a { y' with bk := y'.bk ++ [k] } = R) := Lib.hid HR.out
  obtain ⟨t1, t2, t3, _⟩ := tellO_len ht
  rw [← t3] at hbn
  have HT1 := Lib.hid (HU.out.trans (h1.2.trans (Tch.of_below (below_drew (Below.refl w1.heap.size w1)))))
  have HI1 := Lib.hid (h1.1.belowO (below_drew (Below.refl _ _)))
  have hB1 : Blk w1.drew b 221 #[.pointer (some ⟨L, 0, none⟩), .pointer (some ⟨p, 0, none⟩)] := (show Blk w1 b 221 #[.pointer (some ⟨L, 0, none⟩), .pointer (some ⟨p, 0, none⟩)] from ob_tch HB.out h1.2)
  have HB1 := Lib.hid hB1
  obtain ⟨bv, hPB, hrow, hnfz⟩ := HI1.out.blk
  obtain ⟨A, cap, hbv⟩ := hrow.shape
  have hlm : (y'.bk.map (Value.int .i64)).length = y'.bk.length := List.length_map ..
  obtain ⟨n, hn⟩ : ∃ n, y'.bk.length = n := ⟨_, rfl⟩
  rw [hlm, hn] at hbv
  subst hbv
  have c1 : w1.drew.cell? ⟨b, 1, none⟩ = some (.pointer (some ⟨p, 0, none⟩)) := hB1.cell 1
  have c2 : w1.drew.cell? ⟨p, 1, none⟩ = some (.slice A n cap) := hPB.cell 1
  have hrowz : w1.drew.ownsRow base 3 1 (.slice A n cap) n (y'.bk.map (.int .i64)) := by have := hrow; unfold ORow at this; rw [hlm, hn] at this; exact this
  have HN := Lib.hid hn
  have HRow := Lib.hid hrowz
  have HP := Lib.hid hPB
  have HNf := Lib.hid hnfz
  have hn9 : n ≤ 900 := by omega
  have HLen : Hid (lenO y' = lenO x + 1) := Lib.hid t1
  clear hr ht h1 HR t1 t2 t3 hB1 hPB hrow hrowz hnfz HTl HI hn hlm hbn b0 b1
  go_wp2
  refine region_g [12] (S := (fun W => W.cell? ⟨b, 1, none⟩ = some (.pointer (some ⟨p, 0, none⟩)) ∧ W.cell? ⟨p, 1, none⟩ = some (.slice A n cap))) (by kernel_rfl) ⟨c1, c2⟩ (fun hH => ?_)
  refine g_take (i := 0) (v := .pointer (some ⟨b, 1, none⟩)) (by rfl) (by kernel_rfl) (by kernel_rfl) (by kernel_rfl) (by kernel_rfl) (fun _ _ _ h => (by cases h.1)) (Or.inl ⟨by kernel_rfl, fun W hS => (by obtain ⟨s0, s1⟩ := hS; go_simp)⟩) hH ?_
  simp only [Act.put, List.setIfInBounds_toArray, List.set_cons_zero, List.set_cons_succ]
  refine g_take (i := 1) (v := .pointer (some ⟨p, 0, none⟩)) (by rfl) (by kernel_rfl) (by kernel_rfl) (by kernel_rfl) (by kernel_rfl) (fun _ _ _ h => (by cases h.1)) (Or.inl ⟨by kernel_rfl, fun W hS => (by obtain ⟨s0, s1⟩ := hS; go_simp)⟩) hH ?_
  simp only [Act.put, List.setIfInBounds_toArray, List.set_cons_zero, List.set_cons_succ]
  refine g_take (i := 2) (v := .pointer (some ⟨b, 1, none⟩)) (by rfl) (by kernel_rfl) (by kernel_rfl) (by kernel_rfl) (by kernel_rfl) (fun _ _ _ h => (by cases h.1)) (Or.inl ⟨by kernel_rfl, fun W hS => (by obtain ⟨s0, s1⟩ := hS; go_simp)⟩) hH ?_
  simp only [Act.put, List.setIfInBounds_toArray, List.set_cons_zero, List.set_cons_succ]
  refine g_take (i := 3) (v := .pointer (some ⟨p, 0, none⟩)) (by rfl) (by kernel_rfl) (by kernel_rfl) (by kernel_rfl) (by kernel_rfl) (fun _ _ _ h => (by cases h.1)) (Or.inl ⟨by kernel_rfl, fun W hS => (by obtain ⟨s0, s1⟩ := hS; go_simp)⟩) hH ?_
  simp only [Act.put, List.setIfInBounds_toArray, List.set_cons_zero, List.set_cons_succ]
  refine g_take (i := 4) (v := .pointer (some ⟨p, 0, none⟩)) (by rfl) (by kernel_rfl) (by kernel_rfl) (by kernel_rfl) (by kernel_rfl) (fun _ _ _ h => (by cases h.1)) (Or.inl ⟨by kernel_rfl, fun W hS => (by obtain ⟨s0, s1⟩ := hS; go_simp)⟩) hH ?_
  simp only [Act.put, List.setIfInBounds_toArray, List.set_cons_zero, List.set_cons_succ]
  refine g_take (i := 5) (v := .pointer (some ⟨p, 1, none⟩)) (by rfl) (by kernel_rfl) (by kernel_rfl) (by kernel_rfl) (by kernel_rfl) (fun _ _ _ h => (by cases h.1)) (Or.inl ⟨by kernel_rfl, fun W hS => (by obtain ⟨s0, s1⟩ := hS; go_simp)⟩) hH ?_
  simp only [Act.put, List.setIfInBounds_toArray, List.set_cons_zero, List.set_cons_succ]
  refine g_take (i := 6) (v := .slice A n cap) (by rfl) (by kernel_rfl) (by kernel_rfl) (by kernel_rfl) (by kernel_rfl) (fun _ _ _ h => (by cases h.1)) (Or.inl ⟨by kernel_rfl, fun W hS => (by obtain ⟨s0, s1⟩ := hS; go_simp)⟩) hH ?_
  simp only [Act.put, List.setIfInBounds_toArray, List.set_cons_zero, List.set_cons_succ]
  refine g_take (i := 7) (v := .int .i64 k) (by rfl) (by kernel_rfl) (by kernel_rfl) (by kernel_rfl) (by kernel_rfl) (fun _ _ _ h => (by cases h.1)) (Or.inl ⟨by kernel_rfl, fun W hS => (by obtain ⟨s0, s1⟩ := hS; go_simp)⟩) hH ?_
  simp only [Act.put, List.setIfInBounds_toArray, List.set_cons_zero, List.set_cons_succ]
  refine g_one (i := 8) (by kernel_rfl) (by rfl) (fun K hK => ?_)
  go_simp
  have hIa := HI1.out.belowO ((Below.refl w1.drew.heap.size w1.drew).alloc (Nat.le_refl _) (.cells #[.int .i64 k] 3))
  have hga := HB1.out.alloc (.cells #[.int .i64 k] 3)
  have hra := World.ownsRow.alloc HRow.out (.cells #[.int .i64 k] 3)
  have hPa := HP.out.alloc (.cells #[.int .i64 k] 3)
  have HX := Lib.hid (And.intro hIa (And.intro hga hPa))
  have hba : base ≤ (w1.drew.alloc (.cells #[.int .i64 k] 3)).heap.size := hIa.pl.1
  refine hK.out _ _ (fun _ => ⟨hga.cell 1, hPa.cell 1⟩) (fun _ => ?_)
  clear hK K hIa hga hPa hH
  refine g_one (i := 9) (by kernel_rfl) (by rfl) (fun K hK => ?_)
  refine step_appG (by rfl) (.tmp 15) (.tmp 17) 70 (by rfl) base 3 (.int .i64 0) 1 8 Tryz.underlying70 Tryz.infoIn (by rfl) (by decide) (.slice A n cap) n (y'.bk.map (.int .i64)) [.int .i64 k] (by rfl) (by exact hra) (by simp [Value.oneCell']) ⟨w1.drew.heap.size, 0, none⟩ 1 1 (by rfl) (by rfl) (by exact cells1 w1.drew _ _) (by simp [maxLen]; omega) (by omega) hba ?_
  intro v7 w7 hown7 hg7 hnb7
  have hown8 : ORow w7 base 3 v7 ((y'.bk ++ [k]).map (.int .i64)) := by
    unfold ORow
    rw [List.map_append, List.length_append, List.length_map, HN.out]
    exact hown7
  have hl8 : (y'.bk ++ [k]).length = n + 1 := by rw [List.length_append, HN.out]; rfl
  obtain ⟨A7, cap7, hv7⟩ := hown8.shape
  rw [List.length_map, hl8] at hv7
  subst hv7
  have hT7 : Tch base inO _ w7 := Tch.of_row hra hg7 (Nat.le_refl _) HNf.out (fun _ => rfl)
  have hnf7 : NF (.slice A7 (n + 1) cap7) := HNf.out.nb hnb7 (Nat.le_trans HI1.out.lim' (by simp))
  have hno : ∀ cs t fr, t ≠ 3 → ¬ inO (.cells cs t fr) := fun cs t fr hh hc => hh (by simpa only [inO] using hc)
  have hga7 : Blk w7 b 221 _ := HX.out.2.1.tch hT7 (.inr (hno _ _ _ (by decide)))
  have hPa7 : Blk w7 p 72 _ := HX.out.2.2.tch hT7 (.inr (hno _ _ _ (by decide)))
  have hH : w7.cell? ⟨b, 1, none⟩ = some (.pointer (some ⟨p, 0, none⟩)) ∧ w7.cell? ⟨p, 1, none⟩ = some (.slice A n cap) := ⟨hga7.cell 1, hPa7.cell 1⟩
  have e2 := hPa7.frozen 1
  have e3 := hPa7.lt
  have hend := HX.out.1.setbk hT7 hown8 hnf7 (by rw [hl8]; omega)
  have HEnd := Lib.hid (show OI base L p o ck an g S olObj w1.drew { y' with bk := y'.bk ++ [k] } a (w7.setCell ⟨p, 1, none⟩ (.slice A7 (n + 1) cap7)) from ⟨hend.1, (Tch.of_below ((Below.refl _ _).alloc (Nat.le_refl _) _)).trans hend.2⟩)
  clear hown7 hown8 hg7 hnb7 hT7 hnf7 hga7 hPa7 hend hra HX hno
  refine hK.out _ _ (fun _ => hH) (fun _ => ?_)
  clear hK K
  simp only [Act.put, List.setIfInBounds_toArray, List.set_cons_zero, List.set_cons_succ]
  refine g_one (i := 10) (by kernel_rfl) (by rfl) (fun K hK => ?_)
  go_simp
  refine hK.out _ _ (fun _ => hH) (fun _ => ?_)
  clear hK K
  refine g_one (i := 11) (by kernel_rfl) (by rfl) (fun K hK => ?_)
  go_simp
  refine hK.out _ _ (fun _ => hH) (fun _ => ?_)
  clear hK K
  refine g_one (i := 12) (by kernel_rfl) (by rfl) (fun K hK => ?_)
  go_simp
  refine hK.out _ _ (fun h => absurd (List.mem_singleton.2 rfl) h) (fun _ => ?_)
  clear hK K
  refine g_done (by kernel_rfl) ⟨by first | rfl | trivial, ?_⟩ _
  have hE := entry_O (p := p) (x := { y' with bk := y'.bk ++ [k] }) (by have := HLen.out; have := HOk.out; unfold OkL; show lenO y' + _ ≤ _; omega) (by rw [hl8]; omega) HEnd.out.1
  rw [HR1.out] at hE
  unfold rV at hE
  have HE := Lib.hid hE
  have HT7 := Lib.hid (HT1.out.trans HEnd.out.2)
  obtain ⟨f0, f1, hgf⟩ := ob_cells (ob_tch HB1.out HEnd.out.2)
  clear hE hH e2 c1 c2
  go_wp2_with fail
  refine HE.out.mono ?_
  rintro e w9 (⟨a9, x9, hr, rfl, h9⟩ | ⟨hr, k2, rfl, hF⟩)
  case inr => exact ⟨rfl, poq_up HT7.out (.inr ⟨hr, k2, rfl, hF⟩)⟩
  have H9 := Lib.hid (And.intro hr h9)
  clear hr h9 HE
  go_wp2
  go_end0
  exact poq_up HT7.out (.inl ⟨a9, x9, H9.out.1, rfl, H9.out.2⟩)
end
end Go.Proofs.YtalkjgijmceifaaGreatDoor
namespace Go.Proofs.YtalkjgijmceifaaGreatDoor
open Go.RowKit Go.Maps
set_option maxRecDepth 100000
set_option linter.unusedSimpArgs false
set_option linter.unusedVariables false
set_option linter.unusedSectionVars false
set_option linter.unusedSectionVars false
variable [Tab] [Fo]

/-- How a call ends that reads nothing. -/
def PoO (I : Ox → Nat → World → Prop) (F : Int → World → Prop) (a : Nat) (r : Option Ox) (e : Ending) (w' : World) : Prop :=
  (∃ y, r = some y ∧ e = .returned (.tuple #[]) ∧ I y a w') ∨ (r = none ∧ ∃ k, e = .panicked (failP k) ∧ F k w')
def bkOf (p : Nat) (w : World) : Nat := match w.cell? ⟨p, 1, none⟩ with
  | some (.slice _ n _) => n
  | _ => 0
section
variable {base L p o ck an g : Nat} {S : List UInt8} {x : Ox} {a : Nat} {w w' w0 w1 W : World} {q : Obj → Prop}
theorem poo_up (ht : Tch base q w0 W) {r : Option Ox} {e : Ending} (h : PoO (OI base L p o ck an g S q W) (OF base L p o ck an g S q W) a r e w') : PoO (OI base L p o ck an g S q w0) (OF base L p o ck an g S q w0) a r e w' := by
  rcases h with ⟨x', h1, h2, h3⟩ | ⟨h1, k, h2, h3⟩
  · exact .inl ⟨x', h1, h2, oi_up ht h3⟩
  · exact .inr ⟨h1, k, h2, of_up ht h3⟩
theorem tell_O (hS : S.length ≤ 1000) (ev : Ev) (h : OI base L p o ck an g S olObj w0 x a w) (hl : x.l.length ≤ 900000) (hs : ev.t.size ≤ 1000) :
    Calls Tryz.prog 174 #[.pointer (some ⟨L, 0, none⟩), .agg #[.int .i64 ev.k, .string ev.t, .string ev.v]] w (PoO (OI base L p o ck an g S olObj w0) (OF base L p o ck an g S olObj w0) a (tellO x ev)) :=
  (ol_tell ev h.1 hl hs).mono fun e w' hp => by
    obtain ⟨hp, ht⟩ := hp
    have ht' := h.2.trans (ht.wide tA_ol)
    rcases hp with ⟨x', h1, h2, h3⟩ | ⟨h1, k, h2, h3, h4⟩
    · exact .inl ⟨x', h1, h2, h3, ht'⟩
    · exact .inr ⟨h1, k, h3, h2, h4, ht'⟩
theorem orow_cut {A : Option Addr} {n c m : Nat} {e : TypeId} {xs : List Value} (h : ORow w base e (.slice A n c) xs) (hn : xs.length = n) (hm : m ≤ n) : ORow w base e (.slice A m c) (xs.take m) := by
  have hl : (xs.take m).length = m := by rw [List.length_take]; omega
  refine ⟨by omega, ?_⟩
  rw [hl]
  rcases h.2 with ⟨hv, h0⟩ | ⟨g, cap, cur, hv, hg, hh, hnc, hmx, hs, ht⟩
  · injection hv with e1 e2 e3
    have : m = 0 := by omega
    subst this
    exact .inl ⟨by rw [e1, e3], rfl⟩
  · injection hv with e1 e2 e3
    refine .inr ⟨g, c, cur, by rw [e1], hg, hh, by omega, by rw [e3]; exact hmx, by rw [e3]; exact hs, ?_⟩
    rw [← ht, List.take_take]
    congr 1
    omega
/-- The last block is shut. -/
theorem bk_cut (h : OlI base L p o ck an g S x a w) {m : Nat} (hm : x.bk.length = m + 1) : ∃ A cap, w.cell? ⟨p, 1, none⟩ = some (.slice A (m + 1) cap) ∧ m ≤ cap ∧ w.frozen? ⟨p, 1, none⟩ = false ∧ p < w.heap.size ∧
    OlI base L p o ck an g S { x with bk := x.bk.dropLast } a (w.setCell ⟨p, 1, none⟩ (.slice A m cap)) ∧ Tch base olObj w (w.setCell ⟨p, 1, none⟩ (.slice A m cap)) ∧ bkOf p (w.setCell ⟨p, 1, none⟩ (.slice A m cap)) = m := by
  obtain ⟨bv, hB, hR, hnf⟩ := h.blk
  have hl : (x.bk.map (Value.int .i64)).length = x.bk.length := List.length_map ..
  obtain ⟨A, cap, hv⟩ := hR.shape
  obtain ⟨A', cap', c1, hcap, f1, _, _, hpl, _⟩ := bk_cells h
  have c1' : w.cell? ⟨p, 1, none⟩ = some bv := hB.cell 1
  rw [hl, hm] at hv
  subst hv
  have e := c1'.symm.trans c1
  injection e with e
  injection e with e1 e2 e3
  subst e1 e3
  have hrow := orow_cut hR (by rw [hl, hm]) (show m ≤ m + 1 by omega)
  have hd : (x.bk.map (Value.int .i64)).take m = x.bk.dropLast.map (.int .i64) := by rw [List.dropLast_eq_take, hm, ← List.map_take]; rfl
  rw [hd] at hrow
  have hset := h.setbk (Tch.refl _ _ _) hrow (fun k hk => hnf k (by cases A <;> exact hk)) (by have := h.bn; rw [List.length_dropLast]; omega)
  refine ⟨A, cap, c1', by omega, f1, hpl, hset.1, hset.2, ?_⟩
  obtain ⟨_, hB2, _⟩ := hset.1.blk
  have : (w.setCell ⟨p, 1, none⟩ (.slice A m cap)).cell? ⟨p, 1, none⟩ = some (.slice A m cap) := (hB.set_ 1 _).cell 1
  unfold bkOf
  rw [this]
theorem bkOf_eq (h : OlI base L p o ck an g S x a w) : bkOf p w = x.bk.length := by
  obtain ⟨A, cap, c1, _⟩ := bk_cells h
  unfold bkOf
  rw [c1]
set_option maxHeartbeats 16000000 in
theorem shut_O (keep : Nat) (h : OlI base L p o ck an g S x a w) (hl : x.l.length ≤ 700000) (hk9 : keep ≤ 1000000) :
    Calls Tryz.prog 171 #[rV L p, .int .i64 (keep : Int)] w (PoO (OI base L p o ck an g S olObj w) (OF base L p o ck an g S olObj w) a (shutO keep x)) := by
  obtain ⟨b, W, hg, hW, hB, hlt, hi, hT⟩ := rboxO (q := olObj) h
  have HU := Lib.hid hT
  have HB := Lib.hid hB
  obtain ⟨R, hR⟩ : ∃ R, shutO keep x = R := ⟨_, rfl⟩
  rw [hR]
  unfold shutO nulO at hR
  have h160 := hi.s9
  have HR := Lib.hid hR
  have HI := Lib.hid hi
  obtain ⟨A0, cap0, p1, _, _, _, _, hpl, _, p2, _⟩ := bk_cells hi
  obtain ⟨b0, b1, _⟩ := ob_cells hB
  obtain ⟨lk, hlk⟩ : ∃ lk, x.lk = lk := ⟨_, rfl⟩
  rw [hlk] at p2 HR
  unfold rV
  clear h hT hB hi hR p1
  go_enter Tryz.func171, Tryz.ntmps171
  cases lk with
  | true =>
    rw [if_pos rfl] at HR
    have HTl := Lib.hid (tell_O (by omega) (evB 1) (oi_refl HI.out) (by omega) (Nat.zero_le _))
    go_wp2_with fail
    refine HTl.out.mono ?_
    rintro e w1 (⟨y0, hr, rfl, h1⟩ | ⟨hr, k, rfl, hF⟩)
    case inr => exact ⟨rfl, poo_up HU.out (.inr ⟨by rw [← HR.out, hr]; rfl, k, rfl, hF⟩)⟩
    rw [hr] at HR
    have hly := (tellO_len hr).2.2.2.2.2.2
    have hbk0 := h1.1.bn
    have START := Lib.hid (show ∃ (y : Ox) (n : Nat), y.bk.length ≤ n ∧ Hid (OI base L p o ck an g S olObj W y a w1) ∧ Hid (shutN keep n y = R) ∧ Hid (y.l.length + y.bk.length ≤ 800000) from ⟨y0, _, Nat.le_refl _, Lib.hid h1, Lib.hid HR.out, Lib.hid (by omega)⟩)
    clear hr HR h1 HTl HI hly b0 b1 p2 hbk0
    go_wp2
    go_loopw [] (fun wr => ∃ (y : Ox) (n : Nat), y.bk.length ≤ n ∧ Hid (OI base L p o ck an g S olObj W y a wr) ∧ Hid (shutN keep n y = R) ∧ Hid (y.l.length + y.bk.length ≤ 800000)) (fun wr => bkOf p wr)
    case atStart => exact START.out
    case round =>
      obtain ⟨y, n, hyn, HI, HR, HLn⟩ := hrel
      clear START
      obtain ⟨b0, b1, hgl⟩ := ob_cells (ob_tch HB.out HI.out.2)
      obtain ⟨A, cap, c1, hcap, _, _, _, hpl1, _, _, _, hcells⟩ := bk_cells HI.out.1
      have hbn : y.bk.length ≤ 1000 := HI.out.1.bn
      have HPL := Lib.hid (bkOf_eq HI.out.1)
      by_cases hk : keep < y.bk.length
      · obtain ⟨m, hm⟩ : ∃ m, y.bk.length = m + 1 := ⟨y.bk.length - 1, by omega⟩
        obtain ⟨n, rfl⟩ : ∃ n', n = n' + 1 := ⟨n - 1, by omega⟩
        have HR2 : Hid (((tellO y (evB (endK y))).bind fun y => shutN keep n { y with bk := y.bk.dropLast }) = R) := Lib.hid (by have := HR.out; rw [shutN, if_pos hk] at this; exact this)
        obtain ⟨kb, rfl, hcc⟩ := hcells (by omega)
        have d1 := hcc m (by omega)
        obtain ⟨kk, hkk⟩ : ∃ kk, y.bk[m]'(by omega) = kk := ⟨_, rfl⟩
        have hlast : y.bk.getLast? = some kk := by rw [List.getLast?_eq_getElem?, hm, ← hkk]; exact List.getElem?_eq_getElem (by omega)
        rw [hkk] at d1
        have hm1 : ((y.bk.length : Int) - 1) = m := by omega
        have hkb := cell_lt d1
        have HMm := Lib.hid hm
        have HEk : Hid (endK y = if kk = 7 then 9 else 6) := Lib.hid (by unfold endK; rw [hlast]; by_cases h7 : kk = 7 <;> simp [h7])
        clear HR hcells hcc hlast hkk
        cases h7 : (kk == (7 : Int)) with
        | true =>
          have he : endK y = 9 := by rw [HEk.out, if_pos (by simpa using h7)]
          rw [he] at HR2
          have HTl := Lib.hid (tell_O (by omega) (evB 9) HI.out (by have := HLn.out; omega) (Nat.zero_le _))
          clear he HEk
          go_wp2_with fail
          refine HTl.out.mono ?_
          rintro e w2 (⟨y1, hr, rfl, h2⟩ | ⟨hr, k, rfl, hF⟩)
          case inr => exact ⟨rfl, poo_up HU.out (.inr ⟨by rw [← HR2.out, hr]; rfl, k, rfl, hF⟩)⟩
          obtain ⟨_, _, hb1, _, _, _, hl1⟩ := tellO_len hr
          rw [hr] at HR2
          have HR3 : Hid (shutN keep n { y1 with bk := y1.bk.dropLast } = R) := Lib.hid HR2.out
          have hid3 := oi_drew h2
          have hm4 : y1.bk.length = m + 1 := by rw [hb1]; exact HMm.out
          obtain ⟨A3, cap3, c3, hcap3, f3, hpl3, hI4, hT4, hE4⟩ := bk_cut hid3.1 hm4
          obtain ⟨d0, d2, hgl3⟩ := ob_cells (ob_tch HB.out hid3.2)
          have HI4 : Hid (OI base L p o ck an g S olObj W { y1 with bk := y1.bk.dropLast } a (w2.drew.setCell ⟨p, 1, none⟩ (.slice A3 m cap3))) := Lib.hid ⟨hI4, hid3.2.trans hT4⟩
          have HE4 := Lib.hid hE4
          have HP : Hid (bkOf p wr = m + 1) := Lib.hid (HPL.out.trans HMm.out)
          have HL4 : Hid (({ y1 with bk := y1.bk.dropLast } : Ox).l.length + ({ y1 with bk := y1.bk.dropLast } : Ox).bk.length ≤ 800000) := Lib.hid (by simp only [List.length_dropLast]; have := HLn.out; omega)
          have HN4 : Hid (({ y1 with bk := y1.bk.dropLast } : Ox).bk.length ≤ n) := Lib.hid (by simp only [List.length_dropLast]; have := HMm.out; omega)
          clear hr h2 HR2 HTl hid3 hm4 hI4 hT4 hE4 hb1 hl1 HPL c1 hcap hk b0 b1 d1 hm hm1 hyn HMm
          go_wp2
          go_region
          go_wp2
          go_roundw
          case rel => exact ⟨{ y1 with bk := y1.bk.dropLast }, n, HN4.out, HI4, HR3, HL4⟩
          case measure => exact Nat.lt_of_le_of_lt (Nat.le_of_eq HE4.out) (by rw [HP.out]; omega)
        | false =>
          have he : endK y = 6 := by rw [HEk.out, if_neg (by simpa using h7)]
          rw [he] at HR2
          have HTl := Lib.hid (tell_O (by omega) (evB 6) HI.out (by have := HLn.out; omega) (Nat.zero_le _))
          clear he HEk
          go_wp2_with fail
          refine HTl.out.mono ?_
          rintro e w2 (⟨y1, hr, rfl, h2⟩ | ⟨hr, k, rfl, hF⟩)
          case inr => exact ⟨rfl, poo_up HU.out (.inr ⟨by rw [← HR2.out, hr]; rfl, k, rfl, hF⟩)⟩
          obtain ⟨_, _, hb1, _, _, _, hl1⟩ := tellO_len hr
          rw [hr] at HR2
          have HR3 : Hid (shutN keep n { y1 with bk := y1.bk.dropLast } = R) := Lib.hid HR2.out
          have hid3 := oi_drew h2
          have hm4 : y1.bk.length = m + 1 := by rw [hb1]; exact HMm.out
          obtain ⟨A3, cap3, c3, hcap3, f3, hpl3, hI4, hT4, hE4⟩ := bk_cut hid3.1 hm4
          obtain ⟨d0, d2, hgl3⟩ := ob_cells (ob_tch HB.out hid3.2)
          have HI4 : Hid (OI base L p o ck an g S olObj W { y1 with bk := y1.bk.dropLast } a (w2.drew.setCell ⟨p, 1, none⟩ (.slice A3 m cap3))) := Lib.hid ⟨hI4, hid3.2.trans hT4⟩
          have HE4 := Lib.hid hE4
          have HP : Hid (bkOf p wr = m + 1) := Lib.hid (HPL.out.trans HMm.out)
          have HL4 : Hid (({ y1 with bk := y1.bk.dropLast } : Ox).l.length + ({ y1 with bk := y1.bk.dropLast } : Ox).bk.length ≤ 800000) := Lib.hid (by simp only [List.length_dropLast]; have := HLn.out; omega)
          have HN4 : Hid (({ y1 with bk := y1.bk.dropLast } : Ox).bk.length ≤ n) := Lib.hid (by simp only [List.length_dropLast]; have := HMm.out; omega)
          clear hr h2 HR2 HTl hid3 hm4 hI4 hT4 hE4 hb1 hl1 HPL c1 hcap hk b0 b1 d1 hm hm1 hyn HMm
          go_wp2
          go_region
          go_wp2
          go_roundw
          case rel => exact ⟨{ y1 with bk := y1.bk.dropLast }, n, HN4.out, HI4, HR3, HL4⟩
          case measure => exact Nat.lt_of_le_of_lt (Nat.le_of_eq HE4.out) (by rw [HP.out]; omega)
      · have HE : Hid (R = some y) := Lib.hid (by rw [← HR.out]; cases n with | zero => rfl | succ n => rw [shutN, if_neg hk])
        clear HR hcells
        go_wp2
        go_end0
        exact .inl ⟨y, HE.out, rfl, oi_up HU.out HI.out⟩
  | false =>
    rw [if_neg (by decide)] at HR
    have hbk0 := HI.out.bn
    have START := Lib.hid (show ∃ (y : Ox) (n : Nat), y.bk.length ≤ n ∧ Hid (OI base L p o ck an g S olObj W y a W) ∧ Hid (shutN keep n y = R) ∧ Hid (y.l.length + y.bk.length ≤ 800000) from ⟨x, _, Nat.le_refl _, Lib.hid (oi_refl HI.out), Lib.hid HR.out, Lib.hid (by omega)⟩)
    clear HR hbk0 HI
    go_wp2
    clear b0 b1 p2
    go_loopw [] (fun wr => ∃ (y : Ox) (n : Nat), y.bk.length ≤ n ∧ Hid (OI base L p o ck an g S olObj W y a wr) ∧ Hid (shutN keep n y = R) ∧ Hid (y.l.length + y.bk.length ≤ 800000)) (fun wr => bkOf p wr)
    case atStart => exact START.out
    case round =>
      obtain ⟨y, n, hyn, HI, HR, HLn⟩ := hrel
      clear START
      obtain ⟨b0, b1, hgl⟩ := ob_cells (ob_tch HB.out HI.out.2)
      obtain ⟨A, cap, c1, hcap, _, _, _, hpl1, _, _, _, hcells⟩ := bk_cells HI.out.1
      have hbn : y.bk.length ≤ 1000 := HI.out.1.bn
      have HPL := Lib.hid (bkOf_eq HI.out.1)
      by_cases hk : keep < y.bk.length
      · obtain ⟨m, hm⟩ : ∃ m, y.bk.length = m + 1 := ⟨y.bk.length - 1, by omega⟩
        obtain ⟨n, rfl⟩ : ∃ n', n = n' + 1 := ⟨n - 1, by omega⟩
        have HR2 : Hid (((tellO y (evB (endK y))).bind fun y => shutN keep n { y with bk := y.bk.dropLast }) = R) := Lib.hid (by have := HR.out; rw [shutN, if_pos hk] at this; exact this)
        obtain ⟨kb, rfl, hcc⟩ := hcells (by omega)
        have d1 := hcc m (by omega)
        obtain ⟨kk, hkk⟩ : ∃ kk, y.bk[m]'(by omega) = kk := ⟨_, rfl⟩
        have hlast : y.bk.getLast? = some kk := by rw [List.getLast?_eq_getElem?, hm, ← hkk]; exact List.getElem?_eq_getElem (by omega)
        rw [hkk] at d1
        have hm1 : ((y.bk.length : Int) - 1) = m := by omega
        have hkb := cell_lt d1
        have HMm := Lib.hid hm
        have HEk : Hid (endK y = if kk = 7 then 9 else 6) := Lib.hid (by unfold endK; rw [hlast]; by_cases h7 : kk = 7 <;> simp [h7])
        clear HR hcells hcc hlast hkk
        cases h7 : (kk == (7 : Int)) with
        | true =>
          have he : endK y = 9 := by rw [HEk.out, if_pos (by simpa using h7)]
          rw [he] at HR2
          have HTl := Lib.hid (tell_O (by omega) (evB 9) HI.out (by have := HLn.out; omega) (Nat.zero_le _))
          clear he HEk
          go_wp2_with fail
          refine HTl.out.mono ?_
          rintro e w2 (⟨y1, hr, rfl, h2⟩ | ⟨hr, k, rfl, hF⟩)
          case inr => exact ⟨rfl, poo_up HU.out (.inr ⟨by rw [← HR2.out, hr]; rfl, k, rfl, hF⟩)⟩
          obtain ⟨_, _, hb1, _, _, _, hl1⟩ := tellO_len hr
          rw [hr] at HR2
          have HR3 : Hid (shutN keep n { y1 with bk := y1.bk.dropLast } = R) := Lib.hid HR2.out
          have hid3 := oi_drew h2
          have hm4 : y1.bk.length = m + 1 := by rw [hb1]; exact HMm.out
          obtain ⟨A3, cap3, c3, hcap3, f3, hpl3, hI4, hT4, hE4⟩ := bk_cut hid3.1 hm4
          obtain ⟨d0, d2, hgl3⟩ := ob_cells (ob_tch HB.out hid3.2)
          have HI4 : Hid (OI base L p o ck an g S olObj W { y1 with bk := y1.bk.dropLast } a (w2.drew.setCell ⟨p, 1, none⟩ (.slice A3 m cap3))) := Lib.hid ⟨hI4, hid3.2.trans hT4⟩
          have HE4 := Lib.hid hE4
          have HP : Hid (bkOf p wr = m + 1) := Lib.hid (HPL.out.trans HMm.out)
          have HL4 : Hid (({ y1 with bk := y1.bk.dropLast } : Ox).l.length + ({ y1 with bk := y1.bk.dropLast } : Ox).bk.length ≤ 800000) := Lib.hid (by simp only [List.length_dropLast]; have := HLn.out; omega)
          have HN4 : Hid (({ y1 with bk := y1.bk.dropLast } : Ox).bk.length ≤ n) := Lib.hid (by simp only [List.length_dropLast]; have := HMm.out; omega)
          clear hr h2 HR2 HTl hid3 hm4 hI4 hT4 hE4 hb1 hl1 HPL c1 hcap hk b0 b1 d1 hm hm1 hyn HMm
          go_wp2
          go_region
          go_wp2
          go_roundw
          case rel => exact ⟨{ y1 with bk := y1.bk.dropLast }, n, HN4.out, HI4, HR3, HL4⟩
          case measure => exact Nat.lt_of_le_of_lt (Nat.le_of_eq HE4.out) (by rw [HP.out]; omega)
        | false =>
          have he : endK y = 6 := by rw [HEk.out, if_neg (by simpa using h7)]
          rw [he] at HR2
          have HTl := Lib.hid (tell_O (by omega) (evB 6) HI.out (by have := HLn.out; omega) (Nat.zero_le _))
          clear he HEk
          go_wp2_with fail
          refine HTl.out.mono ?_
          rintro e w2 (⟨y1, hr, rfl, h2⟩ | ⟨hr, k, rfl, hF⟩)
          case inr => exact ⟨rfl, poo_up HU.out (.inr ⟨by rw [← HR2.out, hr]; rfl, k, rfl, hF⟩)⟩
          obtain ⟨_, _, hb1, _, _, _, hl1⟩ := tellO_len hr
          rw [hr] at HR2
          have HR3 : Hid (shutN keep n { y1 with bk := y1.bk.dropLast } = R) := Lib.hid HR2.out
          have hid3 := oi_drew h2
          have hm4 : y1.bk.length = m + 1 := by rw [hb1]; exact HMm.out
          obtain ⟨A3, cap3, c3, hcap3, f3, hpl3, hI4, hT4, hE4⟩ := bk_cut hid3.1 hm4
          obtain ⟨d0, d2, hgl3⟩ := ob_cells (ob_tch HB.out hid3.2)
          have HI4 : Hid (OI base L p o ck an g S olObj W { y1 with bk := y1.bk.dropLast } a (w2.drew.setCell ⟨p, 1, none⟩ (.slice A3 m cap3))) := Lib.hid ⟨hI4, hid3.2.trans hT4⟩
          have HE4 := Lib.hid hE4
          have HP : Hid (bkOf p wr = m + 1) := Lib.hid (HPL.out.trans HMm.out)
          have HL4 : Hid (({ y1 with bk := y1.bk.dropLast } : Ox).l.length + ({ y1 with bk := y1.bk.dropLast } : Ox).bk.length ≤ 800000) := Lib.hid (by simp only [List.length_dropLast]; have := HLn.out; omega)
          have HN4 : Hid (({ y1 with bk := y1.bk.dropLast } : Ox).bk.length ≤ n) := Lib.hid (by simp only [List.length_dropLast]; have := HMm.out; omega)
          clear hr h2 HR2 HTl hid3 hm4 hI4 hT4 hE4 hb1 hl1 HPL c1 hcap hk b0 b1 d1 hm hm1 hyn HMm
          go_wp2
          go_region
          go_wp2
          go_roundw
          case rel => exact ⟨{ y1 with bk := y1.bk.dropLast }, n, HN4.out, HI4, HR3, HL4⟩
          case measure => exact Nat.lt_of_le_of_lt (Nat.le_of_eq HE4.out) (by rw [HP.out]; omega)
      · have HE : Hid (R = some y) := Lib.hid (by rw [← HR.out]; cases n with | zero => rfl | succ n => rw [shutN, if_neg hk])
        clear HR hcells
        go_wp2
        go_end0
        exact .inl ⟨y, HE.out, rfl, oi_up HU.out HI.out⟩
end
end Go.Proofs.YtalkjgijmceifaaGreatDoor
namespace Go.Proofs.YtalkjgijmceifaaGreatDoor
open Go.RowKit Go.Maps
set_option maxRecDepth 100000
set_option linter.unusedSimpArgs false
set_option linter.unusedVariables false
set_option linter.unusedSectionVars false
set_option linter.unusedSectionVars false
variable [Tab] [Fo]

def erOo : Obj → Prop
  | .cells _ t _ => t = 25
  | _ => False
section
variable {base L p o ck an g : Nat} {S : List UInt8} {x : Ox} {a : Nat} {w w' w0 w1 W : World} {q : Obj → Prop}
theorem OlI.err (h : OlI base L p o ck an g S x a w) {r : Nat} {cs : Array Value} {u : Value} (hb : base ≤ r) (hf : ¬ Fo.F r) (hB : Blk w r 25 cs) : OlI base L p o ck an g S x a (w.setCell ⟨r, 0, none⟩ u) ∧ Tch base erOo w (w.setCell ⟨r, 0, none⟩ u) := by
  have ht : Tch base erOo w (w.setCell ⟨r, 0, none⟩ u) := (Tch.refl _ _ _).set hB hb hf (show erOo (.cells _ _ _) from rfl) 0 u
  refine ⟨h.other ht (fun cs t fr hh hc => ?_) (fun q hq hc => ?_), ht⟩
  · simp only [erOo] at hc
    rcases hh with rfl | rfl | rfl | rfl <;> exact absurd hc (by decide)
  · cases q with
    | cells cs t fr => simp only [erOo] at hc; subst hc; exact tA_no _ _ _ (by simp) hq
    | _ => exact hc
theorem tch_new (h : Tch base q W w) {r : Nat} {u : Value} (hr : W.heap.size ≤ r) : Tch base q W (w.setCell ⟨r, 0, none⟩ u) := by
  have hg := only_setCell (World.grownBy.refl w (some r)) (p := ⟨r, 0, none⟩) (.inl rfl) u
  exact ⟨hg.os.trans h.os, hg.tape.trans h.tape, hg.output.trans h.output, Nat.le_trans h.size hg.size, fun k o ho hc => (hg.block k (Nat.lt_of_lt_of_le (Array.getElem?_eq_some_iff.1 ho).1 h.size) (fun e => by have := (Array.getElem?_eq_some_iff.1 ho).1; have := Option.some.inj e; omega)).trans (h.block k o ho hc)⟩
/-- A parsing that is tried, and tells nothing. -/
theorem fits_O (fn : FuncId) (hef : ∀ args w, (callFunc fn args).run Tryz.prog w = .ok (.enter fn args) w) (r : Option Nat) (h : OI base L p o ck an g S olObj W x a w)
    (hc : ∀ w1, LAt w1 L (oL o g) S a → Fo.lim ≤ w1.heap.size → Calls Tryz.prog fn #[rV L p] w1 (Pu (I0 L (oL o g) S w1) (F0 L (oL o g) S w1) r)) :
    Calls Tryz.prog 182 #[.pointer (some ⟨L, 0, none⟩), .func (.func fn) #[rV L p] #[]] w fun e w' => e = .returned (.bool r.isSome) ∧ OI base L p o ck an g S olObj W x a w' := by
  have hS : S.length ≤ 1000 := by have := h.1.s9; omega
  have H := (oT (base := base) (L := L) (p := p) (o := o) (ck := ck) (an := an) (g := g) (S := S) (q := olObj) (w0 := W) hS ox_ol).rd x
  refine fits_I H fn #[rV L p] #[] hef r h (fun {a1 w1 r cs} u hr hi hB => ?_) (fun w1 hi => ?_)
  · obtain ⟨k1, k2⟩ := hi.1.err (u := u) (Nat.le_trans h.1.pl.1 hr) (nf_new (Nat.le_trans h.1.lim' hr)) hB
    exact ⟨k1, tch_new hi.2 (Nat.le_trans h.2.size hr)⟩
  · refine (hc w1 hi.1.ln hi.1.lim').mono fun e w2 hp => ?_
    have conv : ∀ {b : Nat}, I0 L (oL o g) S w1 b w2 → OI base L p o ck an g S olObj W x b w2 ∧ LnF L w1 w2 := fun hb => ⟨⟨hi.1.go hb.1 hb.2.1 hb.2.2, hi.2.trans ((hi.1.line_tch hb.2.2).wide ln_ol)⟩, hb.2.2⟩
    rcases hp with ⟨a2, h1, h2, h3⟩ | ⟨h1, k, h2, h3, b, h4⟩
    · exact .inl ⟨a2, h1, h2, conv h3⟩
    · exact .inr ⟨h1, k, h2, h3, b, conv h4⟩
set_option maxHeartbeats 8000000 in
theorem fob_O (hok : lenO x + 1 + 2 * (S.length - a) ≤ 900000) (hbn : x.bk.length ≤ 900) (h : OlI base L p o ck an g S x a w) :
    Calls Tryz.prog 179 #[rV L p] w (Pq (OI base L p o ck an g S olObj w) (OF base L p o ck an g S olObj w) (fobO S a x)) := by
  obtain ⟨b, W, hg, hW, hB, hlt, hi, hT⟩ := rboxO (q := olObj) h
  have hmf : ∀ (fn : Fn) (first cap : Array Value) (w : World), (Instr.makeFunc fn first cap).run Tryz.prog w = .ok (.func fn first cap) w := fun _ _ _ _ => rfl
  have HU := Lib.hid hT
  have HB := Lib.hid hB
  obtain ⟨R, hR⟩ : ∃ R, fobO S a x = R := ⟨_, rfl⟩
  rw [hR]
  unfold fobO at hR
  have HR := Lib.hid hR
  have h160 := hi.s9
  have hal0 := hi.al
  have HOk := Lib.hid (And.intro hok hbn)
  have hF := fits_O (p := p) (W := W) 183 (fun args w => enters_of Tryz.func183 (by kernel_rfl) rfl args w) (dashO S a) (oi_refl hi) (fun w1 hl _ => dash_any (p := p) hl (by omega) hal0)
  unfold rV at hF
  have HF := Lib.hid hF
  obtain ⟨b0, b1, _⟩ := ob_cells hB
  unfold rV
  clear h hT hB hi hR hok hbn hF
  go_enter Tryz.func179, Tryz.ntmps179
  go_wp2_with fail
  refine HF.out.mono ?_
  rintro e w1 ⟨rfl, h1⟩
  have HB1 := Lib.hid (ob_tch HB.out h1.2)
  have HI1 := Lib.hid h1.1
  have HT1 := Lib.hid (HU.out.trans h1.2)
  obtain ⟨b0, b1, hgl1⟩ := ob_cells HB1.out
  clear h1 HF HB hlt
  cases hd : (dashO S a).isSome with
  | true =>
    rw [if_pos hd] at HR
    have hE := begin_O (p := p) 5 (.inl rfl) HOk.out.1 HOk.out.2 HI1.out
    rw [HR.out] at hE
    unfold rV at hE
    have HE := Lib.hid hE
    clear hE hd HR
    go_wp2_with fail
    refine HE.out.mono ?_
    intro e w2 hp
    rcases poq_up HT1.out hp with ⟨a3, x3, hr, rfl, h3⟩ | ⟨hr, k, rfl, hF⟩
    case inr => exact ⟨rfl, .inr ⟨hr, k, rfl, hF⟩⟩
    have H3 := Lib.hid (And.intro hr h3)
    clear hr h3 HE hp
    go_wp2
    go_end0
    exact .inl ⟨a3, x3, H3.out.1, rfl, H3.out.2⟩
  | false =>
    rw [if_neg (by rw [hd]; decide)] at HR
    have HIs := Lib.hid (is_I ((oT (p := p) (ck := ck) (an := an) (q := olObj) (w0 := w1) (by omega) ox_ol).rd x) 34 (oi_refl HI1.out))
    clear hd
    go_wp2_with fail
    refine HIs.out.mono ?_
    rintro e w2 ⟨rfl, h2⟩
    have HB2 := Lib.hid (ob_tch HB1.out h2.2)
    have HI2 := Lib.hid h2.1
    have HT2 := Lib.hid (HT1.out.trans h2.2)
    obtain ⟨b0, b1, hgl2⟩ := ob_cells HB2.out
    clear h2 HIs HB1 HI1 HT1 hgl1
    cases hq : isB S a 34 with
    | true =>
      rw [if_pos (.inl hq)] at HR
      have hE := begin_O (p := p) 7 (.inr rfl) HOk.out.1 HOk.out.2 HI2.out
      rw [HR.out] at hE
      unfold rV at hE
      have HE := Lib.hid hE
      have HT3 := HT2
      clear hE hq HR
      go_wp2_with fail
      refine HE.out.mono ?_
      intro e w4 hp
      rcases poq_up HT3.out hp with ⟨a3, x3, hr, rfl, h3⟩ | ⟨hr, k, rfl, hF⟩
      case inr => exact ⟨rfl, .inr ⟨hr, k, rfl, hF⟩⟩
      have H3 := Lib.hid (And.intro hr h3)
      clear hr h3 HE hp
      go_wp2
      go_end0
      exact .inl ⟨a3, x3, H3.out.1, rfl, H3.out.2⟩
    | false =>
      have HNa := Lib.hid (name_ahead w2 L (oL o g) S a HI2.out.ln (by omega) HI2.out.al)
      go_wp2_with fail
      refine HNa.out.mono ?_
      rintro e w3 ⟨rfl, hb3⟩
      have HB3 := Lib.hid (HB2.out.below hb3 HB2.out.lt)
      have HI3 := Lib.hid (HI2.out.belowO hb3)
      have HT3 := Lib.hid (HT2.out.trans (Tch.of_below hb3))
      obtain ⟨b0, b1, hgl3⟩ := ob_cells HB3.out
      clear hb3 HNa HB2 HI2 HT2 hgl2
      cases hn : naB S a with
      | true =>
        rw [if_pos (.inr hn)] at HR
        have hE := begin_O (p := p) 7 (.inr rfl) HOk.out.1 HOk.out.2 HI3.out
        rw [HR.out] at hE
        unfold rV at hE
        have HE := Lib.hid hE
        clear hE hq hn HR
        go_wp2_with fail
        refine HE.out.mono ?_
        intro e w4 hp
        rcases poq_up HT3.out hp with ⟨a3, x3, hr, rfl, h3⟩ | ⟨hr, k, rfl, hF⟩
        case inr => exact ⟨rfl, .inr ⟨hr, k, rfl, hF⟩⟩
        have H3 := Lib.hid (And.intro hr h3)
        clear hr h3 HE hp
        go_wp2
        go_end0
        exact .inl ⟨a3, x3, H3.out.1, rfl, H3.out.2⟩
      | false =>
        rw [if_neg (by rw [hq, hn]; simp)] at HR
        have HFa := Lib.hid (fail_I ((oT (p := p) (ck := ck) (an := an) (q := olObj) (w0 := w3) (by omega) ox_ol).rd x) 2 (by decide) (oi_refl HI3.out))
        clear hq hn
        go_wp2_with fail
        refine HFa.out.mono ?_
        rintro e w4 ⟨rfl, hF⟩
        exact ⟨rfl, .inr ⟨HR.out.symm, 2, rfl, of_up HT3.out hF⟩⟩
end
end Go.Proofs.YtalkjgijmceifaaGreatDoor

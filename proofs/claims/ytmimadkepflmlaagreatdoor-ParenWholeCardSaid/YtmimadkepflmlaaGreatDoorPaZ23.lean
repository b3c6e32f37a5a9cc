/-
  paren: the map that says where a string may follow: what it holds, how it is made and asked.
-/
import Derived.Test.YtmimadkepflmlaaGreatDoorPaZ22
import Derived.Maps.OwnSet
import Derived.Maps.OwnOps
namespace Go.Proofs.YtmimadkepflmlaaGreatDoor
open Go.RowKit Go.Maps
set_option maxRecDepth 100000
set_option linter.unusedSimpArgs false
set_option linter.unusedVariables false
set_option linter.unusedSectionVars false
variable [Tab] [Fo]

theorem plLaw : Keyed Tryz.prog 71 := int_keyed Tryz.underlying71
theorem inLaw : Keyed Tryz.prog 3 := int_keyed Tryz.underlying3
def dU (k n : Int) : DataW Unit := .agg [.lit (.int .i64 k), .lit (.int .i64 n)]
/-- How a use reads. -/
def elemU : Value → Option (DataW Unit × List MemPlace)
  | .agg cs => match cs.toList with
    | [.int .i64 k, .int .i64 n] => some (dU k n, [])
    | _ => none
  | _ => none
theorem elemU_mk (k n : Int) : elemU (.agg #[.int .i64 k, .int .i64 n]) = some (dU k n, []) := rfl
theorem elemU_inv {v : Value} {z : DataW Unit × List MemPlace} (h : elemU v = some z) : ∃ k n, v = .agg #[.int .i64 k, .int .i64 n] ∧ z = (dU k n, []) := by
  cases v with
  | agg cs =>
    obtain ⟨l⟩ := cs
    match l with
    | [] => cases h
    | [x] => cases x <;> simp [elemU] at h
    | [x, y] =>
      cases x <;> cases y <;> try (simp [elemU] at h; done)
      rename_i k1 a k2 c
      cases k1 <;> cases k2 <;> try (simp [elemU] at h; done)
      simp only [elemU, Option.some.injEq] at h
      exact ⟨a, c, rfl, h.symm⟩
    | x :: y :: u :: r => cases x <;> cases y <;> simp [elemU] at h
  | _ => cases h
/-- How a map within the map reads. -/
def elemO : Value → Option (DataW Unit × List MemPlace)
  | .map (some b) => some (.lit (.int .i64 (b : Int)), [])
  | .map none => some (.nil, [])
  | _ => none
theorem elemO_inv {v : Value} {b : Nat} {ps : List MemPlace} (h : elemO v = some (.lit (.int .i64 (b : Int)), ps)) : v = .map (some b) := by
  cases v with
  | map r =>
    cases r with
    | none => cases h
    | some b' =>
      simp only [elemO, Option.some.injEq, Prod.mk.injEq] at h
      have := h.1
      injection this with this
      injection this with _ this
      have : b' = b := by omega
      rw [this]
  | _ => cases h
def updF {α : Type} (f : Int → Option α) (d : Int) (v : α) : Int → Option α := fun x => if x = d then some v else f x
section
variable {w w' : World} {b : Nat}
theorem own_keep {k : TypeId} {R : Value → Option (DataW Unit × List MemPlace)} {n : Nat} {D : DataW Unit} (h : w.ownsMap Tryz.prog k R b n D) (hk : w'.heap[b]? = w.heap[b]?) : w'.ownsMap Tryz.prog k R b n D := by
  obtain ⟨es, c, hb, r⟩ := h
  exact ⟨es, c, hk.trans hb, r⟩
theorem litk (d : Int) : WideAt.IsKeyLit (.int .i64 d) := by simp [WideAt.IsKeyLit]
end
/-- The same, with the number of entries. -/
def UMn (w : World) (b n : Nat) (f : Int → Option (Int × Int)) : Prop :=
  ∃ D, w.ownsMap (H := Unit) Tryz.prog 71 elemU b n D ∧ (∀ d, Maps.has D (.int .i64 d) = (f d).isSome) ∧ (∀ d a c, f d = some (a, c) → ∀ z, D.atKey (.int .i64 d) z = dU a c)
def OMn (w : World) (b n : Nat) (f : Int → Option Nat) : Prop :=
  ∃ D, w.ownsMap (H := Unit) Tryz.prog 3 elemO b n D ∧ (∀ d a, f d = some a → ∀ z, D.atKey (.int .i64 d) z = .lit (.int .i64 (a : Int)))
section
variable {w w' : World} {b n : Nat} {f g : Int → Option (Int × Int)} {u v : Int → Option Nat}
theorem UMn.lt (h : UMn w b n f) : b < w.heap.size := by obtain ⟨_, h, _⟩ := h; exact h.lt
theorem OMn.lt (h : OMn w b n u) : b < w.heap.size := by obtain ⟨_, h, _⟩ := h; exact h.lt
theorem UMn.keep (h : UMn w b n f) (hk : w'.heap[b]? = w.heap[b]?) : UMn w' b n f := by
  obtain ⟨D, h1, h2⟩ := h
  exact ⟨D, own_keep h1 hk, h2⟩
theorem OMn.keep (h : OMn w b n u) (hk : w'.heap[b]? = w.heap[b]?) : OMn w' b n u := by
  obtain ⟨D, h1, h2⟩ := h
  exact ⟨D, own_keep h1 hk, h2⟩
theorem UMn.alloc (h : UMn w b n f) (o : Obj) : UMn (w.alloc o) b n f := h.keep (Below.heap_alloc w o b h.lt)
theorem OMn.alloc (h : OMn w b n u) (o : Obj) : OMn (w.alloc o) b n u := h.keep (Below.heap_alloc w o b h.lt)
theorem UMn.kept {c : Nat} (h : UMn w b n f) (hg : w.grownBy w' (some c)) (hne : b ≠ c) : UMn w' b n f := h.keep (hg.block b h.lt (fun e => hne (by injection e)))
theorem OMn.kept {c : Nat} (h : OMn w b n u) (hg : w.grownBy w' (some c)) (hne : b ≠ c) : OMn w' b n u := h.keep (hg.block b h.lt (fun e => hne (by injection e)))
theorem UMn.new (w : World) : UMn (w.alloc (.map #[] 0)) w.heap.size 0 (fun _ => none) := ⟨.map [], World.ownsMap_made w _ _ _, fun _ => rfl, fun _ _ _ h => by cases h⟩
theorem OMn.new (w : World) : OMn (w.alloc (.map #[] 0)) w.heap.size 0 (fun _ => none) := ⟨.map [], World.ownsMap_made w _ _ _, fun _ _ h => by cases h⟩
theorem UMn.put (h : UMn w b n f) (hn : n ≤ 20) (d a c : Int) (hd : (Lit.int .i64 d).wf = true) :
    ∃ w', (Instr.mapUpdate 86 (.map (some b)) (.int .i64 d) (.agg #[.int .i64 a, .int .i64 c])).run Tryz.prog w = .ok () w' ∧ UMn w' b (n + 1) (updF f d (a, c)) ∧ w.grownBy w' (some b) := by
  obtain ⟨D, h1, h2, h3⟩ := h
  obtain ⟨w', hr, ho, hg⟩ := h1.update (t := 86) plLaw Tryz.underlying86 (by simp [maxLen]; omega) (keyOf_int_mk Tryz.underlying71 hd) (elemU_mk a c)
  refine ⟨w', hr, ⟨_, ho, fun q => ?_, fun q a' c' hq z => ?_⟩, hg⟩
  · by_cases hq : q = d
    · subst hq
      rw [has_put_same h1.isMap (litk q)]
      simp [updF]
    · rw [has_put_other (by simpa using hq), h2]
      simp [updF, hq]
  · by_cases hqd : q = d
    · subst hqd
      rw [atKey_put_same h1.isMap (litk q)]
      simp only [updF, if_true, Option.some.injEq, Prod.mk.injEq] at hq
      rw [hq.1, hq.2]
    · rw [atKey_put_other (by simpa using hqd)]
      simp only [updF, if_neg hqd] at hq
      exact h3 q a' c' hq z
theorem OMn.put (h : OMn w b n u) (hn : n ≤ 20) (d : Int) (x : Nat) (hd : (Lit.int .i64 d).wf = true) :
    ∃ w', (Instr.mapUpdate 68 (.map (some b)) (.int .i64 d) (.map (some x))).run Tryz.prog w = .ok () w' ∧ OMn w' b (n + 1) (updF u d x) ∧ w.grownBy w' (some b) := by
  obtain ⟨D, h1, h3⟩ := h
  obtain ⟨w', hr, ho, hg⟩ := h1.update (t := 68) inLaw Tryz.underlying68 (by simp [maxLen]; omega) (keyOf_int_mk Tryz.underlying3 hd) (show elemO (.map (some x)) = some (.lit (.int .i64 (x : Int)), []) from rfl)
  refine ⟨w', hr, ⟨_, ho, fun q a' hq z => ?_⟩, hg⟩
  by_cases hqd : q = d
  · subst hqd
    rw [atKey_put_same h1.isMap (litk q)]
    simp only [updF, if_true, Option.some.injEq] at hq
    rw [hq]
  · rw [atKey_put_other (by simpa using hqd)]
    simp only [updF, if_neg hqd] at hq
    exact h3 q a' hq z
theorem zeroU (w : World) : (zeroValue 73).run Tryz.prog w = .ok (.agg #[.int .i64 0, .int .i64 0]) w := by kernel_rfl
theorem zeroO (w : World) : (zeroValue 86).run Tryz.prog w = .ok (.map none) w := by kernel_rfl
theorem UMn.look (h : UMn w b n f) (d : Int) (hd : (Lit.int .i64 d).wf = true) :
    ∃ a c, (Instr.lookup 86 (.map (some b)) (.int .i64 d) true).run Tryz.prog w = .ok (.tuple #[.agg #[.int .i64 a, .int .i64 c], .bool (f d).isSome]) w ∧ ∀ p, f d = some p → p = (a, c) := by
  obtain ⟨D, h1, h2, h3⟩ := h
  obtain ⟨v, ps, hr, hv⟩ := h1.look_ok plLaw Tryz.underlying86 (zeroU w) (elemU_mk 0 0) (keyOf_int_mk Tryz.underlying71 hd)
  obtain ⟨a, c, rfl, hz⟩ := elemU_inv hv
  rw [h2] at hr
  refine ⟨a, c, hr, fun p hp => ?_⟩
  obtain ⟨a', c'⟩ := p
  rw [h3 d a' c' hp] at hz
  simp only [dU, Prod.mk.injEq] at hz
  have h4 := hz.1
  simp at h4
  rw [h4.1, h4.2]
theorem OMn.look (h : OMn w b n u) (d : Int) (x : Nat) (hx : u d = some x) (hd : (Lit.int .i64 d).wf = true) :
    (Instr.lookup 68 (.map (some b)) (.int .i64 d) false).run Tryz.prog w = .ok (.map (some x)) w := by
  obtain ⟨D, h1, h3⟩ := h
  obtain ⟨v, ps, hr, hv⟩ := h1.lookup inLaw Tryz.underlying68 (zeroO w) (show elemO (.map none) = some (.nil, []) from rfl) (keyOf_int_mk Tryz.underlying3 hd)
  rw [h3 d x hx] at hv
  rw [elemO_inv hv] at hr
  exact hr
end

/-- The map of maps: all its blocks lie at lo or above, and below hi. -/
structure UsesAt (w : World) (lo hi U : Nat) : Prop where
  ex : ∃ b0 b5 b7 b10, OMn w U 4 (updF (updF (updF (updF (fun _ => none) 0 b0) 5 b5) 7 b7) 10 b10) ∧ UMn w b0 1 (usesP 0) ∧ UMn w b5 1 (usesP 5) ∧ UMn w b7 2 (usesP 7) ∧ UMn w b10 5 (usesP 10) ∧ (U < hi ∧ b0 < hi ∧ b5 < hi ∧ b7 < hi ∧ b10 < hi) ∧ (lo ≤ U ∧ lo ≤ b0 ∧ lo ≤ b5 ∧ lo ≤ b7 ∧ lo ≤ b10)
theorem UsesAt.low {w w' : World} {lo hi U : Nat} (h : UsesAt w lo hi U) (hb : Below hi w w') : UsesAt w' lo hi U := by
  obtain ⟨b0, b5, b7, b10, k0, k1, k2, k3, k4, ⟨l0, l1, l2, l3, l4⟩, r⟩ := h.ex
  exact ⟨b0, b5, b7, b10, k0.keep (hb.block _ l0), k1.keep (hb.block _ l1), k2.keep (hb.block _ l2), k3.keep (hb.block _ l3), k4.keep (hb.block _ l4), ⟨l0, l1, l2, l3, l4⟩, r⟩
theorem wf_small {d : Int} (h0 : 0 ≤ d) (h1 : d ≤ 100) : (Lit.int .i64 d).wf = true := by
  simp [Lit.wf, IntKind.min, IntKind.max, IntKind.signed, IntKind.bits]; omega
theorem UsesAt.look {w : World} {lo hi U : Nat} (h : UsesAt w lo hi U) (k d : Int) (hk : kindI k) (hd : 0 ≤ d ∧ d ≤ 7) :
    ∃ bk a c, (Instr.lookup 68 (.map (some U)) (.int .i64 k) false).run Tryz.prog w = .ok (.map (some bk)) w ∧
      (Instr.lookup 86 (.map (some bk)) (.int .i64 d) true).run Tryz.prog w = .ok (.tuple #[.agg #[.int .i64 a, .int .i64 c], .bool (usesP k d).isSome]) w ∧ ∀ p, usesP k d = some p → p = (a, c) := by
  obtain ⟨b0, b5, b7, b10, k0, k1, k2, k3, k4, _⟩ := h.ex
  have hwd := wf_small hd.1 (show d ≤ 100 by omega)
  rcases hk with rfl | rfl | rfl | rfl
  · obtain ⟨a, c, e1, e2⟩ := k1.look d hwd
    exact ⟨b0, a, c, k0.look 0 b0 rfl (by decide), e1, e2⟩
  · obtain ⟨a, c, e1, e2⟩ := k2.look d hwd
    exact ⟨b5, a, c, k0.look 5 b5 rfl (by decide), e1, e2⟩
  · obtain ⟨a, c, e1, e2⟩ := k3.look d hwd
    exact ⟨b7, a, c, k0.look 7 b7 rfl (by decide), e1, e2⟩
  · obtain ⟨a, c, e1, e2⟩ := k4.look d hwd
    exact ⟨b10, a, c, k0.look 10 b10 rfl (by decide), e1, e2⟩
theorem UMn.ext {w : World} {b n : Nat} {f g : Int → Option (Int × Int)} (h : UMn w b n f) (he : ∀ x, f x = g x) : UMn w b n g := by
  have : f = g := funext he
  rw [← this]
  exact h

set_option maxHeartbeats 8000000 in
theorem places_any (w : World) : Calls Tryz.prog 25 #[] w fun e w' => ∃ U, e = .returned (.map (some U)) ∧ UsesAt w' w.heap.size w'.heap.size U ∧ Below w.heap.size w w' := by
  have hmm := @run_makeMap Tryz.prog
  obtain ⟨U, hU⟩ : ∃ U, w.heap.size = U := ⟨_, rfl⟩
  have HB0 := Lib.hid (show Below w.heap.size w (w.alloc (.map #[] 0)) from (Below.refl _ _).alloc (Nat.le_refl _) _)
  have KO0 := Lib.hid (show OMn (w.alloc (.map #[] 0)) U 0 _ from by rw [← hU]; exact OMn.new w)
  have HU := Lib.hid hU
  go_enter Tryz.func25, Tryz.ntmps25
  go_wp2
  obtain ⟨b0, hb00⟩ : ∃ x, U + 1 = x := ⟨_, rfl⟩
  try rw [hb00]
  have hb0 : (w.alloc (.map #[] 0)).heap.size = b0 := by simp; omega
  clear hb00
  have Hb0 := Lib.hid hb0
  have Kb00 := Lib.hid (show UMn ((w.alloc (.map #[] 0)).alloc (.map #[] 0)) b0 0 _ from by rw [← hb0]; exact UMn.new (w.alloc (.map #[] 0)))
  have hUb0 := Lib.hid (show U < b0 from by have := KO0.out.lt; omega)
  have KO0b0 := Lib.hid (KO0.out.alloc (.map #[] 0))
  have HBb0 := Lib.hid (HB0.out.alloc HB0.out.size (.map #[] 0))
  try rw [hb0]
  clear hb0
  obtain ⟨wb00, rwb00, kwb00, gwb00⟩ := Kb00.out.put (by decide) 0 4 7 (by decide)
  rw [rwb00]
  have Kb01 := Lib.hid kwb00
  have KO0b0x0 := Lib.hid (KO0b0.out.kept gwb00 (by have := hUb0.out; omega))
  have HBwb00 := Lib.hid (below_only HBb0.out gwb00 HBb0.out.size (by have := hUb0.out; have := HU.out; omega))
  clear rwb00 kwb00 gwb00
  go_wp2
  obtain ⟨wob0, rwob0, kwob0, gwob0⟩ := KO0b0x0.out.put (by decide) 0 b0 (by decide)
  rw [rwob0]
  have KOb0y := Lib.hid kwob0
  have Kb0 := Lib.hid (Kb01.out.kept gwob0 (by have := hUb0.out; omega))
  have HBwob0 := Lib.hid (below_only HBwb00.out gwob0 HBwb00.out.size (by have := HU.out; omega))
  clear rwob0 kwob0 gwob0
  go_wp2
  obtain ⟨b5, hb5⟩ : ∃ x, wob0.heap.size = x := ⟨_, rfl⟩
  have Hb5 := Lib.hid hb5
  have Kb50 := Lib.hid (show UMn (wob0.alloc (.map #[] 0)) b5 0 _ from by rw [← hb5]; exact UMn.new wob0)
  have hUb5 := Lib.hid (show U < b5 from by have := KOb0y.out.lt; omega)
  have lb0b5 := Lib.hid (show b0 < b5 from by have := Kb0.out.lt; omega)
  have KOb0yb5 := Lib.hid (KOb0y.out.alloc (.map #[] 0))
  have Kb0b5 := Lib.hid (Kb0.out.alloc (.map #[] 0))
  have HBb5 := Lib.hid (HBwob0.out.alloc HBwob0.out.size (.map #[] 0))
  try rw [hb5]
  clear hb5
  obtain ⟨wb50, rwb50, kwb50, gwb50⟩ := Kb50.out.put (by decide) 0 4 0 (by decide)
  rw [rwb50]
  have Kb51 := Lib.hid kwb50
  have KOb0yb5x0 := Lib.hid (KOb0yb5.out.kept gwb50 (by have := hUb5.out; omega))
  have Kb0b5x0 := Lib.hid (Kb0b5.out.kept gwb50 (by have := lb0b5.out; omega))
  have HBwb50 := Lib.hid (below_only HBb5.out gwb50 HBb5.out.size (by have := hUb5.out; have := HU.out; omega))
  clear rwb50 kwb50 gwb50
  go_wp2
  obtain ⟨wob5, rwob5, kwob5, gwob5⟩ := KOb0yb5x0.out.put (by decide) 5 b5 (by decide)
  rw [rwob5]
  have KOb5y := Lib.hid kwob5
  have Kb5 := Lib.hid (Kb51.out.kept gwob5 (by have := hUb5.out; omega))
  have Kb0nb5 := Lib.hid (Kb0b5x0.out.kept gwob5 (by have := hUb0.out; omega))
  have HBwob5 := Lib.hid (below_only HBwb50.out gwob5 HBwb50.out.size (by have := HU.out; omega))
  clear rwob5 kwob5 gwob5
  clear Kb0
  have Kb0 := Kb0nb5
  go_wp2
  obtain ⟨b7, hb7⟩ : ∃ x, wob5.heap.size = x := ⟨_, rfl⟩
  have Hb7 := Lib.hid hb7
  have Kb70 := Lib.hid (show UMn (wob5.alloc (.map #[] 0)) b7 0 _ from by rw [← hb7]; exact UMn.new wob5)
  have hUb7 := Lib.hid (show U < b7 from by have := KOb5y.out.lt; omega)
  have lb0b7 := Lib.hid (show b0 < b7 from by have := Kb0.out.lt; omega)
  have lb5b7 := Lib.hid (show b5 < b7 from by have := Kb5.out.lt; omega)
  have KOb5yb7 := Lib.hid (KOb5y.out.alloc (.map #[] 0))
  have Kb0b7 := Lib.hid (Kb0.out.alloc (.map #[] 0))
  have Kb5b7 := Lib.hid (Kb5.out.alloc (.map #[] 0))
  have HBb7 := Lib.hid (HBwob5.out.alloc HBwob5.out.size (.map #[] 0))
  try rw [hb7]
  clear hb7
  obtain ⟨wb70, rwb70, kwb70, gwb70⟩ := Kb70.out.put (by decide) 0 8 1 (by decide)
  rw [rwb70]
  have Kb71 := Lib.hid kwb70
  have KOb5yb7x0 := Lib.hid (KOb5yb7.out.kept gwb70 (by have := hUb7.out; omega))
  have Kb0b7x0 := Lib.hid (Kb0b7.out.kept gwb70 (by have := lb0b7.out; omega))
  have Kb5b7x0 := Lib.hid (Kb5b7.out.kept gwb70 (by have := lb5b7.out; omega))
  have HBwb70 := Lib.hid (below_only HBb7.out gwb70 HBb7.out.size (by have := hUb7.out; have := HU.out; omega))
  clear rwb70 kwb70 gwb70
  go_wp2
  obtain ⟨wb71, rwb71, kwb71, gwb71⟩ := Kb71.out.put (by decide) 1 4 0 (by decide)
  rw [rwb71]
  have Kb72 := Lib.hid kwb71
  have KOb5yb7x0x1 := Lib.hid (KOb5yb7x0.out.kept gwb71 (by have := hUb7.out; omega))
  have Kb0b7x0x1 := Lib.hid (Kb0b7x0.out.kept gwb71 (by have := lb0b7.out; omega))
  have Kb5b7x0x1 := Lib.hid (Kb5b7x0.out.kept gwb71 (by have := lb5b7.out; omega))
  have HBwb71 := Lib.hid (below_only HBwb70.out gwb71 HBwb70.out.size (by have := hUb7.out; have := HU.out; omega))
  clear rwb71 kwb71 gwb71
  go_wp2
  obtain ⟨wob7, rwob7, kwob7, gwob7⟩ := KOb5yb7x0x1.out.put (by decide) 7 b7 (by decide)
  rw [rwob7]
  have KOb7y := Lib.hid kwob7
  have Kb7 := Lib.hid (Kb72.out.kept gwob7 (by have := hUb7.out; omega))
  have Kb0nb7 := Lib.hid (Kb0b7x0x1.out.kept gwob7 (by have := hUb0.out; omega))
  have Kb5nb7 := Lib.hid (Kb5b7x0x1.out.kept gwob7 (by have := hUb5.out; omega))
  have HBwob7 := Lib.hid (below_only HBwb71.out gwob7 HBwb71.out.size (by have := HU.out; omega))
  clear rwob7 kwob7 gwob7
  clear Kb0
  have Kb0 := Kb0nb7
  clear Kb5
  have Kb5 := Kb5nb7
  go_wp2
  obtain ⟨b10, hb10⟩ : ∃ x, wob7.heap.size = x := ⟨_, rfl⟩
  have Hb10 := Lib.hid hb10
  have Kb100 := Lib.hid (show UMn (wob7.alloc (.map #[] 0)) b10 0 _ from by rw [← hb10]; exact UMn.new wob7)
  have hUb10 := Lib.hid (show U < b10 from by have := KOb7y.out.lt; omega)
  have lb0b10 := Lib.hid (show b0 < b10 from by have := Kb0.out.lt; omega)
  have lb5b10 := Lib.hid (show b5 < b10 from by have := Kb5.out.lt; omega)
  have lb7b10 := Lib.hid (show b7 < b10 from by have := Kb7.out.lt; omega)
  have KOb7yb10 := Lib.hid (KOb7y.out.alloc (.map #[] 0))
  have Kb0b10 := Lib.hid (Kb0.out.alloc (.map #[] 0))
  have Kb5b10 := Lib.hid (Kb5.out.alloc (.map #[] 0))
  have Kb7b10 := Lib.hid (Kb7.out.alloc (.map #[] 0))
  have HBb10 := Lib.hid (HBwob7.out.alloc HBwob7.out.size (.map #[] 0))
  try rw [hb10]
  clear hb10
  obtain ⟨wb100, rwb100, kwb100, gwb100⟩ := Kb100.out.put (by decide) 2 10 3 (by decide)
  rw [rwb100]
  have Kb101 := Lib.hid kwb100
  have KOb7yb10x0 := Lib.hid (KOb7yb10.out.kept gwb100 (by have := hUb10.out; omega))
  have Kb0b10x0 := Lib.hid (Kb0b10.out.kept gwb100 (by have := lb0b10.out; omega))
  have Kb5b10x0 := Lib.hid (Kb5b10.out.kept gwb100 (by have := lb5b10.out; omega))
  have Kb7b10x0 := Lib.hid (Kb7b10.out.kept gwb100 (by have := lb7b10.out; omega))
  have HBwb100 := Lib.hid (below_only HBb10.out gwb100 HBb10.out.size (by have := hUb10.out; have := HU.out; omega))
  clear rwb100 kwb100 gwb100
  go_wp2
  obtain ⟨wb101, rwb101, kwb101, gwb101⟩ := Kb101.out.put (by decide) 3 4 6 (by decide)
  rw [rwb101]
  have Kb102 := Lib.hid kwb101
  have KOb7yb10x0x1 := Lib.hid (KOb7yb10x0.out.kept gwb101 (by have := hUb10.out; omega))
  have Kb0b10x0x1 := Lib.hid (Kb0b10x0.out.kept gwb101 (by have := lb0b10.out; omega))
  have Kb5b10x0x1 := Lib.hid (Kb5b10x0.out.kept gwb101 (by have := lb5b10.out; omega))
  have Kb7b10x0x1 := Lib.hid (Kb7b10x0.out.kept gwb101 (by have := lb7b10.out; omega))
  have HBwb101 := Lib.hid (below_only HBwb100.out gwb101 HBwb100.out.size (by have := hUb10.out; have := HU.out; omega))
  clear rwb101 kwb101 gwb101
  go_wp2
  obtain ⟨wb102, rwb102, kwb102, gwb102⟩ := Kb102.out.put (by decide) 4 0 5 (by decide)
  rw [rwb102]
  have Kb103 := Lib.hid kwb102
  have KOb7yb10x0x1x2 := Lib.hid (KOb7yb10x0x1.out.kept gwb102 (by have := hUb10.out; omega))
  have Kb0b10x0x1x2 := Lib.hid (Kb0b10x0x1.out.kept gwb102 (by have := lb0b10.out; omega))
  have Kb5b10x0x1x2 := Lib.hid (Kb5b10x0x1.out.kept gwb102 (by have := lb5b10.out; omega))
  have Kb7b10x0x1x2 := Lib.hid (Kb7b10x0x1.out.kept gwb102 (by have := lb7b10.out; omega))
  have HBwb102 := Lib.hid (below_only HBwb101.out gwb102 HBwb101.out.size (by have := hUb10.out; have := HU.out; omega))
  clear rwb102 kwb102 gwb102
  go_wp2
  obtain ⟨wb103, rwb103, kwb103, gwb103⟩ := Kb103.out.put (by decide) 5 11 3 (by decide)
  rw [rwb103]
  have Kb104 := Lib.hid kwb103
  have KOb7yb10x0x1x2x3 := Lib.hid (KOb7yb10x0x1x2.out.kept gwb103 (by have := hUb10.out; omega))
  have Kb0b10x0x1x2x3 := Lib.hid (Kb0b10x0x1x2.out.kept gwb103 (by have := lb0b10.out; omega))
  have Kb5b10x0x1x2x3 := Lib.hid (Kb5b10x0x1x2.out.kept gwb103 (by have := lb5b10.out; omega))
  have Kb7b10x0x1x2x3 := Lib.hid (Kb7b10x0x1x2.out.kept gwb103 (by have := lb7b10.out; omega))
  have HBwb103 := Lib.hid (below_only HBwb102.out gwb103 HBwb102.out.size (by have := hUb10.out; have := HU.out; omega))
  clear rwb103 kwb103 gwb103
  go_wp2
  obtain ⟨wb104, rwb104, kwb104, gwb104⟩ := Kb104.out.put (by decide) 0 4 6 (by decide)
  rw [rwb104]
  have Kb105 := Lib.hid kwb104
  have KOb7yb10x0x1x2x3x4 := Lib.hid (KOb7yb10x0x1x2x3.out.kept gwb104 (by have := hUb10.out; omega))
  have Kb0b10x0x1x2x3x4 := Lib.hid (Kb0b10x0x1x2x3.out.kept gwb104 (by have := lb0b10.out; omega))
  have Kb5b10x0x1x2x3x4 := Lib.hid (Kb5b10x0x1x2x3.out.kept gwb104 (by have := lb5b10.out; omega))
  have Kb7b10x0x1x2x3x4 := Lib.hid (Kb7b10x0x1x2x3.out.kept gwb104 (by have := lb7b10.out; omega))
  have HBwb104 := Lib.hid (below_only HBwb103.out gwb104 HBwb103.out.size (by have := hUb10.out; have := HU.out; omega))
  clear rwb104 kwb104 gwb104
  go_wp2
  obtain ⟨wob10, rwob10, kwob10, gwob10⟩ := KOb7yb10x0x1x2x3x4.out.put (by decide) 10 b10 (by decide)
  rw [rwob10]
  have KOb10y := Lib.hid kwob10
  have Kb10 := Lib.hid (Kb105.out.kept gwob10 (by have := hUb10.out; omega))
  have Kb0nb10 := Lib.hid (Kb0b10x0x1x2x3x4.out.kept gwob10 (by have := hUb0.out; omega))
  have Kb5nb10 := Lib.hid (Kb5b10x0x1x2x3x4.out.kept gwob10 (by have := hUb5.out; omega))
  have Kb7nb10 := Lib.hid (Kb7b10x0x1x2x3x4.out.kept gwob10 (by have := hUb7.out; omega))
  have HBwob10 := Lib.hid (below_only HBwb104.out gwob10 HBwb104.out.size (by have := HU.out; omega))
  clear rwob10 kwob10 gwob10
  clear Kb0
  have Kb0 := Kb0nb10
  clear Kb5
  have Kb5 := Kb5nb10
  clear Kb7
  have Kb7 := Kb7nb10
  go_wp2
  go_ret
  have l0 := KOb10y.out.lt
  have l1 := Kb0.out.lt
  have l2 := Kb5.out.lt
  have l3 := Kb7.out.lt
  have l4 := Kb10.out.lt
  have u0 := hUb0.out
  have u1 := hUb5.out
  have u2 := hUb7.out
  have u3 := hUb10.out
  have uu := HU.out
  refine ⟨U, rfl, ⟨b0, b5, b7, b10, KOb10y.out, Kb0.out.ext ?_, Kb5.out.ext ?_, Kb7.out.ext ?_, Kb10.out.ext ?_, ⟨l0, l1, l2, l3, l4⟩, ⟨by omega, by omega, by omega, by omega, by omega⟩⟩, HBwob10.out⟩
  all_goals
    intro x
    simp only [updF, usesP]
    by_cases e0 : x = 0 <;> by_cases e1 : x = 1 <;> by_cases e2 : x = 2 <;> by_cases e3 : x = 3 <;> by_cases e4 : x = 4 <;> by_cases e5 : x = 5
    all_goals first | (exfalso; omega) | (simp [e0, e1, e2, e3, e4, e5]; done) | (subst_vars; rfl)
end Go.Proofs.YtmimadkepflmlaaGreatDoor

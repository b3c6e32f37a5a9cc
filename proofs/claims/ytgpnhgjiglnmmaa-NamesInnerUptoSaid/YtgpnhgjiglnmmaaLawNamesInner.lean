/-
  The statement of NamesInner (hexaplalaw04), out of its walk. Conditions: the arguments hold at most 1048576 values and letters.
-/
import Derived.Test.YtgpnhgjiglnmmaaRows
import Derived.Test.YtgpnhgjiglnmmaaNamesX
import Derived.ProofKit
import Derived.OpenShut
import Derived.ShutString
import Derived.ChangeOld
import Derived.Below
import Derived.JoinedCond
namespace Go.Proofs.Ytgpnhgjiglnmmaa.namesInner
open Go.ChangeShapes Go.WideShapes Go.ChangeAt Go.RowKit
open Go.ChangeMaps (open_string shut_string)
set_option linter.unusedVariables false

theorem own : ownKnob Try.prog.godebug = none := by kernel_rfl
theorem laidOut : laidOutB Try.prog = true := by kernel_rfl

theorem one_le {H : Type} (d : DataW H) : 1 ≤ Rows.uptoBulk d := by
  cases d with
  | lit l => cases l <;> simp [Rows.uptoBulk]
  | nil => simp [Rows.uptoBulk]
  | ptr d => simp [Rows.uptoBulk]
  | slice elems spare => simp [Rows.uptoBulk]
  | agg parts => simp [Rows.uptoBulk]
  | iface t d => simp [Rows.uptoBulk]
  | map entries => simp [Rows.uptoBulk]
  | held h => simp [Rows.uptoBulk]
theorem part_le {H : Type} {d : DataW H} {l : List (DataW H)} (h : d ∈ l) : Rows.uptoBulk d ≤ Rows.uptoBulkAll l := by
  induction l with
  | nil => cases h
  | cons x r ih =>
    simp only [Rows.uptoBulkAll]
    cases List.mem_cons.1 h with
    | inl e => subst e; omega
    | inr e => have := ih e; omega
theorem length_le {H : Type} (l : List (DataW H)) : l.length ≤ Rows.uptoBulkAll l := by
  induction l with
  | nil => simp [Rows.uptoBulkAll]
  | cons x r ih => have := one_le x; simp only [Rows.uptoBulkAll, List.length_cons]; omega
theorem slice_le {H : Type} (elems spare : List (DataW H)) : elems.length + spare.length + 1 ≤ Rows.uptoBulk (.slice elems spare) := by
  have h1 := length_le elems
  have h2 := length_le spare
  simp only [Rows.uptoBulk]
  omega
theorem short_string {H : Type} {l : List (DataW H)} (hk : Rows.uptoSmall H l = true) (s : ByteArray) (hm : DataW.lit (.string s.data.toList) ∈ l) : s.size ≤ 1048576 := by
  have h1 := of_decide_eq_true hk
  have h2 := part_le hm
  simp only [Rows.uptoBulk] at h2
  have h3 : s.data.toList.length = s.size := by simp
  omega
theorem short_slice {H : Type} {l : List (DataW H)} (hk : Rows.uptoSmall H l = true) (elems spare : List (DataW H)) (hm : DataW.slice elems spare ∈ l) : elems.length ≤ 1048576 := by
  have h1 := of_decide_eq_true hk
  have h2 := part_le hm
  have h3 := slice_le elems spare
  omega

theorem short_deed {H : Type} {l : List (DataW H)} (hk : Rows.uptoSmall H l = true) {xs : List Dd} {rest : List (DataW H)} (hm : DataW.slice (xs.map dD) rest ∈ l) {x : Dd} (hx : x ∈ xs) : x.p.size ≤ 1048576 ∧ x.s.size ≤ 1048576 := by
  have h1 := of_decide_eq_true hk
  have h2 := part_le hm
  have h3 : Rows.uptoBulk (dD x : DataW H) ≤ Rows.uptoBulkAll (xs.map dD) := part_le (List.mem_map.2 ⟨x, hx, rfl⟩)
  simp only [Rows.uptoBulk, Rows.uptoBulkAll, dD] at h2 h3
  have h4 : x.p.data.toList.length = x.p.size := by simp
  have h5 : x.s.data.toList.length = x.s.size := by simp
  omega

theorem contract (H : Type) (enc : TypeId × Value → H) (W : World) (base : Nat) (args : Array Value) (ds gs : List (DataW H)) (before : List MemPlace)
    (hval : ∀ (j : Nat) t v, Try.f7.params[j]? = some t → args[j]? = some v → Value.okWide Try.prog W .any base t v)
    (hW : DataW.Whole enc Try.prog Try.f7.params.toList Rows.namesInnerSpec.vars false W args.toList ds gs before) (hk : Rows.uptoSmall H (ds ++ gs) = true) :
    Calls Try.prog 7 args W fun e W' => ∃ v, e = .returned v ∧ Rows.namesInnerSpec.post enc Try.prog Try.f7 false true false false W args v W' := by
  have hW' := hW
  obtain ⟨p, q, hA0, hV, rfl, hfz, hnd⟩ := hW
  have hA : DataW.TrodAll enc Try.prog W 0 (fun _ => true) true Try.f7.params.toList args.toList ds p := hA0
  rw [Try.params7] at hA hval
  obtain ⟨v0, vs0, d0, ds0, p0, q0, hargs, rfl, rfl, h0, r0⟩ := trodAll_cons hA
  obtain ⟨v1, vs1, d1, ds1, p1, q1, rfl, rfl, rfl, h1, r1⟩ := trodAll_cons r0
  obtain ⟨v2, vs2, d2, ds2, p2, q2, rfl, rfl, rfl, h2, r2⟩ := trodAll_cons r1
  obtain ⟨rfl, rfl, rfl⟩ := trodAll_nil r2
  obtain rfl : args = #[v0, v1, v2] := by cases args; simp_all
  obtain ⟨rfl, rfl⟩ := trodVars_none hV
  have k0 := h0
  have lt0 : ∀ x ∈ p0, x.block < W.heap.size := by obtain ⟨m, hm⟩ := k0; exact DataW.trod_lt m _ _ _ hm
  obtain ⟨a0, len0, cap0, rfl⟩ := okWide_slice Try.underlying29 (hval 0 29 v0 rfl rfl)
  obtain ⟨z0, w0, s0, o0⟩ : ∃ zs : List Dd, DRead W (.slice a0 len0 cap0) zs ∧ zs.length ≤ 1048576 ∧ ∀ x ∈ zs, okD x := by
    obtain ⟨fuel, hf⟩ := h0
    obtain ⟨zs, hr, hw, hx⟩ := open_deeds (by simpa [Value.cells] using hf)
    rcases hx with rfl | ⟨rest, hx⟩
    · exact ⟨[], hr, by simp, fun x hx => (by cases hx)⟩
    · obtain rfl : d0 = .slice (zs.map dD) rest := hx
      refine ⟨zs, hr, by simpa using short_slice hk (zs.map dD) rest (by simp), fun x hxm => ?_⟩
      obtain ⟨b1, b2⟩ := short_deed hk (xs := zs) (rest := rest) (by simp) hxm
      have hwx := hw x hxm
      simp [Lit.wf, IntKind.min, IntKind.max, IntKind.signed, IntKind.bits] at hwx
      exact ⟨by omega, by omega, b1, b2⟩
  have k1 := h1
  have lt1 : ∀ x ∈ p1, x.block < W.heap.size := by obtain ⟨m, hm⟩ := k1; exact DataW.trod_lt m _ _ _ hm
  obtain ⟨a1, len1, cap1, rfl⟩ := okWide_slice Try.underlying29 (hval 1 29 v1 rfl rfl)
  obtain ⟨z1, w1, s1, o1⟩ : ∃ zs : List Dd, DRead W (.slice a1 len1 cap1) zs ∧ zs.length ≤ 1048576 ∧ ∀ x ∈ zs, okD x := by
    obtain ⟨fuel, hf⟩ := h1
    obtain ⟨zs, hr, hw, hx⟩ := open_deeds (by simpa [Value.cells] using hf)
    rcases hx with rfl | ⟨rest, hx⟩
    · exact ⟨[], hr, by simp, fun x hx => (by cases hx)⟩
    · obtain rfl : d1 = .slice (zs.map dD) rest := hx
      refine ⟨zs, hr, by simpa using short_slice hk (zs.map dD) rest (by simp), fun x hxm => ?_⟩
      obtain ⟨b1, b2⟩ := short_deed hk (xs := zs) (rest := rest) (by simp) hxm
      have hwx := hw x hxm
      simp [Lit.wf, IntKind.min, IntKind.max, IntKind.signed, IntKind.bits] at hwx
      exact ⟨by omega, by omega, b1, b2⟩
  have k2 := h2
  have lt2 : ∀ x ∈ p2, x.block < W.heap.size := by obtain ⟨m, hm⟩ := k2; exact DataW.trod_lt m _ _ _ hm
  obtain ⟨a2, rfl, e2, _, w2⟩ := open_string Try.underlying9 (hval 2 9 v2 rfl rfl) h2
  have s2 : a2.size ≤ 1048576 := short_string hk a2 (by rw [← e2]; simp)
  clear hA0
  refine (walk_NamesInner (.slice a0 len0 cap0) z0 o0 s0 (.slice a1 len1 cap1) z1 o1 s1 a2 s2 W w0 w1).mono fun e W' ⟨he, bel⟩ => ?_
  subst he
  exact ⟨_, rfl, _, _, _, [], _, [], hW', trodAll_mk1 (shut_bool Try.underlying4 _), (trodAll_cons_mk (Below.trod laidOut (by kernel_rfl) (of_decide_eq_true (by kernel_rfl)) k0 bel lt0) (trodAll_cons_mk (Below.trod laidOut (by kernel_rfl) (of_decide_eq_true (by kernel_rfl)) k1 bel lt1) (trodAll_cons_mk (Below.trod laidOut (by kernel_rfl) (of_decide_eq_true (by kernel_rfl)) k2 bel lt2) trodAll_mk0))), rfl, bel.frame _, fun h => by cases h⟩

set_option maxRecDepth 100000 in
theorem lifted (os : Os) (started : os.Started) (H : Type) (enc : TypeId × Value → H) (F : Stop.Interp) :
    ReturnsInHanded {} Try.checked os 7 .any ((Rows.OpenSpec.upto Rows.namesInnerSpec).pre6 enc Try.prog Try.f7 Rows.namesInnerUptoRow.domain false) (((Rows.OpenSpec.upto Rows.namesInnerSpec).at F).post enc Try.prog Try.f7 false true false false) := by
  refine returnsInHanded_of_cond (C := Try.checked) (s := Rows.OpenSpec.upto Rows.namesInnerSpec) (k := Rows.uptoSmall) rfl own started (by kernel_rfl) Try.func7
    (OpenSpec.witness (enc := enc) (C := Try.checked) (s := Rows.OpenSpec.upto Rows.namesInnerSpec) (k := Rows.uptoSmall) rfl false ⟨#[], #[.slice none 0 0, .slice none 0 0, .string ByteArray.empty], []⟩ 8 (by kernel_rfl) (by kernel_rfl) (by kernel_rfl)
      (x := ([.nil, .nil, .lit (.string [])], [], [])) (by kernel_rfl) rfl (by kernel_rfl)) ?_
  intro W base args ds gs before hval hW _ hk _
  exact contract H enc W base args ds gs before hval hW hk

theorem proved : Rows.NamesInnerUptoSaid :=
  OpenClaim.holds_of_cond 7 Try.f7 rfl rfl rfl rfl rfl rfl rfl ⟨rfl, rfl, rfl, rfl, rfl⟩ rfl rfl rfl rfl rfl (by kernel_rfl) Try.func7 (by kernel_rfl)
    (of_decide_eq_true (by kernel_rfl)) (by unfold Func.isWrapper; first | (rw [if_pos (by decide +kernel)]; kernel_rfl) | (rw [if_neg (by decide +kernel)]; exact ⟨rfl, rfl⟩))
    (fun os started H enc _ F => lifted os started H enc F)
#print axioms proved
end Go.Proofs.Ytgpnhgjiglnmmaa.namesInner

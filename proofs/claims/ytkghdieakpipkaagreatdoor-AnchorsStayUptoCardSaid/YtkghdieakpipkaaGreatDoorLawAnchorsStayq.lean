/-
  The statement of AnchorsStay (hexaplalaw10) as its card, out of its walk. Conditions: the variables of the library that its row lists hold what the program's text lays; the arguments hold at most 1048576 values and letters.
-/
import Derived.Test.YtkghdieakpipkaaGreatDoorAnXvq
import Derived.Test.YtkghdieakpipkaaGreatDoorAnSq
import Derived.ChangeOld
import Derived.Below
import Derived.SizedLaws
namespace Go.Proofs.YtkghdieakpipkaaGreatDoor.anchorsStay
open Go.ChangeShapes Go.WideShapes Go.ChangeAt Go.RowKit
open Go.ChangeMaps (open_string shut_string)
set_option linter.unusedVariables false
set_option maxRecDepth 100000

theorem one_le {H : Type} (d : DataW H) : 1 ≤ Rows.uptoBulk d := by
  cases d with
  | lit l => cases l <;> simp [Rows.uptoBulk]
  | nil => simp [Rows.uptoBulk]
  | ptr d => simp [Rows.uptoBulk]
  | slice elems spare => simp [Rows.uptoBulk]
  | agg parts => simp [Rows.uptoBulk]
  | iface t d => simp [Rows.uptoBulk]
  | map entries => simp [Rows.uptoBulk]
  | held h => simp [Rows.uptoBulk]
theorem part_le {H : Type} {d : DataW H} {l : List (DataW H)} (h : d ∈ l) : Rows.uptoBulk d ≤ Rows.uptoBulkAll l := by
  induction l with
  | nil => cases h
  | cons x r ih =>
    simp only [Rows.uptoBulkAll]
    cases List.mem_cons.1 h with
    | inl e => subst e; omega
    | inr e => have := ih e; omega
theorem short_event {H : Type} {l : List (DataW H)} (hk : Rows.uptoSmall H l = true) {xs : List Ev} {rest : List (DataW H)} (hm : DataW.slice (xs.map dE) rest ∈ l) {x : Ev} (hx : x ∈ xs) : x.t.size ≤ 1048576 ∧ x.v.size ≤ 1048576 := by
  have h1 := of_decide_eq_true hk
  have h2 := part_le hm
  have h3 : Rows.uptoBulk (dE x : DataW H) ≤ Rows.uptoBulkAll (xs.map dE) := part_le (List.mem_map.2 ⟨x, hx, rfl⟩)
  simp only [Rows.uptoBulk, Rows.uptoBulkAll, dE] at h2 h3
  have h4 : x.t.data.toList.length = x.t.size := by simp
  have h5 : x.v.data.toList.length = x.v.size := by simp
  omega

theorem short_kdeed {H : Type} {l : List (DataW H)} (hk : Rows.uptoSmall H l = true) {xs : List Dk} {rest : List (DataW H)} (hm : DataW.slice (xs.map dK) rest ∈ l) {x : Dk} (hx : x ∈ xs) : upK x := by
  have h1 := of_decide_eq_true hk
  have h2 := part_le hm
  have h3 : Rows.uptoBulk (dK x : DataW H) ≤ Rows.uptoBulkAll (xs.map dK) := part_le (List.mem_map.2 ⟨x, hx, rfl⟩)
  simp only [Rows.uptoBulk, Rows.uptoBulkAll, dK, dE] at h2 h3
  have h4 : x.x.t.data.toList.length = x.x.t.size := by simp
  have h5 : x.x.v.data.toList.length = x.x.v.size := by simp
  have h6 : x.nm.data.toList.length = x.nm.size := by simp
  unfold upK
  omega

theorem short_ev {H : Type} {l : List (DataW H)} (hk : Rows.uptoSmall H l = true) {x : Ev} (hm : dE x ∈ l) : x.t.size ≤ 1048576 ∧ x.v.size ≤ 1048576 := by
  have h1 := of_decide_eq_true hk
  have h2 := part_le hm
  simp only [Rows.uptoBulk, Rows.uptoBulkAll, dE] at h2
  have h4 : x.t.data.toList.length = x.t.size := by simp
  have h5 : x.v.data.toList.length = x.v.size := by simp
  omega

theorem contract (H : Type) (enc : TypeId × Value → H) (W : World) (base : Nat) (args : Array Value) (ds gs : List (DataW H)) (before : List MemPlace)
    (hval : ∀ (j : Nat) t v, Tryz.f6.params[j]? = some t → args[j]? = some v → Value.okWide Tryz.prog W .any base t v)
    (hW : DataW.Whole enc Tryz.prog Tryz.f6.params.toList Rows.anchorsStaySpec.vars false W args.toList ds gs before)
    (hsz : (DataW.weightsEach Tryz.prog (Tryz.f6.params.toList ++ Rows.anchorsStaySpec.plain.varTypes Tryz.prog) (ds ++ gs)).all (· ≤ reachBytes) = true) (hstd : Nm.StdW W) (hk : Rows.uptoSmall H (ds ++ gs) = true) :
    Calls Tryz.prog 6 args W fun e W' => ∃ v, e = .returned v ∧ Rows.anchorsStaySpec.post enc Tryz.prog Tryz.f6 false true false false W args v W' := by
  have hW' := hW
  obtain ⟨p, q, hA0, hV, rfl, hfz, hnd⟩ := hW
  have hA : DataW.TrodAll enc Tryz.prog W 0 (fun _ => true) true Tryz.f6.params.toList args.toList ds p := hA0
  rw [Tryz.params6] at hA hval hsz
  obtain ⟨v0, vs0, d0, ds0, p0, q0, hargs, rfl, rfl, h0, r0⟩ := trodAll_cons hA
  obtain ⟨v1, vs1, d1, ds1, p1, q1, rfl, rfl, rfl, h1, r1⟩ := trodAll_cons r0
  obtain ⟨rfl, rfl, rfl⟩ := trodAll_nil r1
  obtain rfl : args = #[v0, v1] := by cases args; simp_all
  obtain ⟨rfl, rfl⟩ := trodVars_none hV
  have k0 := h0
  have lt0 : ∀ x ∈ p0, x.block < W.heap.size := by obtain ⟨m, hm⟩ := k0; exact DataW.trod_lt m _ _ _ hm
  obtain ⟨a0, len0, cap0, rfl⟩ := okWide_slice Tryz.underlying22 (hval 0 22 v0 rfl rfl)
  obtain ⟨z0, w0, n0, o0, b0⟩ : ∃ zs : List Dk, KRead W (.slice a0 len0 cap0) zs ∧ zs.length ≤ 4611686018427387904 ∧ (∀ d ∈ zs, okK d) ∧ ∀ d ∈ zs, upK d := by
    obtain ⟨fuel, hf⟩ := h0
    obtain ⟨zs, hr, hw, hx⟩ := open_kdeeds (by simpa [Value.cells] using hf)
    rcases hx with rfl | ⟨rest, hx⟩
    · exact ⟨[], hr, by simp, fun x hx => (by cases hx), fun x hx => (by cases hx)⟩
    · obtain rfl : d0 = .slice (zs.map dK) rest := hx
      obtain ⟨s1, s2⟩ := sized_kdeeds hsz (j := 0) (xs := zs) (rest := rest) rfl rfl hw
      exact ⟨zs, hr, s1, s2, fun x hx => short_kdeed hk (xs := zs) (rest := rest) (by simp) hx⟩
  have k1 := h1
  have lt1 : ∀ x ∈ p1, x.block < W.heap.size := by obtain ⟨m, hm⟩ := k1; exact DataW.trod_lt m _ _ _ hm
  obtain ⟨cs1, rfl, sz1⟩ := okWide_struct Tryz.underlying31 (hval 1 31 v1 rfl rfl)
  obtain ⟨x1, e1, o1, b1⟩ : ∃ x : Ev, cs1 = #[.int .i64 x.k, .string x.t, .string x.v] ∧ okE x ∧ (x.t.size ≤ 1048576 ∧ x.v.size ≤ 1048576) := by
    obtain ⟨fuel, hf⟩ := h1
    obtain ⟨x, hc, hd, hw⟩ := event_one hf
    refine ⟨x, by simp [Value.cells] at hc; cases cs1; simp_all, ?_, short_ev hk (x := x) (by rw [← hd]; simp)⟩
    exact sized_event hsz (j := 1) rfl (by rw [← hd]; rfl) hw
  subst e1
  clear hA0
  refine (walk_AnchorsStay (.slice a0 len0 cap0) z0 o0 n0 b0 x1 o1 b1 W hstd w0).mono fun e W' ⟨he, bel⟩ => ?_
  subst he
  exact ⟨_, rfl, _, _, _, [], _, [], hW', trodAll_mk1 (shut_bool Tryz.underlying4 _), (trodAll_cons_mk (Below.trod laidOut (by kernel_rfl) (of_decide_eq_true (by kernel_rfl)) k0 bel lt0) (trodAll_cons_mk (Below.trod laidOut (by kernel_rfl) (of_decide_eq_true (by kernel_rfl)) k1 bel lt1) trodAll_mk0)), rfl, bel.frame _, fun h => by cases h⟩

theorem reads (os : Os) {H : Type} (enc : TypeId × Value → H) : ∃ places, DataW.whole enc Tryz.prog ((World.laidAll Tryz.prog os laidL).forCall (fun _ _ => 0) ⟨#[], #[.slice none 0 0, .agg #[.int .i64 0, .string ByteArray.empty, .string ByteArray.empty]], []⟩).memory Tryz.f6.params.toList Rows.anchorsStaySpec.vars false #[.slice none 0 0, .agg #[.int .i64 0, .string ByteArray.empty, .string ByteArray.empty]].toList 8 = some ([.nil, .agg [.lit (.int .i64 0), .lit (.string []), .lit (.string [])]], [], places) :=
  ⟨[], by kernel_rfl⟩


theorem lifted (os : Os) (started : os.Started) (H : Type) (enc : TypeId × Value → H) (F : Stop.Interp) :
    ReturnsInHanded {} Tryz.checked os 6 .any ((Rows.OpenSpec.upto Rows.anchorsStaySpec).preRow enc Tryz.prog Tryz.f6 Rows.anchorsStayUptoRow.domain false Rows.anchorsStayUptoRow.laid) (((Rows.OpenSpec.upto Rows.anchorsStaySpec).at F).post enc Tryz.prog Tryz.f6 false true false false) := by
  obtain ⟨places, hx⟩ := reads os enc
  have hok : Input.okWideB Tryz.checked.prog ((World.laidAll Tryz.prog os laidL).forCall (fun _ _ => 0) ⟨#[], #[.slice none 0 0, .agg #[.int .i64 0, .string ByteArray.empty, .string ByteArray.empty]], []⟩) 6 ⟨#[], #[.slice none 0 0, .agg #[.int .i64 0, .string ByteArray.empty, .string ByteArray.empty]], []⟩ = true := by kernel_rfl
  refine returnsInHanded_of_row (C := Tryz.checked) (s := Rows.OpenSpec.upto Rows.anchorsStaySpec) own started (by kernel_rfl) Tryz.func6
    ⟨World.laidAll Tryz.prog os laidL, fun _ _ => 0, ⟨#[], #[.slice none 0 0, .agg #[.int .i64 0, .string ByteArray.empty, .string ByteArray.empty]], []⟩, World.laidAll_os _ _ _, shapedW os _, (Input.okWide_of_okWideB (base := 0) hok).1, (Input.okWide_of_okWideB hok).2,
      OpenSpec.preRow_of_cond 8 hx (by kernel_rfl) (fun k hk => by cases hk; kernel_rfl) (by kernel_rfl) (laid_met os _),
      by simp only [Assume.holds]; exact ⟨by simp, by simp, by simp, by simp, by simp⟩⟩ ?_
  intro W base args ds gs before hval hW _ hk hsz hL hsh _
  exact contract H enc W base args ds gs before hval hW hsz (std_of hL hsh) (hk _ rfl)

theorem said : Rows.AnchorsStayUptoSaid :=
  OpenClaim.holds_of_cond 6 Tryz.f6 rfl rfl rfl rfl rfl rfl rfl ⟨rfl, rfl, rfl, rfl, rfl⟩ rfl rfl rfl rfl rfl (by kernel_rfl) Tryz.func6 (by kernel_rfl)
    (of_decide_eq_true (by kernel_rfl)) (by unfold Func.isWrapper; first | (rw [if_pos (by decide +kernel)]; kernel_rfl) | (rw [if_neg (by decide +kernel)]; exact ⟨rfl, rfl⟩))
    (fun os started H enc _ F => by rw [OpenClaim.pre_eq_preRow]; exact lifted os started H enc F)

theorem plain (f : FuncId) (fn : Func) (hf : Tryz.pinned.checked.prog.funcNamed "hexapla/hexaplalaw10.AnchorsStay" = some f) (hfn : Tryz.pinned.checked.prog.funcs[f]? = some fn) :
    true = Tryz.pinned.checked.prog.looks [] ∧ ∀ (j : Nat) t, fn.params[j]? = some t → Tryz.pinned.checked.prog.wantsStandIn t = false := by
  obtain rfl : f = 6 := Option.some.inj ((show Tryz.prog.funcNamed "hexapla/hexaplalaw10.AnchorsStay" = some 6 by kernel_rfl).symm.trans hf) |>.symm
  obtain rfl : fn = Tryz.f6 := (Option.some.inj (Tryz.func6.symm.trans hfn)).symm
  refine ⟨by kernel_rfl, fun j t ht => ?_⟩
  rw [Tryz.params6] at ht
  have hm : t ∈ [22, 31] := by simpa using Array.mem_of_getElem? ht
  have hall : ([22, 31].all fun u => !Tryz.prog.wantsStandIn u) = true := by kernel_rfl
  exact (show Tryz.prog.wantsStandIn t = false by simpa using List.all_eq_true.1 hall t hm)

theorem proved : Rows.AnchorsStayUptoCardSaid :=
  Claim7.holds_tied_plain_at .later [] _ _ _ _ said (fun _ h => by cases h) (by kernel_rfl) (fun _ h => by cases h) anchorsStayUpto_row_tie rfl ⟨rfl, rfl⟩ (by kernel_rfl) rfl plain (by kernel_rfl)
#print axioms proved
end Go.Proofs.YtkghdieakpipkaaGreatDoor.anchorsStay

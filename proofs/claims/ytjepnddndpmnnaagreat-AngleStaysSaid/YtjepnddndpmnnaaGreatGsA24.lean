/-
  names: Space of a Scope.
  A strings.Builder as it lies: what its writing methods leave. (The shelf's contracts of these do not lay at a translation in which copyCheck's panic is cut off.)
-/
import Derived.Test.YtjepnddndpmnnaaGreatGsA23
import Derived.RegionTactic
import Derived.Test.YtjepnddndpmnnaaGreatGsA05
import Derived.Test.YtjepnddndpmnnaaGreatShelf
import Derived.Shelf.Strings.Builder1
namespace Go.Proofs.YtjepnddndpmnnaaGreat.Ns
open Go.RowKit Go.Maps Go.Shelf
set_option linter.unusedSectionVars false
variable [Fo]
attribute [local go_sem] Oper.semAt_some
set_option maxRecDepth 100000

def SpaceEnd (p : List UInt8) (st : St) : Ending :=
  match spaceS p st with
  | some s => .returned (.tuple #[.string ⟨s.toArray⟩, .bool true])
  | none => .returned (.tuple #[.string ⟨#[]⟩, .bool (decide (p = []))])
theorem space_step {p : List UInt8} : ∀ {st : St} {k : Nat} (h : k < st.length), (∀ j (hj : j < st.length), j < k → lookP p st[j] = none) → ∀ s, lookP p st[k] = some s → spaceS p st = some s
  | m :: r, 0, _, _, s, hs => by
    simp only [spaceS]
    rw [show lookP p m = some s from hs]
    rfl
  | m :: r, k + 1, h, hn, s, hs => by
    have h0 := hn 0 (by simp) (by omega)
    simp only [spaceS]
    rw [show lookP p m = none from h0]
    exact space_step (k := k) (by simpa using h) (fun j hj hlt => hn (j + 1) (by simpa using hj) (by omega)) s hs
theorem space_none {p : List UInt8} : ∀ {st : St}, (∀ j (hj : j < st.length), lookP p st[j] = none) → spaceS p st = none
  | [], _ => rfl
  | m :: r, hn => by
    simp only [spaceS]
    rw [show lookP p m = none from hn 0 (by simp)]
    exact space_none fun j hj => hn (j + 1) (by simpa using hj)

section
variable {F : Fence} {n : Nat} {w : World} {b : Nat} {m : Sc} {ops : Array Oper} {rest : List Oper} {o : Oper} {a : Act} {Q : Exit → Act → World → Prop}
theorem wpIn_look (h : MapAt w b m) (hg : o.guard = none) (x y : Operand) (hop : o.op = Op.lookup 210 x y true) (p : ByteArray) (hp : p.size ≤ 140737488355328) (hm : a.eval x = .map (some b)) (hx : a.eval y = .string p)
    (hK : ∀ s : ByteArray, (∀ t, lookP p.data.toList m = some t → s.data.toList = t) → wpListIn F n Tryz.prog ops Q rest (a.put o.dst (.tuple #[.agg #[.string s], .bool (lookP p.data.toList m).isSome])) w) :
    wpListIn F n Tryz.prog ops Q (o :: rest) a w := by
  obtain ⟨D, h1, h2, h3, _⟩ := h
  refine wpListIn_lookup_own_ok w hg x y _ hop 9 214 strLaw Tryz.underlying210 elemR (Tryz.zeroValue214 _) (.lit (.string [])) [] (elemR_mk ⟨#[]⟩) b _ D hm h1 _ _ hx (WideMaps.keyOf_string_mk Tryz.underlying9 (by simp only [maxLen]; omega)) ?_
  intro v ps hv
  obtain ⟨s, rfl, hz⟩ := elemR_inv hv
  rw [h2]
  refine hK s fun t ht => ?_
  rw [h3, ht] at hz
  injection hz with hz _
  injection hz with hz
  injection hz with hz
  exact hz.symm
end

theorem _root_.Go.Proofs.YtjepnddndpmnnaaGreat.Blk.put {W : World} {g : Nat} {t : TypeId} {cs : Array Value} (h : Blk W g t cs) {l : Nat} {o : Obj} (o' : Obj) (hl : W.heap[l]? = some o) (ho : o.isCells = false) : Blk (W.putObj l o') g t cs := by
  refine (World.putObj_heap_other ?_).trans h
  rintro rfl
  unfold Blk at h
  rw [h] at hl
  cases hl
  cases ho
theorem below_put {B : Nat} {w W : World} (h : Below B w W) {l : Nat} {o : Obj} (o' : Obj) (_ : W.heap[l]? = some o) (hB : B ≤ l) : Below B w (W.putObj l o') :=
  ⟨h.os, h.tape, h.output, Nat.le_trans h.size (grownBy_putObj' W l o').size, fun k hk => (World.putObj_heap_other (by omega)).trans (h.block k hk)⟩

/-- Between two rounds: nothing was found. -/
def SpI (w : World) (p : ByteArray) (st : St) (k : Nat) (W : World) : Prop :=
  (∀ j (hj : j < st.length), j < k → lookP p.data.toList st[j] = none) ∧ Blk W w.heap.size 9 #[.string p] ∧ Blk W (w.heap.size + 1) 9 #[.string ⟨#[]⟩] ∧ Blk W (w.heap.size + 2) 4 #[.bool false] ∧ Below w.heap.size w W
def SpX (w : World) (p : ByteArray) (st : St) (W : World) : Prop :=
  ∃ s, spaceS p.data.toList st = some s ∧ Blk W (w.heap.size + 1) 9 #[.string ⟨s.toArray⟩] ∧ Blk W (w.heap.size + 2) 4 #[.bool true] ∧ Below w.heap.size w W

set_option maxHeartbeats 2000000 in
theorem space_in (F : Fence) (n : Nat) (h20 : F.fn 158) (h38 : F.fn 167) (hro : F.round = none) (hn : 3 ≤ n) (w : World) (base g : Nat) (S : Nat → Prop) (st : St) (p : ByteArray) (hp : p.size ≤ 140737488355328) (hs : SAt w base S g st) :
    CallsIn F n Tryz.prog 158 #[.pointer (some ⟨g, 0, none⟩), .string p] w fun e W' => e = SpaceEnd p.data.toList st ∧ Below w.heap.size w W' := by
  have h1 : 1 ≤ n := by omega
  obtain ⟨_, A, cap, bs, _, hk, ho, _, hms⟩ := hs
  have hlt := hk.lt
  refine callsIn_of_wp_marks Tryz.func158 rfl h20 ?_ hro
  simp only [Tryz.ntmps158, List.size_toArray, List.length_cons, List.length_nil, Nat.reduceAdd, Nat.reduceSub, Array.replicate_succ, Array.replicate_zero, List.push_toArray, List.append_toArray, List.nil_append, List.cons_append]
  gi_wp2
  have hW0 : Below w.heap.size w (((w.alloc (.cells #[.string p] 9)).alloc (.cells #[.string ⟨#[]⟩] 9)).alloc (.cells #[.bool false] 4)) := (((Below.refl _ w).alloc (Nat.le_refl _) _).alloc (by simp) _).alloc (by simp; omega) _
  have b1 : Blk (((w.alloc (.cells #[.string p] 9)).alloc (.cells #[.string ⟨#[]⟩] 9)).alloc (.cells #[.bool false] 4)) w.heap.size 9 #[.string p] := ((Blk.new w _ _).alloc _).alloc _
  have b2 : Blk (((w.alloc (.cells #[.string p] 9)).alloc (.cells #[.string ⟨#[]⟩] 9)).alloc (.cells #[.bool false] 4)) (w.heap.size + 1) 9 #[.string ⟨#[]⟩] := by
    have := (Blk.new (w.alloc (.cells #[.string p] 9)) 9 #[.string ⟨#[]⟩]).alloc (.cells #[.bool false] 4)
    rw [World.size_alloc] at this
    exact this
  have b3 : Blk (((w.alloc (.cells #[.string p] 9)).alloc (.cells #[.string ⟨#[]⟩] 9)).alloc (.cells #[.bool false] 4)) (w.heap.size + 2) 4 #[.bool false] := by
    have := Blk.new ((w.alloc (.cells #[.string p] 9)).alloc (.cells #[.string ⟨#[]⟩] 9)) 4 #[.bool false]
    rw [World.size_alloc, World.size_alloc] at this
    exact this
  have hk0 := hk.below hW0 hlt
  have ho0 : ORow _ base _ _ _ := ho.below hW0 (fun g' hg' => (World.ownsRow.lt ho g' hg').2)
  have hsz : (((w.alloc (.cells #[.string p] 9)).alloc (.cells #[.string ⟨#[]⟩] 9)).alloc (.cells #[.bool false] 4)).heap.size = w.heap.size + 3 := by simp
  have hlen := hms.len
  refine range_method hro h1 (f := 167) (fa := #[.pointer (some ⟨g, 0, none⟩)]) (lb := #[]) rfl h38 (enters_of Tryz.func167 (by kernel_rfl) rfl)
    (visits_any F (n - 1) h38 hro (by omega) _ w.heap.size base g A cap bs hlt hk0 ho0 (fun r hr => by subst hr; exact (World.ownsRow.lt ho r rfl).2)) (fun _ => rfl)
    (fun h k => h.trans k) (fun o o' => ((Below.refl w.heap.size _).alloc (by rw [hsz]; omega) o).alloc (by rw [World.size_alloc, hsz]; omega) o') (fun W l o o' hl h ho => below_put (Below.refl _ _) o' h (by rw [hsz] at hl; omega))
    (SpI w p st) (SpX w p st)
    (fun k W l o o' hi hl h hno => ⟨hi.1, hi.2.1.put o' h hno, hi.2.2.1.put o' h hno, hi.2.2.2.1.put o' h hno, below_put hi.2.2.2.2 o' h (by rw [hsz] at hl; omega)⟩)
    (fun W l o o' hi hl h hno => by obtain ⟨s, h1, h2, h3, h4⟩ := hi; exact ⟨s, h1, h2.put o' h hno, h3.put o' h hno, below_put h4 o' h (by rw [hsz] at hl; omega)⟩)
    (fun o o' => ⟨fun j _ hj => absurd hj (by omega), (b1.alloc o).alloc o', (b2.alloc o).alloc o', (b3.alloc o).alloc o', hW0.trans (((Below.refl w.heap.size _).alloc (by rw [hsz]; omega) o).alloc (by rw [World.size_alloc, hsz]; omega) o')⟩)
    (fun k => { tmps := #[.pointer (some ⟨g, 0, none⟩), .string p, undef, .pointer (some ⟨w.heap.size, 0, none⟩), .pointer (some ⟨w.heap.size + 1, 0, none⟩), .pointer (some ⟨w.heap.size + 1 + 1, 0, none⟩), mV (bs.getD k 0), undef, undef, .pointer (some ⟨g, 0, none⟩), .func (.func 167) #[.pointer (some ⟨g, 0, none⟩)] #[], mV (bs.getD k 0), undef, undef, undef, undef, undef, undef, undef, undef, undef, undef, undef], defers := [] }) ?assign ?body ?done ?stop
  case assign =>
    intro l k W K hK
    gi_wp2
    exact hK
  case body =>
    intro l k W hkN hi
    have hi' := hi
    obtain ⟨hnone, c1, c2, c3, hB⟩ := hi
    have hks : k < st.length := by omega
    have hmk := (hms.at k hkN hks).below hB (hms.lt _ (List.getElem_mem hkN)).2
    have hbk : bs.getD k 0 = bs[k] := by rw [List.getD_eq_getElem?_getD, List.getElem?_eq_getElem hkN]; rfl
    rw [hbk]
    have d1 : W.cell? ⟨w.heap.size, 0, none⟩ = some (.string p) := c1.cell 0
    have d2 : W.cell? ⟨w.heap.size + 1, 0, none⟩ = some (.string ⟨#[]⟩) := c2.cell 0
    have d3 : W.cell? ⟨w.heap.size + 1 + 1, 0, none⟩ = some (.bool false) := c3.cell 0
    have f2 := c2.frozen 0
    have f3 : W.frozen? ⟨w.heap.size + 1 + 1, 0, none⟩ = false := c3.frozen 0
    have l1 : w.heap.size < W.heap.size := c1.lt
    have l2 : w.heap.size + 1 < W.heap.size := c2.lt
    have l3 : w.heap.size + 1 + 1 < W.heap.size := c3.lt
    generalize hbb : bs[k] = b at *
    have HM := Lib.hid hmk
    clear hbk hbb
    cases hl : lookP p.data.toList st[k] with
    | none =>
      have HL := Lib.hid (show (lookP p.data.toList st[k]).isSome = false by rw [hl]; rfl)
      have HN := Lib.hid hnone
      have HLo := Lib.hid hl
      clear hl hnone hmk hlen
      unfold mV
      gi_wp2_with (first
        | (gi_at_lookup; refine wpIn_look (m := st[k]) (b := b) HM.out rfl _ _ rfl p hp rfl rfl ?_; intro x _; rw [HL.out]))
      have hal : Below w.heap.size W (W.alloc (.cells #[.string x] 214)) := (Below.refl _ W).alloc hB.size _
      refine .inl ⟨rfl, KeepsOthers.alloc _ _, hal, fun j hj hjk => ?_, c1.alloc _, c2.alloc _, c3.alloc _, hB.trans hal⟩
      by_cases hjk' : j < k
      · exact HN.out j hj hjk'
      · obtain rfl : j = k := by omega
        exact HLo.out
    | some s =>
      have HL := Lib.hid (show (lookP p.data.toList st[k]).isSome = true by rw [hl]; rfl)
      have HS := Lib.hid (space_step hks hnone s hl)
      have HLo := Lib.hid hl
      clear hl hnone hmk hlen
      unfold mV
      gi_wp2_with (first
        | (gi_at_lookup; refine wpIn_look (m := st[k]) (b := b) HM.out rfl _ _ rfl p hp rfl rfl ?_; intro x hx; rw [HL.out]; have hxs := Lib.hid (hx s HLo.out); clear hx))
      have hxe : (⟨s.toArray⟩ : ByteArray) = x := by rw [← hxs.out]
      have e4 := c2.set_ 0 (.string x)
      have e5 := (c3.far (p := ⟨w.heap.size + 1, 0, none⟩) (by simp) (.string x)).set_ 0 (.bool true)
      have e6 := e4.far (p := ⟨w.heap.size + 2, 0, none⟩) (by simp) (.bool true)
      have hB2 := (hB.setCell (p := ⟨w.heap.size + 1, 0, none⟩) (by simp) (.string x)).setCell (p := ⟨w.heap.size + 2, 0, none⟩) (by simp) (.bool true)
      exact .inr ⟨rfl, ((KeepsOthers.setCell _ _ _).trans (KeepsOthers.setCell _ _ _)).trans (KeepsOthers.alloc _ _), s, HS.out, by rw [hxe]; exact e6.alloc _, e5.alloc _, hB2.alloc hB2.size _⟩
  case done =>
    rintro D W hD ⟨hnone, c1, c2, c3, hB⟩ hK
    have hE : SpaceEnd p.data.toList st = .returned (.tuple #[.string ⟨#[]⟩, .bool (decide (p.data.toList = []))]) := by
      unfold SpaceEnd
      rw [space_none fun j hj => hnone j hj (by omega)]
    have HE := Lib.hid hE
    have d1 : W.cell? ⟨w.heap.size, 0, none⟩ = some (.string p) := c1.cell 0
    have d2 : W.cell? ⟨w.heap.size + 1, 0, none⟩ = some (.string ⟨#[]⟩) := c2.cell 0
    have d3 : W.cell? ⟨w.heap.size + 1 + 1, 0, none⟩ = some (.bool false) := c3.cell 0
    have f2 : W.frozen? ⟨w.heap.size + 1, 0, none⟩ = false := c2.frozen 0
    have f3 : W.frozen? ⟨w.heap.size + 1 + 1, 0, none⟩ = false := c3.frozen 0
    have l1 : w.heap.size < W.heap.size := c1.lt
    have l2 : w.heap.size + 1 < W.heap.size := c2.lt
    have l3 : w.heap.size + 1 + 1 < W.heap.size := c3.lt
    clear hE hnone hlen
    gi_wp2
    gi_region
    all_goals gi_wp2
    all_goals
      have e2 := (c2.set_ 0 (.string ⟨#[]⟩)).far (p := ⟨w.heap.size + 1 + 1, 0, none⟩) (by simp) (.bool p.toList.isEmpty)
      have e3 := (c3.far (p := ⟨w.heap.size + 1, 0, none⟩) (by simp) (.string ⟨#[]⟩)).set_ 0 (.bool p.toList.isEmpty)
      have hK' := ((KeepsOthers.setCell W ⟨w.heap.size + 1, 0, none⟩ (.string ⟨#[]⟩)).trans (KeepsOthers.setCell _ ⟨w.heap.size + 1 + 1, 0, none⟩ (.bool p.toList.isEmpty))).same D _ hK rfl
      have hB2 := (hB.setCell (p := ⟨w.heap.size + 1, 0, none⟩) (by simp) (.string ⟨#[]⟩)).setCell (p := ⟨w.heap.size + 1 + 1, 0, none⟩) (by simp; omega) (.bool p.toList.isEmpty)
      refine ⟨by simp, .inl ⟨_, _, rfl, run_takeDeferred hK', ?_⟩⟩
      have e3b : Blk ((W.setCell ⟨w.heap.size + 1, 0, none⟩ (.string ⟨#[]⟩)).setCell ⟨w.heap.size + 1 + 1, 0, none⟩ (.bool p.toList.isEmpty)) (w.heap.size + 1 + 1) 4 #[.bool p.toList.isEmpty] := e3
      have k2 := (e2.drew).put (.deferred none) hK' rfl
      have k3 := (e3b.drew).put (.deferred none) hK' rfl
      refine ⟨.tuple #[.string ⟨#[]⟩, .bool p.toList.isEmpty], ?_, ?_, below_put (below_drew hB2) (.deferred none) hK' (by rw [hsz] at hD; omega)⟩
      · have d2' : _ = some (Value.string ⟨#[]⟩) := k2.cell 0
        have d3' : _ = some (Value.bool p.toList.isEmpty) := k3.cell 0
        simp [results, Tryz.f158, go_sem, d2', d3']
      · rw [HE.out, Lib.toList_data]
        generalize p.data.toList = L
        cases L <;> simp
  case stop =>
    rintro D W hD ⟨s, hs, c2, c3, hB⟩ hK
    have hE : SpaceEnd p.data.toList st = .returned (.tuple #[.string ⟨s.toArray⟩, .bool true]) := by
      unfold SpaceEnd
      rw [hs]
    gi_wp2
    refine ⟨by simp, .inl ⟨_, _, rfl, run_takeDeferred hK, ?_⟩⟩
    have k2 := c2.put (.deferred none) hK rfl
    have k3 := c3.put (.deferred none) hK rfl
    have d2 : (W.putObj D (.deferred none)).cell? ⟨w.heap.size + 1, 0, none⟩ = some (.string ⟨s.toArray⟩) := k2.cell 0
    have d3 : (W.putObj D (.deferred none)).cell? ⟨w.heap.size + 1 + 1, 0, none⟩ = some (.bool true) := k3.cell 0
    refine ⟨.tuple #[.string ⟨s.toArray⟩, .bool true], ?_, hE.symm, below_put hB _ hK (by rw [hsz] at hD; omega)⟩
    simp [results, Tryz.f158, go_sem, d2, d3]
theorem sspace_any (w : World) (base g : Nat) (S : Nat → Prop) (st : St) (p : ByteArray) (hp : p.size ≤ 140737488355328) (hs : SAt w base S g st) :
    Calls Tryz.prog 158 #[.pointer (some ⟨g, 0, none⟩), .string p] w fun e W' => e = SpaceEnd p.data.toList st ∧ Below w.heap.size w W' :=
  (callsIn_wide (n := 3)).1 (space_in Fence.wide 3 trivial trivial rfl (Nat.le_refl _) w base g S st p hp hs)
end Go.Proofs.YtjepnddndpmnnaaGreat.Ns
namespace Go.Proofs.YtjepnddndpmnnaaGreat
open Go.RowKit
set_option maxRecDepth 100000
set_option linter.unusedVariables false

theorem Tryz.infoByteB : (Tryz.prog.info? 5).map (fun i => (i.zero, i.size, i.bytes)) = some (some (.int .u8 0), 1, 1) := by kernel_rfl

theorem byteCells_snoc (l : List UInt8) (c : UInt8) : Lib.byteCells (l ++ [c]) = Lib.byteCells l ++ [.int .u8 (c.toNat : Int)] := by simp [Lib.byteCells]

end Go.Proofs.YtjepnddndpmnnaaGreat

/-
  names: Space of a Scope.
  A strings.Builder as it lies: what its writing methods leave. (The shelf's contracts of these do not lay at a translation in which copyCheck's panic is cut off.)
  Entities as they lie: a block, a map of structs; New, Size, Told.
  utf.Whole tells whether a text has characters.
-/
import Derived.Test.YtjepnddndpmnnaaGreatGsB20
import Derived.RegionTactic
import Derived.Test.YtjepnddndpmnnaaGreatGsB05
import Derived.Test.YtjepnddndpmnnaaGreatShelf
import Derived.Shelf.Strings.Builder1
import Derived.Test.YtjepnddndpmnnaaGreatGsB04
import Derived.Test.YtjepnddndpmnnaaGreatGsB10
import Derived.Maps.OwnIn
import Derived.Maps.OwnSet
import Derived.Maps.OwnOps
import Derived.Test.YtjepnddndpmnnaaGreatGsB08
import Derived.Test.YtjepnddndpmnnaaGreatGsB09
namespace Go.Proofs.YtjepnddndpmnnaaGreat.Ns
open Go.RowKit Go.Maps Go.Shelf
set_option linter.unusedSectionVars false
variable [Fo]
attribute [local go_sem] Oper.semAt_some
set_option maxRecDepth 100000

def SpaceEnd (p : List UInt8) (st : St) : Ending :=
  match spaceS p st with
  | some s => .returned (.tuple #[.string ⟨s.toArray⟩, .bool true])
  | none => .returned (.tuple #[.string ⟨#[]⟩, .bool (decide (p = []))])
theorem space_step {p : List UInt8} : ∀ {st : St} {k : Nat} (h : k < st.length), (∀ j (hj : j < st.length), j < k → lookP p st[j] = none) → ∀ s, lookP p st[k] = some s → spaceS p st = some s
  | m :: r, 0, _, _, s, hs => by
    simp only [spaceS]
    rw [show lookP p m = some s from hs]
    rfl
  | m :: r, k + 1, h, hn, s, hs => by
    have h0 := hn 0 (by simp) (by omega)
    simp only [spaceS]
    rw [show lookP p m = none from h0]
    exact space_step (k := k) (by simpa using h) (fun j hj hlt => hn (j + 1) (by simpa using hj) (by omega)) s hs
theorem space_none {p : List UInt8} : ∀ {st : St}, (∀ j (hj : j < st.length), lookP p st[j] = none) → spaceS p st = none
  | [], _ => rfl
  | m :: r, hn => by
    simp only [spaceS]
    rw [show lookP p m = none from hn 0 (by simp)]
    exact space_none fun j hj => hn (j + 1) (by simpa using hj)

section
variable {F : Fence} {n : Nat} {w : World} {b : Nat} {m : Sc} {ops : Array Oper} {rest : List Oper} {o : Oper} {a : Act} {Q : Exit → Act → World → Prop}
theorem wpIn_look (h : MapAt w b m) (hg : o.guard = none) (x y : Operand) (hop : o.op = Op.lookup 210 x y true) (p : ByteArray) (hp : p.size ≤ 140737488355328) (hm : a.eval x = .map (some b)) (hx : a.eval y = .string p)
    (hK : ∀ s : ByteArray, (∀ t, lookP p.data.toList m = some t → s.data.toList = t) → wpListIn F n Tryz.prog ops Q rest (a.put o.dst (.tuple #[.agg #[.string s], .bool (lookP p.data.toList m).isSome])) w) :
    wpListIn F n Tryz.prog ops Q (o :: rest) a w := by
  obtain ⟨D, h1, h2, h3, _⟩ := h
  refine wpListIn_lookup_own_ok w hg x y _ hop 9 214 strLaw Tryz.underlying210 elemR (Tryz.zeroValue214 _) (.lit (.string [])) [] (elemR_mk ⟨#[]⟩) b _ D hm h1 _ _ hx (WideMaps.keyOf_string_mk Tryz.underlying9 (by simp only [maxLen]; omega)) ?_
  intro v ps hv
  obtain ⟨s, rfl, hz⟩ := elemR_inv hv
  rw [h2]
  refine hK s fun t ht => ?_
  rw [h3, ht] at hz
  injection hz with hz _
  injection hz with hz
  injection hz with hz
  exact hz.symm
end

theorem _root_.Go.Proofs.YtjepnddndpmnnaaGreat.Blk.put {W : World} {g : Nat} {t : TypeId} {cs : Array Value} (h : Blk W g t cs) {l : Nat} {o : Obj} (o' : Obj) (hl : W.heap[l]? = some o) (ho : o.isCells = false) : Blk (W.putObj l o') g t cs := by
  refine (World.putObj_heap_other ?_).trans h
  rintro rfl
  unfold Blk at h
  rw [h] at hl
  cases hl
  cases ho
theorem below_put {B : Nat} {w W : World} (h : Below B w W) {l : Nat} {o : Obj} (o' : Obj) (_ : W.heap[l]? = some o) (hB : B ≤ l) : Below B w (W.putObj l o') :=
  ⟨h.os, h.tape, h.output, Nat.le_trans h.size (grownBy_putObj' W l o').size, fun k hk => (World.putObj_heap_other (by omega)).trans (h.block k hk)⟩

/-- Between two rounds: nothing was found. -/
def SpI (w : World) (p : ByteArray) (st : St) (k : Nat) (W : World) : Prop :=
  (∀ j (hj : j < st.length), j < k → lookP p.data.toList st[j] = none) ∧ Blk W w.heap.size 9 #[.string p] ∧ Blk W (w.heap.size + 1) 9 #[.string ⟨#[]⟩] ∧ Blk W (w.heap.size + 2) 4 #[.bool false] ∧ Below w.heap.size w W
def SpX (w : World) (p : ByteArray) (st : St) (W : World) : Prop :=
  ∃ s, spaceS p.data.toList st = some s ∧ Blk W (w.heap.size + 1) 9 #[.string ⟨s.toArray⟩] ∧ Blk W (w.heap.size + 2) 4 #[.bool true] ∧ Below w.heap.size w W

set_option maxHeartbeats 2000000 in
theorem space_in (F : Fence) (n : Nat) (h20 : F.fn 158) (h38 : F.fn 167) (hro : F.round = none) (hn : 3 ≤ n) (w : World) (base g : Nat) (S : Nat → Prop) (st : St) (p : ByteArray) (hp : p.size ≤ 140737488355328) (hs : SAt w base S g st) :
    CallsIn F n Tryz.prog 158 #[.pointer (some ⟨g, 0, none⟩), .string p] w fun e W' => e = SpaceEnd p.data.toList st ∧ Below w.heap.size w W' := by
  have h1 : 1 ≤ n := by omega
  obtain ⟨_, A, cap, bs, _, hk, ho, _, hms⟩ := hs
  have hlt := hk.lt
  refine callsIn_of_wp_marks Tryz.func158 rfl h20 ?_ hro
  simp only [Tryz.ntmps158, List.size_toArray, List.length_cons, List.length_nil, Nat.reduceAdd, Nat.reduceSub, Array.replicate_succ, Array.replicate_zero, List.push_toArray, List.append_toArray, List.nil_append, List.cons_append]
  gi_wp2
  have hW0 : Below w.heap.size w (((w.alloc (.cells #[.string p] 9)).alloc (.cells #[.string ⟨#[]⟩] 9)).alloc (.cells #[.bool false] 4)) := (((Below.refl _ w).alloc (Nat.le_refl _) _).alloc (by simp) _).alloc (by simp; omega) _
  have b1 : Blk (((w.alloc (.cells #[.string p] 9)).alloc (.cells #[.string ⟨#[]⟩] 9)).alloc (.cells #[.bool false] 4)) w.heap.size 9 #[.string p] := ((Blk.new w _ _).alloc _).alloc _
  have b2 : Blk (((w.alloc (.cells #[.string p] 9)).alloc (.cells #[.string ⟨#[]⟩] 9)).alloc (.cells #[.bool false] 4)) (w.heap.size + 1) 9 #[.string ⟨#[]⟩] := by
    have := (Blk.new (w.alloc (.cells #[.string p] 9)) 9 #[.string ⟨#[]⟩]).alloc (.cells #[.bool false] 4)
    rw [World.size_alloc] at this
    exact this
  have b3 : Blk (((w.alloc (.cells #[.string p] 9)).alloc (.cells #[.string ⟨#[]⟩] 9)).alloc (.cells #[.bool false] 4)) (w.heap.size + 2) 4 #[.bool false] := by
    have := Blk.new ((w.alloc (.cells #[.string p] 9)).alloc (.cells #[.string ⟨#[]⟩] 9)) 4 #[.bool false]
    rw [World.size_alloc, World.size_alloc] at this
    exact this
  have hk0 := hk.below hW0 hlt
  have ho0 : ORow _ base _ _ _ := ho.below hW0 (fun g' hg' => (World.ownsRow.lt ho g' hg').2)
  have hsz : (((w.alloc (.cells #[.string p] 9)).alloc (.cells #[.string ⟨#[]⟩] 9)).alloc (.cells #[.bool false] 4)).heap.size = w.heap.size + 3 := by simp
  have hlen := hms.len
  refine range_method hro h1 (f := 167) (fa := #[.pointer (some ⟨g, 0, none⟩)]) (lb := #[]) rfl h38 (enters_of Tryz.func167 (by kernel_rfl) rfl)
    (visits_any F (n - 1) h38 hro (by omega) _ w.heap.size base g A cap bs hlt hk0 ho0 (fun r hr => by subst hr; exact (World.ownsRow.lt ho r rfl).2)) (fun _ => rfl)
    (fun h k => h.trans k) (fun o o' => ((Below.refl w.heap.size _).alloc (by rw [hsz]; omega) o).alloc (by rw [World.size_alloc, hsz]; omega) o') (fun W l o o' hl h ho => below_put (Below.refl _ _) o' h (by rw [hsz] at hl; omega))
    (SpI w p st) (SpX w p st)
    (fun k W l o o' hi hl h hno => ⟨hi.1, hi.2.1.put o' h hno, hi.2.2.1.put o' h hno, hi.2.2.2.1.put o' h hno, below_put hi.2.2.2.2 o' h (by rw [hsz] at hl; omega)⟩)
    (fun W l o o' hi hl h hno => by obtain ⟨s, h1, h2, h3, h4⟩ := hi; exact ⟨s, h1, h2.put o' h hno, h3.put o' h hno, below_put h4 o' h (by rw [hsz] at hl; omega)⟩)
    (fun o o' => ⟨fun j _ hj => absurd hj (by omega), (b1.alloc o).alloc o', (b2.alloc o).alloc o', (b3.alloc o).alloc o', hW0.trans (((Below.refl w.heap.size _).alloc (by rw [hsz]; omega) o).alloc (by rw [World.size_alloc, hsz]; omega) o')⟩)
    (fun k => { tmps := #[.pointer (some ⟨g, 0, none⟩), .string p, undef, .pointer (some ⟨w.heap.size, 0, none⟩), .pointer (some ⟨w.heap.size + 1, 0, none⟩), .pointer (some ⟨w.heap.size + 1 + 1, 0, none⟩), mV (bs.getD k 0), undef, undef, .pointer (some ⟨g, 0, none⟩), .func (.func 167) #[.pointer (some ⟨g, 0, none⟩)] #[], mV (bs.getD k 0), undef, undef, undef, undef, undef, undef, undef, undef, undef, undef, undef], defers := [] }) ?assign ?body ?done ?stop
  case assign =>
    intro l k W K hK
    gi_wp2
    exact hK
  case body =>
    intro l k W hkN hi
    have hi' := hi
    obtain ⟨hnone, c1, c2, c3, hB⟩ := hi
    have hks : k < st.length := by omega
    have hmk := (hms.at k hkN hks).below hB (hms.lt _ (List.getElem_mem hkN)).2
    have hbk : bs.getD k 0 = bs[k] := by rw [List.getD_eq_getElem?_getD, List.getElem?_eq_getElem hkN]; rfl
    rw [hbk]
    have d1 : W.cell? ⟨w.heap.size, 0, none⟩ = some (.string p) := c1.cell 0
    have d2 : W.cell? ⟨w.heap.size + 1, 0, none⟩ = some (.string ⟨#[]⟩) := c2.cell 0
    have d3 : W.cell? ⟨w.heap.size + 1 + 1, 0, none⟩ = some (.bool false) := c3.cell 0
    have f2 := c2.frozen 0
    have f3 : W.frozen? ⟨w.heap.size + 1 + 1, 0, none⟩ = false := c3.frozen 0
    have l1 : w.heap.size < W.heap.size := c1.lt
    have l2 : w.heap.size + 1 < W.heap.size := c2.lt
    have l3 : w.heap.size + 1 + 1 < W.heap.size := c3.lt
    generalize hbb : bs[k] = b at *
    have HM := Lib.hid hmk
    clear hbk hbb
    cases hl : lookP p.data.toList st[k] with
    | none =>
      have HL := Lib.hid (show (lookP p.data.toList st[k]).isSome = false by rw [hl]; rfl)
      have HN := Lib.hid hnone
      have HLo := Lib.hid hl
      clear hl hnone hmk hlen
      unfold mV
      gi_wp2_with (first
        | (gi_at_lookup; refine wpIn_look (m := st[k]) (b := b) HM.out rfl _ _ rfl p hp rfl rfl ?_; intro x _; rw [HL.out]))
      have hal : Below w.heap.size W (W.alloc (.cells #[.string x] 214)) := (Below.refl _ W).alloc hB.size _
      refine .inl ⟨rfl, KeepsOthers.alloc _ _, hal, fun j hj hjk => ?_, c1.alloc _, c2.alloc _, c3.alloc _, hB.trans hal⟩
      by_cases hjk' : j < k
      · exact HN.out j hj hjk'
      · obtain rfl : j = k := by omega
        exact HLo.out
    | some s =>
      have HL := Lib.hid (show (lookP p.data.toList st[k]).isSome = true by rw [hl]; rfl)
      have HS := Lib.hid (space_step hks hnone s hl)
      have HLo := Lib.hid hl
      clear hl hnone hmk hlen
      unfold mV
      gi_wp2_with (first
        | (gi_at_lookup; refine wpIn_look (m := st[k]) (b := b) HM.out rfl _ _ rfl p hp rfl rfl ?_; intro x hx; rw [HL.out]; have hxs := Lib.hid (hx s HLo.out); clear hx))
      have hxe : (⟨s.toArray⟩ : ByteArray) = x := by rw [← hxs.out]
      have e4 := c2.set_ 0 (.string x)
      have e5 := (c3.far (p := ⟨w.heap.size + 1, 0, none⟩) (by simp) (.string x)).set_ 0 (.bool true)
      have e6 := e4.far (p := ⟨w.heap.size + 2, 0, none⟩) (by simp) (.bool true)
      have hB2 := (hB.setCell (p := ⟨w.heap.size + 1, 0, none⟩) (by simp) (.string x)).setCell (p := ⟨w.heap.size + 2, 0, none⟩) (by simp) (.bool true)
      exact .inr ⟨rfl, ((KeepsOthers.setCell _ _ _).trans (KeepsOthers.setCell _ _ _)).trans (KeepsOthers.alloc _ _), s, HS.out, by rw [hxe]; exact e6.alloc _, e5.alloc _, hB2.alloc hB2.size _⟩
  case done =>
    rintro D W hD ⟨hnone, c1, c2, c3, hB⟩ hK
    have hE : SpaceEnd p.data.toList st = .returned (.tuple #[.string ⟨#[]⟩, .bool (decide (p.data.toList = []))]) := by
      unfold SpaceEnd
      rw [space_none fun j hj => hnone j hj (by omega)]
    have HE := Lib.hid hE
    have d1 : W.cell? ⟨w.heap.size, 0, none⟩ = some (.string p) := c1.cell 0
    have d2 : W.cell? ⟨w.heap.size + 1, 0, none⟩ = some (.string ⟨#[]⟩) := c2.cell 0
    have d3 : W.cell? ⟨w.heap.size + 1 + 1, 0, none⟩ = some (.bool false) := c3.cell 0
    have f2 : W.frozen? ⟨w.heap.size + 1, 0, none⟩ = false := c2.frozen 0
    have f3 : W.frozen? ⟨w.heap.size + 1 + 1, 0, none⟩ = false := c3.frozen 0
    have l1 : w.heap.size < W.heap.size := c1.lt
    have l2 : w.heap.size + 1 < W.heap.size := c2.lt
    have l3 : w.heap.size + 1 + 1 < W.heap.size := c3.lt
    clear hE hnone hlen
    gi_wp2
    gi_region
    all_goals gi_wp2
    all_goals
      have e2 := (c2.set_ 0 (.string ⟨#[]⟩)).far (p := ⟨w.heap.size + 1 + 1, 0, none⟩) (by simp) (.bool p.toList.isEmpty)
      have e3 := (c3.far (p := ⟨w.heap.size + 1, 0, none⟩) (by simp) (.string ⟨#[]⟩)).set_ 0 (.bool p.toList.isEmpty)
      have hK' := ((KeepsOthers.setCell W ⟨w.heap.size + 1, 0, none⟩ (.string ⟨#[]⟩)).trans (KeepsOthers.setCell _ ⟨w.heap.size + 1 + 1, 0, none⟩ (.bool p.toList.isEmpty))).same D _ hK rfl
      have hB2 := (hB.setCell (p := ⟨w.heap.size + 1, 0, none⟩) (by simp) (.string ⟨#[]⟩)).setCell (p := ⟨w.heap.size + 1 + 1, 0, none⟩) (by simp; omega) (.bool p.toList.isEmpty)
      refine ⟨by simp, .inl ⟨_, _, rfl, run_takeDeferred hK', ?_⟩⟩
      have e3b : Blk ((W.setCell ⟨w.heap.size + 1, 0, none⟩ (.string ⟨#[]⟩)).setCell ⟨w.heap.size + 1 + 1, 0, none⟩ (.bool p.toList.isEmpty)) (w.heap.size + 1 + 1) 4 #[.bool p.toList.isEmpty] := e3
      have k2 := (e2.drew).put (.deferred none) hK' rfl
      have k3 := (e3b.drew).put (.deferred none) hK' rfl
      refine ⟨.tuple #[.string ⟨#[]⟩, .bool p.toList.isEmpty], ?_, ?_, below_put (below_drew hB2) (.deferred none) hK' (by rw [hsz] at hD; omega)⟩
      · have d2' : _ = some (Value.string ⟨#[]⟩) := k2.cell 0
        have d3' : _ = some (Value.bool p.toList.isEmpty) := k3.cell 0
        simp [results, Tryz.f158, go_sem, d2', d3']
      · rw [HE.out, Lib.toList_data]
        generalize p.data.toList = L
        cases L <;> simp
  case stop =>
    rintro D W hD ⟨s, hs, c2, c3, hB⟩ hK
    have hE : SpaceEnd p.data.toList st = .returned (.tuple #[.string ⟨s.toArray⟩, .bool true]) := by
      unfold SpaceEnd
      rw [hs]
    gi_wp2
    refine ⟨by simp, .inl ⟨_, _, rfl, run_takeDeferred hK, ?_⟩⟩
    have k2 := c2.put (.deferred none) hK rfl
    have k3 := c3.put (.deferred none) hK rfl
    have d2 : (W.putObj D (.deferred none)).cell? ⟨w.heap.size + 1, 0, none⟩ = some (.string ⟨s.toArray⟩) := k2.cell 0
    have d3 : (W.putObj D (.deferred none)).cell? ⟨w.heap.size + 1 + 1, 0, none⟩ = some (.bool true) := k3.cell 0
    refine ⟨.tuple #[.string ⟨s.toArray⟩, .bool true], ?_, hE.symm, below_put hB _ hK (by rw [hsz] at hD; omega)⟩
    simp [results, Tryz.f158, go_sem, d2, d3]
theorem sspace_any (w : World) (base g : Nat) (S : Nat → Prop) (st : St) (p : ByteArray) (hp : p.size ≤ 140737488355328) (hs : SAt w base S g st) :
    Calls Tryz.prog 158 #[.pointer (some ⟨g, 0, none⟩), .string p] w fun e W' => e = SpaceEnd p.data.toList st ∧ Below w.heap.size w W' :=
  (callsIn_wide (n := 3)).1 (space_in Fence.wide 3 trivial trivial rfl (Nat.le_refl _) w base g S st p hp hs)
end Go.Proofs.YtjepnddndpmnnaaGreat.Ns
namespace Go.Proofs.YtjepnddndpmnnaaGreat
open Go.RowKit
set_option maxRecDepth 100000
set_option linter.unusedVariables false

theorem Tryz.infoByteB : (Tryz.prog.info? 5).map (fun i => (i.zero, i.size, i.bytes)) = some (some (.int .u8 0), 1, 1) := by kernel_rfl

theorem byteCells_snoc (l : List UInt8) (c : UInt8) : Lib.byteCells (l ++ [c]) = Lib.byteCells l ++ [.int .u8 (c.toNat : Int)] := by simp [Lib.byteCells]

end Go.Proofs.YtjepnddndpmnnaaGreat
namespace Go.Proofs.YtjepnddndpmnnaaGreat
open Go.RowKit Go.Maps
set_option maxRecDepth 100000
set_option linter.unusedSimpArgs false

theorem strLawE : Keyed Tryz.prog 9 := string_keyed Tryz.underlying9

/-- How an entity reads. -/
def entD (x : List UInt8 × Bool) : DataW Unit := .agg [.lit (.string x.1), .lit (.bool x.2)]
def elemS : Value → Option (DataW Unit × List MemPlace)
  | .agg cs => match cs.toList with
    | [.string s, .bool c] => some (entD (s.data.toList, c), [])
    | _ => none
  | _ => none
theorem elemS_mk (s : ByteArray) (c : Bool) : elemS (.agg #[.string s, .bool c]) = some (entD (s.data.toList, c), []) := rfl
theorem elemS_inv {v : Value} {z : DataW Unit × List MemPlace} (h : elemS v = some z) : ∃ (s : ByteArray) (c : Bool), v = .agg #[.string s, .bool c] ∧ z = (entD (s.data.toList, c), []) := by
  cases v with
  | agg cs =>
    obtain ⟨l⟩ := cs
    match l with
    | [] => cases h
    | [x] => simp [elemS] at h
    | [x, y] =>
      cases x <;> cases y <;> simp [elemS] at h
      rename_i s c
      exact ⟨s, c, rfl, h.symm⟩
    | x :: y :: z :: r => simp [elemS] at h
  | _ => cases h
theorem entD_inj {x y : List UInt8 × Bool} (h : entD x = entD y) : x = y := by
  obtain ⟨a, b⟩ := x
  obtain ⟨c, d⟩ := y
  simp only [entD] at h
  injection h with h
  injection h with h1 h2
  injection h1 with h1
  injection h1 with h1
  injection h2 with h2 _
  injection h2 with h2
  injection h2 with h2
  rw [h1, h2]

/-- A map that holds just f, of at most k entries. -/
def MapG (w : World) (b k : Nat) (f : List UInt8 → Option (List UInt8 × Bool)) : Prop :=
  ∃ D, w.ownsMap (H := Unit) Tryz.prog 9 elemS b k D ∧ (∀ n, Maps.has D (.string n) = (f n).isSome) ∧ (∀ n z, D.atKey (.string n) z = match f n with | some x => entD x | none => z)

section
variable {w w' : World} {b k : Nat} {f : List UInt8 → Option (List UInt8 × Bool)}
theorem MapG.lt (h : MapG w b k f) : b < w.heap.size := by obtain ⟨D, h, _⟩ := h; exact h.lt
theorem MapG.obj (h : MapG w b k f) : ∃ es c, w.heap[b]? = some (.map es c) := by obtain ⟨D, ⟨es, c, hb, _⟩, _⟩ := h; exact ⟨es, c, hb⟩
theorem MapG.keep (h : MapG w b k f) (hk : w'.heap[b]? = w.heap[b]?) : MapG w' b k f := by
  obtain ⟨D, ⟨es, c, hb, r⟩, h2⟩ := h
  exact ⟨D, ⟨es, c, hk.trans hb, r⟩, h2⟩
theorem MapG.congr {g : List UInt8 → Option (List UInt8 × Bool)} (h : MapG w b k f) (hg : ∀ n, g n = f n) : MapG w b k g := by
  have : g = f := funext hg
  subst this
  exact h
theorem MapG.new (w : World) : MapG (w.alloc (.map #[] 0)) w.heap.size 0 (fun _ => none) :=
  ⟨.map [], World.ownsMap_made w _ _ _, fun _ => rfl, fun _ _ => rfl⟩
theorem MapG.put (h : MapG w b k f) {n s : ByteArray} (c : Bool) (hn : n.size ≤ 140737488355328) (hk : k < maxLen) :
    ∃ w', (Instr.mapUpdate 122 (.map (some b)) (.string n) (.agg #[.string s, .bool c])).run Tryz.prog w = .ok () w' ∧ MapG w' b (k + 1) (fun q => if q = n.data.toList then some (s.data.toList, c) else f q) ∧ w.grownBy w' (some b) := by
  obtain ⟨D, h1, h2, h3⟩ := h
  obtain ⟨w', hr, ho, hg⟩ := h1.update (t := 122) strLawE Tryz.underlying122 hk (WideMaps.keyOf_string_mk Tryz.underlying9 (show n.size ≤ maxLen by simp only [maxLen]; omega)) (elemS_mk s c)
  have hkl : WideAt.IsKeyLit (.string n.data.toList) := by simp [WideAt.IsKeyLit]
  refine ⟨w', hr, ⟨_, ho, fun q => ?_, fun q z => ?_⟩, hg⟩
  · by_cases hq : q = n.data.toList
    · subst hq
      rw [has_put_same h1.isMap hkl]
      simp
    · rw [has_put_other (by simpa using hq), h2]
      simp [hq]
  · by_cases hq : q = n.data.toList
    · subst hq
      rw [atKey_put_same h1.isMap hkl]
      simp
    · rw [atKey_put_other (by simpa using hq), h3]
      simp [hq]
theorem MapG.look (h : MapG w b k f) {n : ByteArray} (hn : n.size ≤ 140737488355328) :
    ∃ (s : ByteArray) (c : Bool), (Instr.lookup 122 (.map (some b)) (.string n) true).run Tryz.prog w = .ok (.tuple #[.agg #[.string s, .bool c], .bool (f n.data.toList).isSome]) w ∧ ∀ x, f n.data.toList = some x → s.data.toList = x.1 ∧ c = x.2 := by
  obtain ⟨D, h1, h2, h3⟩ := h
  obtain ⟨v, ps, hrun, hv⟩ := h1.look_ok (t := 122) strLawE Tryz.underlying122 (Tryz.zeroValue150 _) (elemS_mk ⟨#[]⟩ false) (WideMaps.keyOf_string_mk Tryz.underlying9 (show n.size ≤ maxLen by simp only [maxLen]; omega))
  obtain ⟨s, c, rfl, hz⟩ := elemS_inv hv
  rw [h2] at hrun
  refine ⟨s, c, hrun, fun x hx => ?_⟩
  rw [h3, hx] at hz
  injection hz with hz _
  have := entD_inj hz
  rw [this]
  exact ⟨rfl, rfl⟩
end

section
variable {w : World} {b k : Nat} {f : List UInt8 → Option (List UInt8 × Bool)} {ops : Array Oper} {rest : List Oper} {o : Oper} {a : Act} {Q : Exit → Act → World → Prop}
/-- An entity asked for, with ok. -/
theorem wp_lookG (h : MapG w b k f) (hg : o.guard = none) (x y : Operand) (hop : o.op = Op.lookup 122 x y true) (p : ByteArray) (hp : p.size ≤ 140737488355328) (hm : a.eval x = .map (some b)) (hx : a.eval y = .string p)
    (hK : ∀ (s : ByteArray) (c : Bool), (∀ z, f p.data.toList = some z → s.data.toList = z.1 ∧ c = z.2) → wpList Tryz.prog ops Q rest (a.put o.dst (.tuple #[.agg #[.string s, .bool c], .bool (f p.data.toList).isSome])) w) :
    wpList Tryz.prog ops Q (o :: rest) a w := by
  obtain ⟨s, c, hrun, hv⟩ := h.look hp
  refine wpList_plain hg fun K hK' => ?_
  unfold Oper.wp
  simp [execOp, hop, hm, hx, hrun, Result.andThen]
  exact hK' _ _ (hK s c hv)
theorem wp_putG (h : MapG w b k f) (hg : o.guard = none) (x y z : Operand) (hop : o.op = Op.mapUpdate 122 x y z) (p s : ByteArray) (c : Bool) (hp : p.size ≤ 140737488355328) (hk : k < maxLen)
    (hm : a.eval x = .map (some b)) (hx : a.eval y = .string p) (hz : a.eval z = .agg #[.string s, .bool c])
    (hK : ∀ w', MapG w' b (k + 1) (fun q => if q = p.data.toList then some (s.data.toList, c) else f q) → w.grownBy w' (some b) → wpList Tryz.prog ops Q rest (a.put o.dst undef) w') :
    wpList Tryz.prog ops Q (o :: rest) a w := by
  obtain ⟨w', hr, hm', hg'⟩ := h.put (s := s) c hp hk
  refine wpList_plain hg fun K hK' => ?_
  unfold Oper.wp
  simp [execOp, hop, hm, hx, hz, hr, Result.andThen]
  exact hK' _ _ (hK w' hm' hg')
end

/-! The map of the entities, the predefined ones among them. -/
def lookM (L : EnL) (n : List UInt8) : Option (List UInt8 × Bool) :=
  match fourE n with
  | some t => some (t, false)
  | none => match findE n L with
    | some t => some (t, true)
    | none => none
theorem lookM_nil (n : List UInt8) : lookM [] n = if n = [113, 117, 111, 116] then some ([34], false) else if n = [97, 109, 112] then some ([38], false) else if n = [103, 116] then some ([62], false) else if n = [108, 116] then some ([60], false) else none := by
  unfold lookM fourE
  by_cases h1 : n = [108, 116]
  · subst h1; rfl
  by_cases h2 : n = [103, 116]
  · subst h2; rfl
  by_cases h3 : n = [97, 109, 112]
  · subst h3; rfl
  by_cases h4 : n = [113, 117, 111, 116]
  · subst h4; rfl
  simp only [if_neg h1, if_neg h2, if_neg h3, if_neg h4, findE]
theorem lookM_isSome (L : EnL) (n : List UInt8) : (lookM L n).isSome = ((fourE n).isSome || (findE n L).isSome) := by
  unfold lookM
  cases fourE n with
  | some t => rfl
  | none => cases findE n L <;> rfl
theorem lookM_snoc {L : EnL} {n t : List UInt8} (h : lookM L n = none) (q : List UInt8) : lookM (L ++ [(n, t)]) q = if q = n then some (t, true) else lookM L q := by
  have hn : fourE n = none ∧ findE n L = none := by
    unfold lookM at h
    cases h4 : fourE n with
    | some _ => rw [h4] at h; cases h
    | none =>
      rw [h4] at h
      cases hf : findE n L with
      | some _ => rw [hf] at h; cases h
      | none => exact ⟨rfl, rfl⟩
  by_cases hq : q = n
  · subst hq
    rw [if_pos rfl]
    unfold lookM
    rw [hn.1, find_snoc, hn.2]
    simp
  · rw [if_neg hq]
    unfold lookM
    rw [find_snoc]
    cases fourE q with
    | some _ => rfl
    | none =>
      cases findE q L with
      | some _ => rfl
      | none => simp only; rw [if_neg (fun e => hq e.symm)]

/-- Entities at block e, their map at block mb. -/
structure EnAt (w : World) (e mb : Nat) (L : EnL) (told : Nat) : Prop where
  blk : Blk w e 125 #[.map (some mb), .int .i64 (sizeE L), .int .i64 told]
  map : MapG w mb (L.length + 4) (lookM L)
  sz : sizeE L ≤ 200
  ln : L.length ≤ sizeE L
  tl : told ≤ 40
/-- What a call may turn: the two blocks. -/
structure T2 (e mb : Nat) (w w' : World) : Prop where
  os : w'.os = w.os
  tape : w'.tape = w.tape
  output : w'.output = w.output
  size : w.heap.size ≤ w'.heap.size
  block : ∀ k, k < w.heap.size → k ≠ e → k ≠ mb → w'.heap[k]? = w.heap[k]?
section
variable {w w1 w' : World} {e mb : Nat} {L : EnL} {told : Nat}
theorem T2.refl (e mb : Nat) (w : World) : T2 e mb w w := ⟨rfl, rfl, rfl, Nat.le_refl _, fun _ _ _ _ => rfl⟩
theorem T2.trans (h : T2 e mb w w1) (k : T2 e mb w1 w') : T2 e mb w w' :=
  ⟨k.os.trans h.os, k.tape.trans h.tape, k.output.trans h.output, Nat.le_trans h.size k.size, fun i hi h1 h2 => (k.block i (Nat.lt_of_lt_of_le hi h.size) h1 h2).trans (h.block i hi h1 h2)⟩
theorem T2.of_below (h : Below w.heap.size w w') : T2 e mb w w' := ⟨h.os, h.tape, h.output, h.size, fun k hk _ _ => h.block k hk⟩
theorem T2.below {B : Nat} (h : T2 e mb w w') (hB : B ≤ w.heap.size) (he : B ≤ e) (hm : B ≤ mb) : Below B w w' := ⟨h.os, h.tape, h.output, h.size, fun k hk => h.block k (by omega) (by omega) (by omega)⟩
theorem T2.grown_e (h : T2 e mb w w1) (hg : w1.grownBy w' (some e)) : T2 e mb w w' :=
  h.trans ⟨hg.os, hg.tape, hg.output, hg.size, fun k hk h1 _ => hg.block k hk (fun e => h1 (by injection e))⟩
theorem T2.grown_m (h : T2 e mb w w1) (hg : w1.grownBy w' (some mb)) : T2 e mb w w' :=
  h.trans ⟨hg.os, hg.tape, hg.output, hg.size, fun k hk _ h2 => hg.block k hk (fun e => h2 (by injection e))⟩
theorem T2.drew (h : T2 e mb w w') : T2 e mb w w'.drew := ⟨h.os, h.tape, h.output, h.size, h.block⟩
theorem T2.drewN (h : T2 e mb w w') (n : Nat) : T2 e mb w (w'.drewN n) := ⟨h.os, h.tape, h.output, h.size, h.block⟩
theorem EnAt.below (h : EnAt w e mb L told) (hb : Below w.heap.size w w') : EnAt w' e mb L told :=
  ⟨h.blk.below hb h.blk.lt, h.map.keep (hb.block mb h.map.lt), h.sz, h.ln, h.tl⟩
theorem EnAt.keep (h : EnAt w e mb L told) (he : w'.heap[e]? = w.heap[e]?) (hm : w'.heap[mb]? = w.heap[mb]?) : EnAt w' e mb L told :=
  ⟨he.trans h.blk, h.map.keep hm, h.sz, h.ln, h.tl⟩
theorem EnAt.drew (h : EnAt w e mb L told) : EnAt w.drew e mb L told := ⟨h.blk, h.map, h.sz, h.ln, h.tl⟩
theorem EnAt.drewN (h : EnAt w e mb L told) (n : Nat) : EnAt (w.drewN n) e mb L told := ⟨h.blk, h.map, h.sz, h.ln, h.tl⟩
theorem EnAt.ne (h : EnAt w e mb L told) : e ≠ mb := by
  rintro rfl
  obtain ⟨es, c, hm⟩ := h.map.obj
  have := h.blk
  unfold Blk at this
  rw [this] at hm
  cases hm
theorem EnAt.setTold (h : EnAt w e mb L told) (n : Nat) (hn : n ≤ 40) : EnAt (w.setCell ⟨e, 2, none⟩ (.int .i64 (n : Int))) e mb L n ∧ w.grownBy (w.setCell ⟨e, 2, none⟩ (.int .i64 (n : Int))) (some e) := by
  have hg : w.grownBy (w.setCell ⟨e, 2, none⟩ (.int .i64 (n : Int))) (some e) := only_setCell (World.grownBy.refl w (some e)) (.inl rfl) _
  refine ⟨⟨h.blk.set_ 2 _, h.map.keep (hg.block mb h.map.lt ?_), h.sz, h.ln, hn⟩, hg⟩
  intro hc
  injection hc with hc
  exact h.ne hc.symm
end

theorem predef_any (w : World) : Calls Tryz.prog 52 #[] w fun x w' => ∃ mb, x = .returned (.map (some mb)) ∧ w.heap.size ≤ mb ∧ MapG w' mb 4 (lookM []) ∧ Below w.heap.size w w' := by
  have hmm := @run_makeMap Tryz.prog
  have h0 := MapG.new w
  go_enter Tryz.func52, Tryz.ntmps52
  go_wp2
  obtain ⟨w1, hrun, h1, hg1⟩ := h0.put (n := ⟨#[108, 116]⟩) (s := ⟨#[60]⟩) false (by decide) (by decide)
  rw [hrun]
  clear hrun
  go_wp2
  obtain ⟨w2, hrun, h2, hg2⟩ := h1.put (n := ⟨#[103, 116]⟩) (s := ⟨#[62]⟩) false (by decide) (by decide)
  rw [hrun]
  clear hrun
  go_wp2
  obtain ⟨w3, hrun, h3, hg3⟩ := h2.put (n := ⟨#[97, 109, 112]⟩) (s := ⟨#[38]⟩) false (by decide) (by decide)
  rw [hrun]
  clear hrun
  go_wp2
  obtain ⟨w4, hrun, h4, hg4⟩ := h3.put (n := ⟨#[113, 117, 111, 116]⟩) (s := ⟨#[34]⟩) false (by decide) (by decide)
  rw [hrun]
  clear hrun
  go_wp2
  go_ret
  have b0 : Below w.heap.size w (w.alloc (.map #[] 0)) := (Below.refl _ _).alloc (Nat.le_refl _) _
  have b1 := below_only b0 hg1 b0.size (Nat.le_refl _)
  have b2 := below_only b1 hg2 b1.size (Nat.le_refl _)
  have b3 := below_only b2 hg3 b2.size (Nat.le_refl _)
  have b4 := below_only b3 hg4 b3.size (Nat.le_refl _)
  exact ⟨w.heap.size, rfl, Nat.le_refl _, h4.congr fun n => lookM_nil n, b4⟩

theorem enew_any (w : World) : Calls Tryz.prog 34 #[] w fun x w' => ∃ e mb, x = .returned (.pointer (some ⟨e, 0, none⟩)) ∧ w.heap.size ≤ e ∧ w.heap.size ≤ mb ∧ EnAt w' e mb [] 0 ∧ Below w.heap.size w w' := by
  go_enter Tryz.func34, Tryz.ntmps34
  go_wp2_with (go_at_call 52; refine (predef_any _).mono ?_; rintro x w1 ⟨mb, rfl, hmb, hm, hb⟩)
  go_ret
  have ha : Below w1.heap.size w1 (w1.alloc (.cells #[.map (some mb), .int .i64 0, .int .i64 0] 125)) := (Below.refl _ _).alloc (Nat.le_refl _) _
  exact ⟨w1.heap.size, mb, rfl, hb.size, hmb, ⟨Blk.new w1 _ _, hm.keep (ha.block mb hm.lt), by decide, by decide, by decide⟩, hb.trans (ha.mono hb.size)⟩
end Go.Proofs.YtjepnddndpmnnaaGreat
namespace Go.Proofs.YtjepnddndpmnnaaGreat
open Go.RowKit Go.Maps
set_option maxRecDepth 100000

set_option maxHeartbeats 1000000 in
theorem whole_utf (s : ByteArray) (w : World) (hm : s.size ≤ 140737488355328) :
    Calls Tryz.prog 139 #[.string s] w fun e w' => e = .returned (.bool (runesL s.data.toList).isSome) ∧ Below w.heap.size w w' := by
  go_enter Tryz.func139, Tryz.ntmps139
  go_wp2_with (first
    | (go_at_call 47; refine (new_any _).mono ?_; rintro e w' ⟨rfl, rfl⟩))
  go_loopw [8] (fun i wr => ∃ (k : Nat) (l lo hi : Int), k ≤ s.size ∧ i = .int .i64 k ∧ ScanAt wr w.heap.size l lo hi ∧ 0 ≤ l ∧ l ≤ 3 ∧ Below w.heap.size w wr ∧ Hid (UtfAt s.data.toList k l lo hi)) (fun i _ => s.size - (intOf i).toNat)
  case atStart => exact ⟨0, 0, 128, 191, Nat.zero_le _, rfl, Blk.new w _ _, by decide, by decide, (Below.refl _ _).alloc (Nat.le_refl _) _, Lib.hid ⟨0, [], rfl⟩⟩
  case round =>
    obtain ⟨k, l, lo, hi, hk, rfl, hsc, h0, h3, hbel, HW⟩ := hrel
    by_cases hlt : k < s.size
    · have hle := byte_le s[k]
      have HD := Lib.hid (drop_cons s k hlt)
      have hr := stL_range (b := s[k].toNat) h0 h3
      obtain ⟨hr0, hr3⟩ := hr
      go_wp2_with fail
      refine (step_any _ _ _ _ _ _ hsc h0 h3 (by omega) hle).mono ?_
      rintro e w1 ⟨rfl, hg1, hs1⟩
      have hbel1 : Below w.heap.size w w1 := below_only hbel hg1 hbel.size (Nat.le_refl _)
      clear hg1 hsc hbel
      generalize hO : stOk l lo hi s[k].toNat = O at *
      have HO := Lib.hid hO
      clear hO
      cases O
      · have HE := Lib.hid (utf_bad HD.out HW.out HO.out)
        go_wp2
        go_ret
        rw [HE.out]
        exact ⟨rfl, hbel1⟩
      · rw [if_pos rfl] at hs1
        go_wp2
        go_roundw
        case rel => exact ⟨k + 1, _, _, _, by omega, by go_num, hs1, hr0, hr3, hbel1, Lib.hid (utf_step HD.out HW.out HO.out)⟩
        case measure => simp [intOf]; omega
    · have hend := utf_end (by simp; omega) HW.out
      have HE := Lib.hid hend
      clear hend
      go_wp2_with (first
        | (go_at_call 51; refine (whole_any _ _ _ _ _ hsc).mono ?_; rintro e w' ⟨rfl, rfl⟩))
      go_ret
      rw [HE.out]
      exact ⟨rfl, hbel⟩
end Go.Proofs.YtjepnddndpmnnaaGreat

/-
  names: a Scope as it lies: a block, a row of maps, the maps; Open, New.
-/
import Derived.Test.YtgpnhgjiglnmmaaNamesE
import Derived.Test.YtgpnhgjiglnmmaaNamesS
import Derived.Test.YtgpnhgjiglnmmaaTch
import Derived.Maps.OwnIn
namespace Go.Proofs.Ytgpnhgjiglnmmaa
open Go.RowKit Go.Maps
set_option maxRecDepth 100000

theorem strLaw : Keyed Try.prog 9 := string_keyed Try.underlying9

/-- How a binding reads. -/
def elemR : Value → Option (DataW Unit × List MemPlace)
  | .agg cs => match cs.toList with
    | [.string s] => some (.lit (.string s.data.toList), [])
    | _ => none
  | _ => none
theorem elemR_mk (s : ByteArray) : elemR (.agg #[.string s]) = some (.lit (.string s.data.toList), []) := rfl
theorem elemR_inv {v : Value} {z : DataW Unit × List MemPlace} (h : elemR v = some z) : ∃ s : ByteArray, v = .agg #[.string s] ∧ z = (.lit (.string s.data.toList), []) := by
  cases v with
  | agg cs =>
    obtain ⟨l⟩ := cs
    match l with
    | [] => cases h
    | [x] =>
      cases x <;> simp [elemR] at h
      rename_i s
      exact ⟨s, rfl, h.symm⟩
    | x :: y :: r => simp [elemR] at h
  | _ => cases h

/-- A map that holds just m. -/
def MapAt (w : World) (b : Nat) (m : Sc) : Prop :=
  ∃ D, w.ownsMap (H := Unit) Try.prog 9 elemR b m.length D ∧ (∀ p, Maps.has D (.string p) = (lookP p m).isSome) ∧ (∀ p z, D.atKey (.string p) z = match lookP p m with | some s => .lit (.string s) | none => z) ∧ Maps.size D = m.length

section
variable {w w' : World} {b : Nat} {m : Sc}
theorem MapAt.lt (h : MapAt w b m) : b < w.heap.size := by obtain ⟨D, h, _⟩ := h; exact h.lt
theorem MapAt.obj (h : MapAt w b m) : ∃ es c, w.heap[b]? = some (.map es c) := by obtain ⟨D, ⟨es, c, hb, _⟩, _⟩ := h; exact ⟨es, c, hb⟩
theorem MapAt.keep (h : MapAt w b m) (hk : w'.heap[b]? = w.heap[b]?) : MapAt w' b m := by
  obtain ⟨D, ⟨es, c, hb, r⟩, h2⟩ := h
  exact ⟨D, ⟨es, c, hk.trans hb, r⟩, h2⟩
theorem MapAt.below {B : Nat} (h : MapAt w b m) (hb : Below B w w') (hB : b < B) : MapAt w' b m := h.keep (hb.block b hB)
theorem MapAt.new (w : World) : MapAt (w.alloc (.map #[] 0)) w.heap.size [] :=
  ⟨.map [], World.ownsMap_made w _ _ _, fun _ => rfl, fun _ _ => rfl, rfl⟩
theorem MapAt.put (h : MapAt w b m) {p s : ByteArray} (hp : p.size ≤ maxLen) (hn : m.length < maxLen) (hl : lookP p.data.toList m = none) :
    ∃ w', (Instr.mapUpdate 56 (.map (some b)) (.string p) (.agg #[.string s])).run Try.prog w = .ok () w' ∧ MapAt w' b ((p.data.toList, s.data.toList) :: m) ∧ w.grownBy w' (some b) := by
  obtain ⟨D, h1, h2, h3, h4⟩ := h
  obtain ⟨w', hr, ho, hg⟩ := h1.update (t := 56) strLaw Try.underlying56 hn (WideMaps.keyOf_string_mk Try.underlying9 hp) (elemR_mk s)
  have hk : WideAt.IsKeyLit (.string p.data.toList) := by simp [WideAt.IsKeyLit]
  have hT := h1.tidy strLaw
  refine ⟨w', hr, ⟨_, ho, fun q => ?_, fun q z => ?_, ?_⟩, hg⟩
  · by_cases hq : q = p.data.toList
    · subst hq
      rw [has_put_same h1.isMap hk]
      simp [lookP]
    · rw [has_put_other (by simpa using hq), h2]
      simp [lookP, Ne.symm hq]
  · by_cases hq : q = p.data.toList
    · subst hq
      rw [atKey_put_same h1.isMap hk]
      simp [lookP]
    · rw [atKey_put_other (by simpa using hq), h3]
      simp [lookP, Ne.symm hq]
  · rw [size_put hT, h2, hl]
    simp [h4]
end

section
variable {w : World} {b : Nat} {m : Sc} {ops : Array Oper} {rest : List Oper} {o : Oper} {a : Act} {Q : Exit → Act → World → Prop}
/-- A binding asked for, with ok. -/
theorem wp_look (h : MapAt w b m) (hg : o.guard = none) (x y : Operand) (hop : o.op = Op.lookup 56 x y true) (p : ByteArray) (hp : p.size ≤ 140737488355328) (hm : a.eval x = .map (some b)) (hx : a.eval y = .string p)
    (hK : ∀ s : ByteArray, (∀ t, lookP p.data.toList m = some t → s.data.toList = t) → wpList Try.prog ops Q rest (a.put o.dst (.tuple #[.agg #[.string s], .bool (lookP p.data.toList m).isSome])) w) :
    wpList Try.prog ops Q (o :: rest) a w := by
  obtain ⟨D, h1, h2, h3, _⟩ := h
  refine wpList_lookup_own_ok w hg x y _ hop 9 58 strLaw Try.underlying56 elemR (Try.zeroValue58 _) (.lit (.string [])) [] (elemR_mk ⟨#[]⟩) b _ D hm h1 _ _ hx (WideMaps.keyOf_string_mk Try.underlying9 (by simp only [maxLen]; omega)) ?_
  intro v ps hv
  obtain ⟨s, rfl, hz⟩ := elemR_inv hv
  rw [h2]
  refine hK s fun t ht => ?_
  rw [h3, ht] at hz
  injection hz with hz _
  injection hz with hz
  injection hz with hz
  exact hz.symm
theorem wp_mlen (h : MapAt w b m) (hg : o.guard = none) (x : Operand) (hop : o.op = Op.call { callee := Callee.builtin Builtin.len, args := #[x], argTypes := #[56] }) (hm : a.eval x = .map (some b))
    (hK : wpList Try.prog ops Q rest (a.put o.dst (.int .i64 m.length)) w) :
    wpList Try.prog ops Q (o :: rest) a w := by
  obtain ⟨D, h1, _, _, h4⟩ := h
  refine wpList_len_own w hg x _ hop 9 58 Try.underlying56 elemR b _ D hm h1 ?_
  rw [h4]
  exact hK
theorem wp_mput (h : MapAt w b m) (hg : o.guard = none) (x y z : Operand) (hop : o.op = Op.mapUpdate 56 x y z) (p s : ByteArray) (hp : p.size ≤ 140737488355328) (hn : m.length < 100) (hl : lookP p.data.toList m = none)
    (hm : a.eval x = .map (some b)) (hx : a.eval y = .string p) (hz : a.eval z = .agg #[.string s])
    (hK : ∀ w', MapAt w' b ((p.data.toList, s.data.toList) :: m) → w.grownBy w' (some b) → wpList Try.prog ops Q rest (a.put o.dst undef) w') :
    wpList Try.prog ops Q (o :: rest) a w := by
  obtain ⟨w', hr, hm', hg'⟩ := h.put (s := s) (show p.size ≤ maxLen by simp only [maxLen]; omega) (by simp only [maxLen]; omega) hl
  refine wpList_plain hg fun K hK' => ?_
  unfold Oper.wp
  simp [execOp, hop, hm, hx, hz, hr, Result.andThen]
  exact hK' _ _ (hK w' hm' hg')
end

/-- The maps of the scopes, innermost first: at different blocks, none below base. -/
def MapsAt (w : World) (base : Nat) : List Nat → St → Prop
  | [], [] => True
  | b :: bs, m :: st => base ≤ b ∧ b ∉ bs ∧ MapAt w b m ∧ MapsAt w base bs st
  | _, _ => False
def mV (b : Nat) : Value := .map (some b)
theorem row_shape {w : World} {base : Nat} {e : TypeId} {v : Value} {xs : List Value} {n : Nat} (h : ORow w base e v xs) (hn : xs.length = n) : ∃ A cap, v = .slice A n cap := by subst hn; exact h.shape

theorem MapsAt.len {w : World} {base : Nat} : ∀ {bs : List Nat} {st : St}, MapsAt w base bs st → bs.length = st.length
  | [], [], _ => rfl
  | _ :: _, _ :: _, h => by simp [MapsAt.len h.2.2.2]
  | [], _ :: _, h => h.elim
  | _ :: _, [], h => h.elim
theorem MapsAt.keep {w w' : World} {base : Nat} : ∀ {bs : List Nat} {st : St}, MapsAt w base bs st → (∀ b ∈ bs, (∃ es c, w.heap[b]? = some (.map es c)) → w'.heap[b]? = w.heap[b]?) → MapsAt w' base bs st
  | [], [], _, _ => trivial
  | b :: _, _ :: _, h, hk => ⟨h.1, h.2.1, h.2.2.1.keep (hk b List.mem_cons_self h.2.2.1.obj), MapsAt.keep h.2.2.2 (fun c hc => hk c (List.mem_cons_of_mem _ hc))⟩
  | [], _ :: _, h, _ => h.elim
  | _ :: _, [], h, _ => h.elim
theorem MapsAt.lt {w : World} {base : Nat} : ∀ {bs : List Nat} {st : St}, MapsAt w base bs st → ∀ b ∈ bs, base ≤ b ∧ b < w.heap.size
  | [], [], _ => fun _ hb => by cases hb
  | b :: bs, _ :: _, h => fun c hc => by
    rcases List.mem_cons.1 hc with rfl | hc
    · exact ⟨h.1, h.2.2.1.lt⟩
    · exact MapsAt.lt h.2.2.2 c hc
  | [], _ :: _, h => h.elim
  | _ :: _, [], h => h.elim
theorem MapsAt.at {w : World} {base : Nat} : ∀ {bs : List Nat} {st : St}, MapsAt w base bs st → ∀ k (h : k < bs.length) (h' : k < st.length), MapAt w bs[k] st[k]
  | b :: bs, m :: st, h, 0, _, _ => h.2.2.1
  | b :: bs, m :: st, h, k + 1, h1, h2 => by simpa using MapsAt.at h.2.2.2 k (by simpa using h1) (by simpa using h2)
  | [], _, _, _, h1, _ => absurd h1 (by simp)
  | _ :: _, [], h, _, _, _ => h.elim

/-- A Scope at block g. -/
def SAt (w : World) (base g : Nat) (st : St) : Prop :=
  ∃ A cap bs, base ≤ g ∧ Blk w g 52 #[.slice A bs.length cap] ∧ ORow w base 56 (.slice A bs.length cap) (bs.reverse.map mV) ∧ MapsAt w base bs st
/-- What its calls may turn. -/
def sObj : Obj → Prop
  | .cells _ t _ => t = 52 ∨ t = 56
  | .map _ _ => True
  | _ => False

theorem SAt.tch {w w' : World} {base g : Nat} {st : St} {p : Obj → Prop} (h : SAt w base g st) (ht : Tch base p w w') (h1 : ∀ cs t fr, t = 52 ∨ t = 56 → ¬ p (.cells cs t fr)) (h2 : ∀ es c, ¬ p (.map es c)) : SAt w' base g st := by
  obtain ⟨A, cap, bs, hg, hk, ho, hm⟩ := h
  refine ⟨A, cap, bs, hg, hk.tch ht (.inr (h1 _ _ _ (.inl rfl))), row_tch ho ht (fun _ _ => h1 _ _ _ (.inr rfl)), hm.keep fun b _ hb => ?_⟩
  obtain ⟨es, c, hb⟩ := hb
  rw [ht.block b _ hb (.inr (h2 _ _)), hb]
theorem SAt.below {w w' : World} {base g : Nat} {st : St} (h : SAt w base g st) (hb : Below w.heap.size w w') : SAt w' base g st :=
  h.tch (p := fun _ => False) (Tch.of_below hb) (fun _ _ _ _ h => h) (fun _ _ h => h)
theorem SAt.lt {w : World} {base g : Nat} {st : St} (h : SAt w base g st) : g < w.heap.size := by obtain ⟨_, _, _, _, hk, _⟩ := h; exact hk.lt
theorem SAt.base {w : World} {base g : Nat} {st : St} (h : SAt w base g st) : base ≤ g := by obtain ⟨_, _, _, hg, _⟩ := h; exact hg

theorem snew_any (w : World) (base : Nat) (hb : base ≤ w.heap.size) : Calls Try.prog 18 #[] w fun e w' => e = .returned (.pointer (some ⟨w.heap.size, 0, none⟩)) ∧ SAt w' base w.heap.size [] ∧ Below w.heap.size w w' := by
  go_enter Try.func18, Try.ntmps18
  go_wp2
  go_ret
  exact ⟨rfl, ⟨none, 0, [], hb, Blk.new w _ _, ORow.nil _ _ _, trivial⟩, (Below.refl _ _).alloc (Nat.le_refl _) _⟩
end Go.Proofs.Ytgpnhgjiglnmmaa

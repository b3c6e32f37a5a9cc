/-
  names: a Scope as it lies: a block, a row of maps, the maps; Open, New.
  names: Open and Close of a Scope.
-/
import Derived.Test.YtjepnddndpmnnaaGreatGsB18
import Derived.Test.YtjepnddndpmnnaaGreatGsB04
import Derived.Maps.OwnIn
namespace Go.Proofs.YtjepnddndpmnnaaGreat.Ns
open Go.RowKit Go.Maps
set_option maxRecDepth 100000
set_option linter.unusedSimpArgs false
set_option linter.unusedVariables false
set_option linter.unusedSectionVars false
variable [Fo]

theorem strLaw : Keyed Tryz.prog 9 := string_keyed Tryz.underlying9

/-- How a binding reads. -/
def elemR : Value → Option (DataW Unit × List MemPlace)
  | .agg cs => match cs.toList with
    | [.string s] => some (.lit (.string s.data.toList), [])
    | _ => none
  | _ => none
theorem elemR_mk (s : ByteArray) : elemR (.agg #[.string s]) = some (.lit (.string s.data.toList), []) := rfl
theorem elemR_inv {v : Value} {z : DataW Unit × List MemPlace} (h : elemR v = some z) : ∃ s : ByteArray, v = .agg #[.string s] ∧ z = (.lit (.string s.data.toList), []) := by
  cases v with
  | agg cs =>
    obtain ⟨l⟩ := cs
    match l with
    | [] => cases h
    | [x] =>
      cases x <;> simp [elemR] at h
      rename_i s
      exact ⟨s, rfl, h.symm⟩
    | x :: y :: r => simp [elemR] at h
  | _ => cases h

/-- A map that holds just m. -/
def MapAt (w : World) (b : Nat) (m : Sc) : Prop :=
  ∃ D, w.ownsMap (H := Unit) Tryz.prog 9 elemR b m.length D ∧ (∀ p, Maps.has D (.string p) = (lookP p m).isSome) ∧ (∀ p z, D.atKey (.string p) z = match lookP p m with | some s => .lit (.string s) | none => z) ∧ Maps.size D = m.length

section
variable {w w' : World} {b : Nat} {m : Sc}
theorem MapAt.lt (h : MapAt w b m) : b < w.heap.size := by obtain ⟨D, h, _⟩ := h; exact h.lt
theorem MapAt.obj (h : MapAt w b m) : ∃ es c, w.heap[b]? = some (.map es c) := by obtain ⟨D, ⟨es, c, hb, _⟩, _⟩ := h; exact ⟨es, c, hb⟩
theorem MapAt.keep (h : MapAt w b m) (hk : w'.heap[b]? = w.heap[b]?) : MapAt w' b m := by
  obtain ⟨D, ⟨es, c, hb, r⟩, h2⟩ := h
  exact ⟨D, ⟨es, c, hk.trans hb, r⟩, h2⟩
theorem MapAt.below {B : Nat} (h : MapAt w b m) (hb : Below B w w') (hB : b < B) : MapAt w' b m := h.keep (hb.block b hB)
theorem MapAt.new (w : World) : MapAt (w.alloc (.map #[] 0)) w.heap.size [] :=
  ⟨.map [], World.ownsMap_made w _ _ _, fun _ => rfl, fun _ _ => rfl, rfl⟩
theorem MapAt.put (h : MapAt w b m) {p s : ByteArray} (hp : p.size ≤ maxLen) (hn : m.length < maxLen) (hl : lookP p.data.toList m = none) :
    ∃ w', (Instr.mapUpdate 210 (.map (some b)) (.string p) (.agg #[.string s])).run Tryz.prog w = .ok () w' ∧ MapAt w' b ((p.data.toList, s.data.toList) :: m) ∧ w.grownBy w' (some b) := by
  obtain ⟨D, h1, h2, h3, h4⟩ := h
  obtain ⟨w', hr, ho, hg⟩ := h1.update (t := 210) strLaw Tryz.underlying210 hn (WideMaps.keyOf_string_mk Tryz.underlying9 hp) (elemR_mk s)
  have hk : WideAt.IsKeyLit (.string p.data.toList) := by simp [WideAt.IsKeyLit]
  have hT := h1.tidy strLaw
  refine ⟨w', hr, ⟨_, ho, fun q => ?_, fun q z => ?_, ?_⟩, hg⟩
  · by_cases hq : q = p.data.toList
    · subst hq
      rw [has_put_same h1.isMap hk]
      simp [lookP]
    · rw [has_put_other (by simpa using hq), h2]
      simp [lookP, Ne.symm hq]
  · by_cases hq : q = p.data.toList
    · subst hq
      rw [atKey_put_same h1.isMap hk]
      simp [lookP]
    · rw [atKey_put_other (by simpa using hq), h3]
      simp [lookP, Ne.symm hq]
  · rw [size_put hT, h2, hl]
    simp [h4]
end

section
variable {w : World} {b : Nat} {m : Sc} {ops : Array Oper} {rest : List Oper} {o : Oper} {a : Act} {Q : Exit → Act → World → Prop}
/-- A binding asked for, with ok. -/
theorem wp_look (h : MapAt w b m) (hg : o.guard = none) (x y : Operand) (hop : o.op = Op.lookup 210 x y true) (p : ByteArray) (hp : p.size ≤ 140737488355328) (hm : a.eval x = .map (some b)) (hx : a.eval y = .string p)
    (hK : ∀ s : ByteArray, (∀ t, lookP p.data.toList m = some t → s.data.toList = t) → wpList Tryz.prog ops Q rest (a.put o.dst (.tuple #[.agg #[.string s], .bool (lookP p.data.toList m).isSome])) w) :
    wpList Tryz.prog ops Q (o :: rest) a w := by
  obtain ⟨D, h1, h2, h3, _⟩ := h
  refine wpList_lookup_own_ok w hg x y _ hop 9 214 strLaw Tryz.underlying210 elemR (Tryz.zeroValue214 _) (.lit (.string [])) [] (elemR_mk ⟨#[]⟩) b _ D hm h1 _ _ hx (WideMaps.keyOf_string_mk Tryz.underlying9 (by simp only [maxLen]; omega)) ?_
  intro v ps hv
  obtain ⟨s, rfl, hz⟩ := elemR_inv hv
  rw [h2]
  refine hK s fun t ht => ?_
  rw [h3, ht] at hz
  injection hz with hz _
  injection hz with hz
  injection hz with hz
  exact hz.symm
theorem wp_mlen (h : MapAt w b m) (hg : o.guard = none) (x : Operand) (hop : o.op = Op.call { callee := Callee.builtin Builtin.len, args := #[x], argTypes := #[210] }) (hm : a.eval x = .map (some b))
    (hK : wpList Tryz.prog ops Q rest (a.put o.dst (.int .i64 m.length)) w) :
    wpList Tryz.prog ops Q (o :: rest) a w := by
  obtain ⟨D, h1, _, _, h4⟩ := h
  refine wpList_len_own w hg x _ hop 9 214 Tryz.underlying210 elemR b _ D hm h1 ?_
  rw [h4]
  exact hK
theorem wp_mput (h : MapAt w b m) (hg : o.guard = none) (x y z : Operand) (hop : o.op = Op.mapUpdate 210 x y z) (p s : ByteArray) (hp : p.size ≤ 140737488355328) (hn : m.length < 100) (hl : lookP p.data.toList m = none)
    (hm : a.eval x = .map (some b)) (hx : a.eval y = .string p) (hz : a.eval z = .agg #[.string s])
    (hK : ∀ w', MapAt w' b ((p.data.toList, s.data.toList) :: m) → w.grownBy w' (some b) → wpList Tryz.prog ops Q rest (a.put o.dst undef) w') :
    wpList Tryz.prog ops Q (o :: rest) a w := by
  obtain ⟨w', hr, hm', hg'⟩ := h.put (s := s) (show p.size ≤ maxLen by simp only [maxLen]; omega) (by simp only [maxLen]; omega) hl
  refine wpList_plain hg fun K hK' => ?_
  unfold Oper.wp
  simp [execOp, hop, hm, hx, hz, hr, Result.andThen]
  exact hK' _ _ (hK w' hm' hg')
end

/-- What a Scope's calls may turn. -/
def sObj : Obj → Prop
  | .cells _ t _ => t = 128 ∨ t = 210
  | .map _ _ => True
  | _ => False
def sMap : Obj → Prop
  | .map _ _ => True
  | _ => False

/-- The maps of the scopes, innermost first: at different blocks of S, none below base. -/
def MapsAt (w : World) (base : Nat) (S : Nat → Prop) : List Nat → St → Prop
  | [], [] => True
  | b :: bs, m :: st => (base ≤ b ∧ S b) ∧ b ∉ bs ∧ MapAt w b m ∧ MapsAt w base S bs st
  | _, _ => False
def mV (b : Nat) : Value := .map (some b)
theorem row_shape {w : World} {base : Nat} {e : TypeId} {v : Value} {xs : List Value} {n : Nat} (h : ORow w base e v xs) (hn : xs.length = n) : ∃ A cap, v = .slice A n cap := by subst hn; exact h.shape

theorem MapsAt.len {w : World} {base : Nat} {S : Nat → Prop} : ∀ {bs : List Nat} {st : St}, MapsAt w base S bs st → bs.length = st.length
  | [], [], _ => rfl
  | _ :: _, _ :: _, h => by simp [MapsAt.len h.2.2.2]
  | [], _ :: _, h => h.elim
  | _ :: _, [], h => h.elim
theorem MapsAt.keep {w w' : World} {base : Nat} {S : Nat → Prop} : ∀ {bs : List Nat} {st : St}, MapsAt w base S bs st → (∀ b ∈ bs, (∃ es c, w.heap[b]? = some (.map es c)) → w'.heap[b]? = w.heap[b]?) → MapsAt w' base S bs st
  | [], [], _, _ => trivial
  | b :: _, _ :: _, h, hk => ⟨h.1, h.2.1, h.2.2.1.keep (hk b List.mem_cons_self h.2.2.1.obj), MapsAt.keep h.2.2.2 (fun c hc => hk c (List.mem_cons_of_mem _ hc))⟩
  | [], _ :: _, h, _ => h.elim
  | _ :: _, [], h, _ => h.elim
theorem MapsAt.mono {w : World} {base : Nat} {S S' : Nat → Prop} (hS : ∀ k o, w.heap[k]? = some o → S k → sMap o → S' k) : ∀ {bs : List Nat} {st : St}, MapsAt w base S bs st → MapsAt w base S' bs st
  | [], [], _ => trivial
  | b :: _, _ :: _, h => ⟨⟨h.1.1, by obtain ⟨es, c, ho⟩ := h.2.2.1.obj; exact hS b _ ho h.1.2 trivial⟩, h.2.1, h.2.2.1, MapsAt.mono hS h.2.2.2⟩
  | [], _ :: _, h => h.elim
  | _ :: _, [], h => h.elim
theorem MapsAt.lt {w : World} {base : Nat} {S : Nat → Prop} : ∀ {bs : List Nat} {st : St}, MapsAt w base S bs st → ∀ b ∈ bs, base ≤ b ∧ b < w.heap.size
  | [], [], _ => fun _ hb => by cases hb
  | b :: bs, _ :: _, h => fun c hc => by
    rcases List.mem_cons.1 hc with rfl | hc
    · exact ⟨h.1.1, h.2.2.1.lt⟩
    · exact MapsAt.lt h.2.2.2 c hc
  | [], _ :: _, h => h.elim
  | _ :: _, [], h => h.elim
theorem MapsAt.sub {w : World} {base : Nat} {S : Nat → Prop} : ∀ {bs : List Nat} {st : St}, MapsAt w base S bs st → ∀ b ∈ bs, S b
  | [], [], _ => fun _ hb => by cases hb
  | b :: bs, _ :: _, h => fun c hc => by
    rcases List.mem_cons.1 hc with rfl | hc
    · exact h.1.2
    · exact MapsAt.sub h.2.2.2 c hc
  | [], _ :: _, h => h.elim
  | _ :: _, [], h => h.elim
theorem MapsAt.at {w : World} {base : Nat} {S : Nat → Prop} : ∀ {bs : List Nat} {st : St}, MapsAt w base S bs st → ∀ k (h : k < bs.length) (h' : k < st.length), MapAt w bs[k] st[k]
  | b :: bs, m :: st, h, 0, _, _ => h.2.2.1
  | b :: bs, m :: st, h, k + 1, h1, h2 => by simpa using MapsAt.at h.2.2.2 k (by simpa using h1) (by simpa using h2)
  | [], _, _, _, h1, _ => absurd h1 (by simp)
  | _ :: _, [], h, _, _, _ => h.elim

/-- A Scope at block g, all of whose blocks are of S. -/
def SAt (w : World) (base : Nat) (S : Nat → Prop) (g : Nat) (st : St) : Prop :=
  (∀ k, S k → k < w.heap.size) ∧ ∃ A cap bs, (base ≤ g ∧ S g) ∧ Blk w g 128 #[.slice A bs.length cap] ∧ ORow w base 210 (.slice A bs.length cap) (bs.reverse.map mV) ∧ (∀ r, A = some ⟨r, 0, none⟩ → S r) ∧ MapsAt w base S bs st

theorem SAt.keep {w w' : World} {base g : Nat} {S : Nat → Prop} {st : St} (h : SAt w base S g st) (hs : w.heap.size ≤ w'.heap.size) (hk : ∀ k o, S k → w.heap[k]? = some o → w'.heap[k]? = some o) : SAt w' base S g st := by
  obtain ⟨hl, A, cap, bs, hg, hb, ho, hr, hm⟩ := h
  refine ⟨fun k h => Nat.lt_of_lt_of_le (hl k h) hs, A, cap, bs, hg, hk _ _ hg.2 hb, ⟨ho.1, ?_⟩, hr, hm.keep fun b hbm _ => ?_⟩
  · rcases ho.2 with hn | ⟨r, c, cur, hv, hgr, hh, q⟩
    · exact .inl hn
    · exact .inr ⟨r, c, cur, hv, hgr, hk r _ (hr r (by injection hv with h1 _ _)) hh, q⟩
  · obtain ⟨o, ho'⟩ := heap_some (w := w) (hm.lt b hbm).2
    rw [hk b o (hm.sub b hbm) ho', ho']
theorem SAt.off {w w' : World} {base g : Nat} {S T : Nat → Prop} {p : Obj → Prop} {st : St} (h : SAt w base S g st) (ht : TS T p w w') (hd : ∀ k, S k → ¬ T k) : SAt w' base S g st :=
  h.keep ht.size fun k o hs ho => ht.block k o ho (.inl (hd k hs))
theorem SAt.below {w w' : World} {base g : Nat} {S : Nat → Prop} {st : St} (h : SAt w base S g st) (hb : Below w.heap.size w w') : SAt w' base S g st :=
  h.keep hb.size fun k o _ ho => (hb.block k (heap_lt ho)).trans ho
theorem SAt.lt {w : World} {base g : Nat} {S : Nat → Prop} {st : St} (h : SAt w base S g st) : g < w.heap.size := by obtain ⟨_, _, _, _, _, hk, _⟩ := h; exact hk.lt
theorem SAt.base {w : World} {base g : Nat} {S : Nat → Prop} {st : St} (h : SAt w base S g st) : base ≤ g := by obtain ⟨_, _, _, _, hg, _⟩ := h; exact hg.1
theorem SAt.mono {w : World} {base g : Nat} {S S' : Nat → Prop} {st : St} (h : SAt w base S g st) (hl : ∀ k, S' k → k < w.heap.size) (hS : ∀ k o, w.heap[k]? = some o → S k → sObj o → S' k) : SAt w base S' g st := by
  obtain ⟨_, A, cap, bs, hg, hb, ho, hr, hm⟩ := h
  refine ⟨hl, A, cap, bs, ⟨hg.1, hS _ _ hb hg.2 (.inl rfl)⟩, hb, ho, fun r e => ?_, hm.mono fun k o ho hk hq => hS k o ho hk (by cases o <;> first | exact trivial | exact hq.elim)⟩
  obtain ⟨cur, hc⟩ := row_obj ho (g := r) (by rw [e]; rfl)
  exact hS r _ hc (hr r e) (.inr rfl)
/-- The same, S cut to the kinds of a Scope. -/
def sCut (S : Nat → Prop) (w : World) (k : Nat) : Prop := S k ∧ ∀ o, w.heap[k]? = some o → sObj o
theorem SAt.min {w : World} {base g : Nat} {S : Nat → Prop} {st : St} (h : SAt w base S g st) : SAt w base (sCut S w) g st :=
  h.mono (fun k hk => h.1 k hk.1) fun k o ho hk hp => ⟨hk, fun q hq => by rw [ho] at hq; injection hq with hq; rw [← hq]; exact hp⟩

theorem snew_any (w : World) (base : Nat) (hb : base ≤ w.heap.size) : Calls Tryz.prog 35 #[] w fun e w' => e = .returned (.pointer (some ⟨w.heap.size, 0, none⟩)) ∧ SAt w' base (fun k => w.heap.size ≤ k ∧ k < w'.heap.size) w.heap.size [] ∧ Below w.heap.size w w' := by
  go_enter Tryz.func35, Tryz.ntmps35
  go_wp2
  go_ret
  exact ⟨rfl, ⟨fun k h => h.2, none, 0, [], ⟨hb, Nat.le_refl _, by simp⟩, Blk.new w _ _, ORow.nil _ _ _, by simp, trivial⟩, (Below.refl _ _).alloc (Nat.le_refl _) _⟩
end Go.Proofs.YtjepnddndpmnnaaGreat.Ns
namespace Go.Proofs.YtjepnddndpmnnaaGreat.Ns
open Go.RowKit Go.Maps
set_option maxRecDepth 100000
set_option linter.unusedSectionVars false
variable [Fo]

theorem Tryz.infoBs : (Tryz.prog.info? 210).map (fun i => (i.zero, i.size, i.bytes)) = some (some (.map none), 1, 8) := by kernel_rfl
theorem maps_row {bs : List Nat} {b : Nat} : (b :: bs).reverse.map mV = bs.reverse.map mV ++ [mV b] := by simp

theorem own_addr {w : World} {base r n cap : Nat} {e : TypeId} {A : Option Addr} {xs : List Value} (h : ORow w base e (.slice A n cap) xs) (hr : (Value.slice A n cap).ownBlock = some r) : A = some ⟨r, 0, none⟩ := by
  rcases h.2 with ⟨hv, _⟩ | ⟨g, c, cur, hv, _⟩
  · injection hv with h1; subst h1; cases hr
  · injection hv with h1; subst h1; have e : g = r := Option.some.inj hr; rw [e]
set_option maxHeartbeats 400000 in
theorem open_any (w : World) (base g : Nat) (S : Nat → Prop) (st : St) (hs : SAt w base S g st) (hn : (st.length + 1) * 8 ≤ 140737488355328) :
    Calls Tryz.prog 141 #[.pointer (some ⟨g, 0, none⟩)] w fun e w' => e = .returned (.tuple #[]) ∧ SAt w' base (Ext S w w') g ([] :: st) ∧ TS S anyO w w' := by
  obtain ⟨hSl, A, cap, bs, ⟨hg, hSg⟩, hk, ho, hSr, hm⟩ := hs
  have hlt := hk.lt
  have hc : w.cell? ⟨g, 0, none⟩ = some (.slice A bs.length cap) := hk.cell 0
  have hf := hk.frozen 0
  have hlen := hm.len
  have hmm := @run_makeMap Tryz.prog
  have hN := MapAt.new w
  have hbl : (bs.reverse.map mV).length = bs.length := by simp
  have hxl : (bs.reverse.map mV).length ≤ 17592186044415 := by omega
  have hbase : base ≤ (w.alloc (.map #[] 0)).heap.size := by simp; omega
  have hrn : ∀ b, (bs.reverse.map mV ++ [mV b]).length = (b :: bs).length := by intro b; simp
  have HL := Lib.hid hrn
  have HN := Lib.hid hlen
  clear hbl hlen hrn
  go_enter Tryz.func141, Tryz.ntmps141
  go_wp2_with (first
    | (at_builtin; (refine wp_app1 rfl _ _ 126 rfl base 210 (.map none) 8 Tryz.underlying126 Tryz.infoBs rfl _ _ (mV w.heap.size) rfl (by exact ORow.alloc ho _) rfl 1 (by rw [World.size_alloc]; rfl) (by simp only [maxLen]; omega) (by omega) hbase ?_; intro v1 w1 hown1 hg1 hnb1; obtain ⟨A1, c1, rfl⟩ := row_shape hown1 (HL.out _); have hk1 : Blk w1 g 128 _ := Blk.grown (Blk.alloc hk _) hg1 (by intro e; obtain ⟨cur, hcur⟩ := row_obj ho e.symm; rw [hk] at hcur; cases hcur); have hc1 : w1.cell? ⟨g, 0, none⟩ = some (.slice A bs.length cap) := hk1.cell 0; have hf1 := hk1.frozen 0)))
  go_end0
  have ho0 : ORow (w.alloc (.map #[] 0)) base 210 _ _ := ORow.alloc ho _
  have hT : TS S anyO w w1 := (TS.alloc (TS.refl _ _ _) _).trans (TS.of_row ho0 hg1 (fun r hr => hSr r (by cases A with | none => cases hr | some a => exact own_addr ho hr)) (fun _ => trivial))
  have hsz1 : w.heap.size < w1.heap.size := by have := hg1.size; simp at this; omega
  have hne : ∀ g', (Value.slice A bs.length cap).ownBlock = some g' → ∃ cur, (w.alloc (.map #[] 0)).heap[g']? = some (.cells cur 210 (0, 0)) := fun g' e => row_obj ho0 e
  have hmap : ∀ b : Nat, (∃ es c, (w.alloc (.map #[] 0)).heap[b]? = some (Obj.map es c)) → w1.heap[b]? = (w.alloc (.map #[] 0)).heap[b]? := by
    rintro b ⟨es, c, hb⟩
    refine hg1.block b (Array.getElem?_eq_some_iff.1 hb).1 ?_
    intro e
    obtain ⟨cur, hcur⟩ := hne b e.symm
    rw [hb] at hcur
    cases hcur
  have hmA : MapsAt (w.alloc (.map #[] 0)) base S bs st := hm.keep fun b hb _ => Below.heap_alloc w _ b (hm.lt b hb).2
  refine ⟨rfl, ⟨Ext.lt hSl (by simp; omega), _, _, w.heap.size :: bs, ⟨hg, .inl hSg⟩, hk1.set_ 0 _, ?_, ?_, ?_⟩, hT.set hk1 hSg trivial 0 _⟩
  · rw [maps_row]
    refine ORow.kept hown1 (only_setCell (p := ⟨g, 0, none⟩) (World.grownBy.refl _ (some g)) (.inl rfl) _) (.inr ?_)
    intro e
    obtain ⟨cur, hcur⟩ := row_obj hown1 e
    rw [hk1] at hcur
    cases hcur
  · intro r hr
    have hr' := hr
    rcases hnb1 with e | e
    · have e3 : (Value.slice A1 (bs.length + 1) c1).ownBlock = (Value.slice A bs.length cap).ownBlock := e
      exact .inl (hSr r (own_addr ho (by rw [← e3, hr]; rfl)))
    · have e3 : (Value.slice A1 (bs.length + 1) c1).ownBlock = some (w.heap.size + 1 + 1) := by simpa using e
      have e2 : r = w.heap.size + 1 + 1 := by rw [hr] at e3; exact Option.some.inj e3
      refine .inr ⟨by omega, ?_⟩
      obtain ⟨cur, hcur⟩ := row_obj hown1 (g := r) (by rw [hr]; rfl)
      have := (Array.getElem?_eq_some_iff.1 hcur).1
      simpa using this
  · have hfar : ∀ b : Nat, (∃ es c, w1.heap[b]? = some (Obj.map es c)) → (w1.setCell ⟨g, 0, none⟩ (.slice A1 (bs.length + 1) c1)).heap[b]? = w1.heap[b]? := by
      rintro b ⟨es, c, hb⟩
      refine Below.heap_setCell w1 ⟨g, 0, none⟩ _ b ?_
      rintro rfl
      rw [hk1] at hb
      cases hb
    refine ⟨⟨by omega, .inr ⟨Nat.le_refl _, by simpa using hsz1⟩⟩, fun hb => by have := (hm.lt _ hb).2; omega, ?_, ?_⟩
    · exact (hN.keep (hmap _ hN.obj)).keep (hfar _ (hN.keep (hmap _ hN.obj)).obj)
    · exact (MapsAt.keep (MapsAt.keep hmA fun b _ h => hmap b h) fun b _ h => hfar b h).mono fun _ _ _ h _ => .inl h

/-- The block of a row that is not empty. -/
theorem row_block {w : World} {base : Nat} {e : TypeId} {A : Option Addr} {n cap : Nat} {xs : List Value} (h : ORow w base e (.slice A n cap) xs) (hn : 0 < xs.length) : ∃ r, A = some ⟨r, 0, none⟩ ∧ base ≤ r ∧ r < w.heap.size ∧ xs.length ≤ cap ∧ cap ≤ maxLen ∧ (∀ k, w.frozen? ⟨r, k, none⟩ = false) ∧ ∃ cur, w.heap[r]? = some (.cells cur e (0, 0)) := by
  rcases h.2 with ⟨hv, h0⟩ | ⟨g, c, cur, hv, hg, hh, hnc, hm, _⟩
  · omega
  · injection hv with h1 _ h3
    subst h1 h3
    exact ⟨g, rfl, hg, Blk.lt hh, hnc, hm, fun k => Blk.frozen hh k, cur, hh⟩

set_option maxHeartbeats 400000 in
theorem close_any (w : World) (base g : Nat) (S : Nat → Prop) (st : St) (hs : SAt w base S g st) :
    Calls Tryz.prog 145 #[.pointer (some ⟨g, 0, none⟩)] w fun e w' => e = .returned (.int .i64 (closeE st)) ∧ SAt w' base S g (closeS st) ∧ TS S anyO w w' := by
  have hs' := hs
  obtain ⟨hSl, A, cap, bs, ⟨hg, hSg⟩, hk, ho, hSr, hm⟩ := hs
  have hlt := hk.lt
  have hc : w.cell? ⟨g, 0, none⟩ = some (.slice A bs.length cap) := hk.cell 0
  have hf := hk.frozen 0
  match bs, st, hm with
  | [], [], _ =>
    go_enter Tryz.func145, Tryz.ntmps145
    go_wp2
    go_ret
    exact ⟨rfl, hs', TS.refl _ _ _⟩
  | b :: bs, m :: st, hm =>
    obtain ⟨r, rfl, hr, hrl, hcap, hcm, hfr, cur, hcur⟩ := row_block ho (by simp)
    have hcl : w.cell? ⟨r, bs.length, none⟩ = some (mV b) := by
      obtain ⟨g', h1, _, _, h4⟩ := ho.cell (k := bs.length) (by simp)
      injection h1 with h1
      injection h1 with h1
      subst h1
      rw [h4]
      simp
    have hfl := hfr bs.length
    have hgr : g ≠ r := by rintro rfl; rw [hk] at hcur; cases hcur
    have hcap2 : bs.length + 1 ≤ cap := by simpa using hcap
    have hcm2 : cap ≤ 9223372036854775807 := by simpa [maxLen] using hcm
    go_enter Tryz.func145, Tryz.ntmps145
    go_wp2
    go_ret
    have ho1 : ORow (w.setCell ⟨r, bs.length, none⟩ (.map none)) base 210 (.slice (some ⟨r, 0, none⟩) bs.length cap) (bs.reverse.map mV) := by
      have h0 : w.ownsRow base 210 1 (.slice (some ⟨r, 0, none⟩) (bs.length + 1) cap) (bs.length + 1) ((b :: bs).reverse.map mV) := by
        have := ho
        unfold ORow at this
        rw [show ((b :: bs).reverse.map mV).length = bs.length + 1 by simp] at this
        exact this
      have h1 := row_pop h0 (.map none)
      unfold ORow
      rw [show (bs.reverse.map mV).length = bs.length by simp]
      rw [show ((b :: bs).reverse.map mV).take bs.length = bs.reverse.map mV by rw [maps_row, List.take_append_of_le_length (by simp), List.take_of_length_le (by simp)]] at h1
      exact h1
    have hk1 : Blk (w.setCell ⟨r, bs.length, none⟩ (.map none)) g 128 _ := hk.far (by simpa using hgr) _
    have hkr : Blk w r 210 cur := hcur
    have hT : TS S anyO w (w.setCell ⟨r, bs.length, none⟩ (.map none)) := (TS.refl S anyO w).set hkr (hSr r rfl) trivial _ _
    refine ⟨rfl, ⟨fun k hk => by simpa using hSl k hk, _, _, bs, ⟨hg, hSg⟩, hk1.set_ 0 _, ?_, hSr, ?_⟩, hT.set hk1 hSg trivial 0 _⟩
    · refine ORow.kept ho1 (only_setCell (p := ⟨g, 0, none⟩) (World.grownBy.refl _ (some g)) (.inl rfl) _) (.inr ?_)
      intro e
      injection e with e
      exact hgr e.symm
    · refine hm.2.2.2.keep fun c hc hmap => ?_
      obtain ⟨es, ck, hmap⟩ := hmap
      have n1 : c ≠ r := by rintro rfl; rw [hmap] at hcur; cases hcur
      have n2 : c ≠ g := by rintro rfl; rw [hk] at hmap; cases hmap
      exact (Below.heap_setCell _ ⟨g, 0, none⟩ _ c n2).trans (Below.heap_setCell _ ⟨r, bs.length, none⟩ _ c n1)
end Go.Proofs.YtjepnddndpmnnaaGreat.Ns

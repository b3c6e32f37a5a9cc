/-
  A range over a function whose rounds write memory, and which may stand in one another: what a round keeps is a relation; what the function turns between two rounds is told by the objects' kinds. No program is read here.
-/
import Derived.Test.YtkghdieakpipkaaGreatDoorAnQ18
import Derived.RangeFuncFrom
import Derived.RangeFuncNested
import Derived.RangeFuncCalls
import Derived.RangeFuncLeaves
namespace Go.Proofs.YtkghdieakpipkaaGreatDoor
open Go Go.RowKit

/-- What loops over functions lay for themselves. -/
def isBk : Obj → Bool
  | .loop _ => true
  | .deferred _ => true
  | _ => false
structure Kept (K : Nat → Obj → Prop) (W W' : World) : Prop where
  size : W.heap.size ≤ W'.heap.size
  same : ∀ k o, W.heap[k]? = some o → K k o → W'.heap[k]? = some o

section
variable {K : Nat → Obj → Prop} {W W' W'' : World}
theorem Kept.refl (K : Nat → Obj → Prop) (W : World) : Kept K W W := ⟨Nat.le_refl _, fun _ _ h _ => h⟩
theorem Kept.trans (h : Kept K W W') (k : Kept K W' W'') : Kept K W W'' := ⟨Nat.le_trans h.size k.size, fun i o ho hc => k.same i o (h.same i o ho hc) hc⟩
theorem Kept.of_tch {B : Nat} {T : Obj → Prop} (h : Tch B T W W') (hK : ∀ k o, K k o → k < B ∨ ¬ T o) : Kept K W W' := ⟨h.size, fun k o ho hk => h.block k o ho (hK k o hk)⟩
theorem Kept.of_below (h : Below W.heap.size W W') : Kept K W W' := ⟨h.size, fun k _ ho _ => (h.block k (Array.getElem?_eq_some_iff.1 ho).1).trans ho⟩
theorem Kept.alloc (h : Kept K W W') (o : Obj) : Kept K W (W'.alloc o) := h.trans (Kept.of_below ((Below.refl _ _).alloc (Nat.le_refl _) _))
theorem Kept.alloc1 (K : Nat → Obj → Prop) (W : World) (o : Obj) : Kept K W (W.alloc o) := (Kept.refl K W).alloc o
theorem Kept.drew (h : Kept K W W') : Kept K W W'.drew := ⟨h.size, h.same⟩
theorem Kept.drewN (h : Kept K W W') (n : Nat) : Kept K W (W'.drewN n) := ⟨h.size, h.same⟩
theorem Kept.mono {K' : Nat → Obj → Prop} (h : Kept K W W') (hk : ∀ k o, K' k o → K k o) : Kept K' W W' := ⟨h.size, fun k o ho hc => h.same k o ho (hk k o hc)⟩
theorem Kept.put {l : Nat} {o : Obj} (o' : Obj) (hl : W.heap[l]? = some o) (hn : ¬ K l o) : Kept K W (W.putObj l o') :=
  ⟨(grownBy_putObj' W l o').size, fun k o2 h2 hk => by
    by_cases e : k = l
    · subst e; rw [hl] at h2; cases h2; exact absurd hk hn
    · exact (World.putObj_heap_other e).trans h2⟩
/-- A store into a block that was not there in W. -/
theorem Kept.set_new (h : Kept K W W') {p : Addr} (hp : W.heap.size ≤ p.block) (u : Value) : Kept K W (W'.setCell p u) :=
  ⟨by simpa [World.setCell] using h.size, fun k o ho hk => (Below.heap_setCell W' p u k (by have := (Array.getElem?_eq_some_iff.1 ho).1; omega)).trans (h.same k o ho hk)⟩
theorem Blk.kept {g : Nat} {t : TypeId} {cs : Array Value} (h : Blk W g t cs) (hk : Kept K W W') (hc : K g (.cells cs t (0, 0))) : Blk W' g t cs := hk.same _ _ h hc
theorem tch_put {B : Nat} {T : Obj → Prop} {l : Nat} {o : Obj} (o' : Obj) (hB : B ≤ l) (hl : W.heap[l]? = some o) (ho : T o) : Tch B T W (W.putObj l o') :=
  Tch.of_grown (grownBy_putObj' W l o') hB hl ho
theorem Tch.lower {B B' : Nat} {T : Obj → Prop} (h : Tch B T W W') (hB : B' ≤ B) : Tch B' T W W' := ⟨h.os, h.tape, h.output, h.size, fun k o ho hc => h.block k o ho (hc.imp_left fun h => Nat.lt_of_lt_of_le h hB)⟩
end

/-- What the function leans on: what lay ahead of all, cells of some kinds, its own loops' records. -/
def Needs (C : Obj → Prop) (b0 B : Nat) (k : Nat) (o : Obj) : Prop := k < b0 ∨ C o ∨ (B ≤ k ∧ isBk o = true)

/-- The function calls what it is handed once for each number below N, in turn, until that says no. -/
def WalksAt (C T : Obj → Prop) (F : Fence) (n : Nat) (P : Program) (f : Nat) (fa lb : Array Value) (x : Nat → Array Value) (N : Nat) (b0 : Nat) (W : World) : Prop :=
  ∀ (l B : Nat) (K : Nat → Obj → Prop) (J : Nat → World → Prop) (Jx : World → Prop), b0 ≤ B → B ≤ W.heap.size → (∀ k o, Needs C b0 B k o → K k o) →
    (∀ k A A', J k A → Tch B T A A' → J k A') → (∀ A A', Jx A → Tch B T A A' → Jx A') →
    (∀ m k W1, k < N → J k W1 → YieldAt F m P l (x k) W1 fun e W2 => Kept K W1 W2 ∧ ((e = .returned (.bool true) ∧ J (k + 1) W2) ∨ (e = .returned (.bool false) ∧ Jx W2))) →
    J 0 W → CallsIn F n P f (fa ++ #[.func (.yield l) #[] #[]] ++ lb) W fun e W2 => (∃ v, e = .returned v) ∧ Kept K W W2 ∧ (J N W2 ∨ Jx W2)

theorem room_of_none {F : Fence} (hd : F.depth = none) (k : Nat) : F.room k := fun d h => by rw [hd] at h; cases h
theorem roundIn_anyDepth {F : Fence} (hd : F.depth = none) {m m' : Nat} {P : Program} {l : Nat} {f : FuncId} {tmps : Array Value} {assign body : Code} {w : World} {R : Ending → World → Prop}
    (h : RoundIn F m P l f tmps assign body w R) : RoundIn F m' P l f tmps assign body w R := ⟨h.1, fun c cs _ => h.2 c cs (room_of_none hd _)⟩

/-- How a round ends: it goes on, or it returns. -/
def RoundOut (K : Nat → Obj → Prop) (I : Nat → World → Prop) (Ix : World → Prop) (k : Nat) (W : World) (e : Exit) (_ : Act) (W2 : World) : Prop :=
  Kept K W W2 ∧ ((e = .normal ∧ I (k + 1) W2) ∨ (e = .ret ∧ Ix W2))

theorem range_rounds {C T : Obj → Prop} (hT : ∀ o, isBk o = true → T o) (hC : ∀ o, C o → isBk o = false)
    {F : Fence} {n : Nat} {P : Program} {g : Operand} {ps : Array Tmp} {assign body : Code} {Q : Exit → Act → World → Prop} {a : Act} {w : World}
    (hd : F.depth = none) (hro : F.round = none) {f : Nat} {fa lb : Array Value} (hg : a.eval g = .func (.func f) fa lb) (hF : F.fn f) (ef : ∀ args w, (callFunc f args).run P w = .ok (.enter f args) w)
    {x : Nat → Array Value} {N : Nat} (hx : ∀ k, (x k).size = ps.size) {b0 : Nat} (hb0 : b0 ≤ w.heap.size) (K : Nat → Obj → Prop) (hK : ∀ k o, Needs C b0 w.heap.size k o → K k o)
    (hv : ∀ o, WalksAt C T F (n - 1) P f fa lb x N b0 ((w.alloc (.deferred (some []))).alloc o))
    (I : Nat → World → Prop) (Ix : World → Prop) (hI : ∀ k A A', I k A → Tch w.heap.size T A A' → I k A') (hX : ∀ A A', Ix A → Tch w.heap.size T A A' → Ix A') (h0 : I 0 w)
    (Ax : Nat → Act → World → Prop) (hAx : ∀ k a' A A', Ax k a' A → Tch w.heap.size T A A' → Ax k a' A')
    (hassign : ∀ (l k : Nat) (W : World) (Kc : Act → World → Prop), k < N → I k W → (∀ a' W', Kept K W W' → I k W' → Ax k a' W' → Kc a' W') →
      assign.wpIn (F.inRound l) (n - 1 - 1) P (Exit.then Kc (fun _ _ _ => False)) { tmps := (ps.zip (x k)).foldl (fun t (p, v) => t.setIfInBounds p v) a.tmps, defers := [] } W)
    (hbody : ∀ (l k : Nat) (a' : Act) (W : World), k < N → I k W → Ax k a' W → body.wpIn (F.inRound l) (n - 1 - 1) P (RoundOut K I Ix k W) a' W)
    (hdone : ∀ (D : Nat) (W : World), w.heap.size ≤ D → Kept K w W → I N W → W.heap[D]? = some (.deferred (some [])) → Q .normal { a with defers := { target := .collected D, args := #[] } :: a.defers } W)
    (hstop : ∀ (D : Nat) (W : World), w.heap.size ≤ D → Kept K w W → Ix W → W.heap[D]? = some (.deferred (some [])) → Code.ret.wpIn F n P Q { a with defers := { target := .collected D, args := #[] } :: a.defers } W) :
    (Code.rangeFunc g ps assign body).wpIn F n P Q a w := by
  refine wpIn_rangeFunc fun fn hfn => ?_
  rw [hro]
  let R : LoopState → Option Code → Loop := fun st pe => { state := st, pending := pe, fn, tmps := a.tmps, params := ps, assign, body, defers := w.heap.size }
  let L := w.heap.size + 1
  let At (st : LoopState) (pe : Option Code) (W : World) : Prop := W.heap[L]? = some (.loop (R st pe)) ∧ W.heap[w.heap.size]? = some (.deferred (some []))
  have turn : ∀ {st pe st' pe' W}, At st pe W → At st' pe' (W.putObj L (.loop (R st' pe'))) := fun h =>
    ⟨World.putObj_heap_same (Array.getElem?_eq_some_iff.1 h.1).1, (World.putObj_heap_other (by show w.heap.size ≠ w.heap.size + 1; omega)).trans h.2⟩
  have begun : At .ready none ((w.alloc (.deferred (some []))).alloc (.loop (R .ready none))) := by
    refine ⟨?_, (Below.heap_alloc _ _ _ (by simp)).trans (World.alloc_heap_new w _)⟩
    have := World.alloc_heap_new (w.alloc (.deferred (some []))) (.loop (R .ready none))
    rwa [World.size_alloc] at this
  have hsz : ((w.alloc (.deferred (some []))).alloc (.loop (R .ready none))).heap.size = w.heap.size + 2 := by simp
  have tput : ∀ {st pe W} st' pe', At st pe W → Tch w.heap.size T W (W.putObj L (.loop (R st' pe'))) := fun st' pe' h => tch_put _ (Nat.le_succ _) h.1 (hT _ rfl)
  have kat : ∀ {st pe W W'}, At st pe W → Kept K W W' → At st pe W' := fun h hk => ⟨hk.same _ _ h.1 (hK _ _ (.inr (.inr ⟨Nat.le_succ _, rfl⟩))), hk.same _ _ h.2 (hK _ _ (.inr (.inr ⟨Nat.le_refl _, rfl⟩)))⟩
  have tat : ∀ {st pe W W'}, At st pe W → Tch (w.heap.size + 2) T W W' → At st pe W' := fun h ht => ⟨ht.block _ _ h.1 (.inl (Nat.lt_succ_self _)), ht.block _ _ h.2 (.inl (by omega))⟩
  -- what a call of yield keeps: all but this loop's own record
  let K' : Nat → Obj → Prop := fun k o => K k o ∧ ¬ (k = L ∧ isBk o = true)
  have kput : ∀ {st pe W} st' pe', At st pe W → Kept K' W (W.putObj L (.loop (R st' pe'))) := fun st' pe' h => Kept.put _ h.1 fun hk => hk.2 ⟨rfl, rfl⟩
  refine ⟨L, [{ target := .collected w.heap.size, args := #[] }], _, { target := .fn (.func f) lb, args := fa ++ #[.func (.yield L) #[] #[]] }, _, f, fa ++ #[.func (.yield L) #[] #[]] ++ lb, _,
    run_enterLoop_outer _ _ _ _ _, (?_ : _ = Result.ok _ ((w.alloc (.deferred (some []))).alloc (.loop (R .ready none)))), fun f' hf' => ?_, (?_ : _ = Result.ok _ ((w.alloc (.deferred (some []))).alloc (.loop (R .ready none)))), fun h => (by rw [hd] at h; cases h), ?_⟩
  · simp only [resolve, hg]
    simp [go_sem, R, L]
  · simp [Target.leads] at hf'
    subst hf'
    exact hF
  · simp [invoke, go_sem, ef]
  refine (hv (.loop (R .ready none)) L (w.heap.size + 2) K' (fun k W => I k W ∧ At .ready none W) (fun W => Ix W ∧ At .done (some .ret) W) (by omega) (by rw [hsz]; exact Nat.le_refl _) ?_ ?_ ?_ ?_ ⟨hI _ _ _ h0 (((Tch.refl _ _ _).alloc _).alloc _), begun⟩).mono ?_
  · rintro k o (h | h | ⟨h, hb⟩)
    · exact ⟨hK _ _ (.inl h), fun e => by have : k = w.heap.size + 1 := e.1; omega⟩
    · exact ⟨hK _ _ (.inr (.inl h)), fun e => by rw [hC o h] at e; exact absurd e.2 (by decide)⟩
    · exact ⟨hK _ _ (.inr (.inr ⟨by omega, hb⟩)), fun e => by have : k = w.heap.size + 1 := e.1; omega⟩
  · rintro k A A' ⟨hi, hat⟩ ht
    exact ⟨hI _ _ _ hi (ht.lower (by omega)), tat hat ht⟩
  · rintro A A' ⟨hi, hat⟩ ht
    exact ⟨hX _ _ hi (ht.lower (by omega)), tat hat ht⟩
  · -- one round
    rintro m k W hk ⟨hi, hat⟩
    refine ⟨fn, _, assign, body, run_yield (r := R .ready none) hat.1 (hx k), roundIn_anyDepth hd (roundIn_of_wpIn (n := n - 1 - 1) hfn (hassign L k W _ hk hi ?_))⟩
    intro a' Wa hka hia hax
    have hata := kat hat hka
    refine ⟨_, run_beginRound (r := R .ready none) hata.1 rfl, ?_⟩
    have hb := turn (st' := .busy) (pe' := none) hata
    have t1 := tput .busy none hata
    have k1 : Kept K' W (Wa.putObj L (.loop (R .busy none))) := (hka.mono fun _ _ h => h.1).trans (kput _ _ hata)
    refine wpIn_mono (hbody L k a' _ hk (hI k _ _ hia t1) (hAx k a' _ _ hax t1)) fun e a3 W3 hp => ?_
    obtain ⟨hk3, hp⟩ := hp
    have h3 : At .busy none W3 := kat hb hk3
    rcases hp with ⟨rfl, hi3⟩ | ⟨rfl, hi3⟩
    · exact ⟨_, _, run_endRound none h3.1, (k1.trans (hk3.mono fun _ _ h => h.1)).trans (kput .ready none h3), .inl ⟨rfl, hI _ _ _ hi3 (tput .ready none h3), turn h3⟩⟩
    · exact ⟨_, _, run_endRound (some .ret) h3.1, (k1.trans (hk3.mono fun _ _ h => h.1)).trans (kput .done (some .ret) h3), .inr ⟨rfl, hX _ _ hi3 (tput .done (some .ret) h3), turn h3⟩⟩
  · -- behind it
    have back : ∀ {st pe W} st' pe', At st pe W → Kept K' ((w.alloc (.deferred (some []))).alloc (.loop (R .ready none))) W → Kept K w (W.putObj L (.loop (R st' pe'))) := fun st' pe' h hk => by
      have hk2 := hk.trans (kput st' pe' h)
      have hn : Kept K w ((w.alloc (.deferred (some []))).alloc (.loop (R .ready none))) := ((Kept.refl _ _).alloc _).alloc _
      refine ⟨Nat.le_trans hn.size hk2.size, fun k o ho hc => hk2.same k o (hn.same k o ho hc) ⟨hc, fun e => ?_⟩⟩
      have h1 : k = w.heap.size + 1 := e.1
      have := (Array.getElem?_eq_some_iff.1 ho).1
      omega
    rintro e W2 ⟨⟨v, rfl⟩, hk2, (⟨hi, hat⟩ | ⟨hi, hat⟩)⟩
    · exact ⟨none, _, run_endLoop (r := R .ready none) hat.1 (by simp [R]), hdone _ _ (Nat.le_refl _) (back _ _ hat hk2) (hI _ _ _ hi (tput _ _ hat)) (turn (st' := .exhausted) (pe' := none) hat).2⟩
    · exact ⟨some .ret, _, run_endLoop (r := R .done (some .ret)) hat.1 (by simp [R]), hstop _ _ (Nat.le_refl _) (back _ _ hat hk2) (hX _ _ hi (tput _ _ hat)) (turn (st' := .exhausted) (pe' := some .ret) hat).2⟩
end Go.Proofs.YtkghdieakpipkaaGreatDoor

/-
  A range over a function that is a method's value: rounds are counted, the function only reads between them, and a round may return. No program is read here.
-/
import Derived.RangeFuncFrom
import Derived.RangeFuncNested
import Derived.RangeFuncCalls
import Derived.RangeFuncLeaves
namespace Go.Proofs.Ytgpnhgjiglnmmaa
open Go Go.RowKit

/-- The function calls what it is handed once for each number below N, in turn, until that says no. -/
def Visits (F : Fence) (n : Nat) (P : Program) (f : Nat) (fa lb : Array Value) (x : Nat → Array Value) (N : Nat) (Kp : World → World → Prop) (w0 : World) : Prop :=
  ∀ (l : Nat) (J : Nat → World → Prop) (Jx : World → Prop) (W : World), Kp w0 W →
    (∀ k W1, k < N → J k W1 → YieldAt F (n - 1) P l (x k) W1 fun e W2 => (e = .returned (.bool true) ∧ J (k + 1) W2 ∧ Kp W1 W2) ∨ (e = .returned (.bool false) ∧ Jx W2)) →
    J 0 W → CallsIn F n P f (fa ++ #[.func (.yield l) #[] #[]] ++ lb) W fun e W2 => (∃ v, e = .returned v) ∧ (J N W2 ∨ Jx W2)

/-- How a round ends: it goes on, or it returns. -/
def RoundEnds (Kp : World → World → Prop) (I : Nat → World → Prop) (Ix : World → Prop) (k : Nat) (W : World) (e : Exit) (_ : Act) (W2 : World) : Prop :=
  (e = .normal ∧ KeepsOthers W W2 ∧ Kp W W2 ∧ I (k + 1) W2) ∨ (e = .ret ∧ KeepsOthers W W2 ∧ Ix W2)

/-- What holds is untouched by what the loop keeps for itself. -/
def Apart (B : Nat) (I : World → Prop) : Prop := ∀ W l o o', I W → B ≤ l → W.heap[l]? = some o → o.isCells = false → I (W.putObj l o')

theorem range_method {F : Fence} {n : Nat} {P : Program} {g : Operand} {ps : Array Tmp} {assign body : Code} {Q : Exit → Act → World → Prop} {a : Act} {w : World}
    (hro : F.round = none) (h1 : 1 ≤ n) {f : Nat} {fa lb : Array Value} (hg : a.eval g = .func (.func f) fa lb) (hf : F.fn f) (ef : ∀ args w, (callFunc f args).run P w = .ok (.enter f args) w)
    {x : Nat → Array Value} {N : Nat} {Kp : World → World → Prop} {w0 : World} (hv : Visits F (n - 1) P f fa lb x N Kp w0) (hx : ∀ k, (x k).size = ps.size)
    (kt : ∀ {A B C : World}, Kp A B → Kp B C → Kp A C) (k0 : ∀ o o', Kp w0 ((w.alloc o).alloc o')) (kp : ∀ W l o o', w.heap.size ≤ l → W.heap[l]? = some o → o.isCells = false → Kp W (W.putObj l o'))
    (I : Nat → World → Prop) (Ix : World → Prop) (hI : ∀ k, Apart w.heap.size (I k)) (hX : Apart w.heap.size Ix) (h0 : ∀ o o', I 0 ((w.alloc o).alloc o')) (a₁ : Nat → Act)
    (hassign : ∀ (l k : Nat) (W : World) (K : Act → World → Prop), K (a₁ k) W →
      assign.wpIn (F.inRound l) (n - 1 - 1) P (Exit.then K (fun _ _ _ => False)) { tmps := (ps.zip (x k)).foldl (fun t (p, v) => t.setIfInBounds p v) a.tmps, defers := [] } W)
    (hbody : ∀ (l k : Nat) (W : World), k < N → I k W → body.wpIn (F.inRound l) (n - 1 - 1) P (RoundEnds Kp I Ix k W) (a₁ k) W)
    (hdone : ∀ (D : Nat) (W : World), w.heap.size ≤ D → I N W → W.heap[D]? = some (.deferred (some [])) → Q .normal { a with defers := { target := .collected D, args := #[] } :: a.defers } W)
    (hstop : ∀ (D : Nat) (W : World), w.heap.size ≤ D → Ix W → W.heap[D]? = some (.deferred (some [])) → Code.ret.wpIn F n P Q { a with defers := { target := .collected D, args := #[] } :: a.defers } W) :
    (Code.rangeFunc g ps assign body).wpIn F n P Q a w := by
  refine wpIn_rangeFunc fun fn hfn => ?_
  rw [hro]
  -- the loop's own record, and the block of the rounds' deferred calls
  let R : LoopState → Option Code → Loop := fun st pe => { state := st, pending := pe, fn, tmps := a.tmps, params := ps, assign, body, defers := w.heap.size }
  let L := w.heap.size + 1
  let At (st : LoopState) (pe : Option Code) (W : World) : Prop := W.heap[L]? = some (.loop (R st pe)) ∧ W.heap[w.heap.size]? = some (.deferred (some []))
  have turn : ∀ {st pe st' pe' W}, At st pe W → At st' pe' (W.putObj L (.loop (R st' pe'))) := fun h =>
    ⟨World.putObj_heap_same (Array.getElem?_eq_some_iff.1 h.1).1, (World.putObj_heap_other (by show w.heap.size ≠ w.heap.size + 1; omega)).trans h.2⟩
  have begun : At .ready none ((w.alloc (.deferred (some []))).alloc (.loop (R .ready none))) := by
    refine ⟨?_, (Below.heap_alloc _ _ _ (by simp)).trans (World.alloc_heap_new w _)⟩
    have := World.alloc_heap_new (w.alloc (.deferred (some []))) (.loop (R .ready none))
    rwa [World.size_alloc] at this
  refine ⟨L, [{ target := .collected w.heap.size, args := #[] }], _, { target := .fn (.func f) lb, args := fa ++ #[.func (.yield L) #[] #[]] }, _, f, fa ++ #[.func (.yield L) #[] #[]] ++ lb, _,
    run_enterLoop_outer _ _ _ _ _, (?_ : _ = Result.ok _ ((w.alloc (.deferred (some []))).alloc (.loop (R .ready none)))), fun f' hf' => ?_, (?_ : _ = Result.ok _ ((w.alloc (.deferred (some []))).alloc (.loop (R .ready none)))), fun _ => h1, ?_⟩
  · simp only [resolve, hg]
    simp [go_sem, R, L]
  · simp [Target.leads] at hf'
    subst hf'
    exact hf
  · simp [invoke, go_sem, ef]
  refine (hv L (fun k W => I k W ∧ At .ready none W) (fun W => Ix W ∧ At .done (some .ret) W) _ (k0 _ _) ?_ ⟨h0 _ _, begun⟩).mono ?_
  · -- one round
    rintro k W hk ⟨hi, hat⟩
    refine ⟨fn, _, assign, body, run_yield (r := R .ready none) hat.1 (hx k), roundIn_of_wpIn hfn (hassign _ k W _ ⟨_, run_beginRound (r := R .ready none) hat.1 rfl, ?_⟩)⟩
    have hb := turn (st' := .busy) (pe' := none) hat
    have hk1 : Kp W (W.putObj L (.loop (R .busy none))) := kp _ _ _ _ (Nat.le_succ _) hat.1 rfl
    refine wpIn_mono (hbody _ k _ hk (hI k _ _ _ _ hi (Nat.le_succ _) hat.1 rfl)) fun e a3 W3 hp => ?_
    rcases hp with ⟨rfl, ho, hk3, hi3⟩ | ⟨rfl, ho, hi3⟩
    · have h3 : At .busy none W3 := ⟨ho.same _ _ hb.1 rfl, ho.same _ _ hb.2 rfl⟩
      exact ⟨_, _, run_endRound none h3.1, .inl ⟨rfl, ⟨hI _ _ _ _ _ hi3 (Nat.le_succ _) h3.1 rfl, turn h3⟩, kt (kt hk1 hk3) (kp _ _ _ _ (Nat.le_succ _) h3.1 rfl)⟩⟩
    · have h3 : At .busy none W3 := ⟨ho.same _ _ hb.1 rfl, ho.same _ _ hb.2 rfl⟩
      exact ⟨_, _, run_endRound (some .ret) h3.1, .inr ⟨rfl, hX _ _ _ _ hi3 (Nat.le_succ _) h3.1 rfl, turn h3⟩⟩
  · -- behind it
    rintro e W2 ⟨⟨v, rfl⟩, (⟨hi, hat⟩ | ⟨hi, hat⟩)⟩
    · exact ⟨none, _, run_endLoop (r := R .ready none) hat.1 (by simp [R]), hdone _ _ (Nat.le_refl _) (hI _ _ _ _ _ hi (Nat.le_succ _) hat.1 rfl) ((World.putObj_heap_other (by show w.heap.size ≠ w.heap.size + 1; omega)).trans hat.2)⟩
    · exact ⟨some .ret, _, run_endLoop (r := R .done (some .ret)) hat.1 (by simp [R]), hstop _ _ (Nat.le_refl _) (hX _ _ _ _ hi (Nat.le_succ _) hat.1 rfl) ((World.putObj_heap_other (by show w.heap.size ≠ w.heap.size + 1; omega)).trans hat.2)⟩
end Go.Proofs.Ytgpnhgjiglnmmaa

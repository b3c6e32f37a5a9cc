/-
  Nodes as they lie in memory: a value of four cells, its kids in a row; what keeps them; what reads them.
  Contracts of the small functions of src and of its reference: pure computations on numbers.
  tree: formed, endOf, walk; the reference's End.
  A row that is appended to, call by call: what lay is as it lay but for the row's own block. No program is read here.
-/
import Derived.Test.YtfilonbhcalkoaaGreatDoorTrM05
import Derived.Test.YtfilonbhcalkoaaGreatDoorTrM06
import Derived.Test.YtfilonbhcalkoaaGreatDoorChecked
import Derived.Test.YtfilonbhcalkoaaGreatDoorTrM01
import Derived.WalkKit
import Derived.WalkSpells
import Derived.WalkLawsBesides
import Derived.Lib.Hide
namespace Go.Proofs.YtfilonbhcalkoaaGreatDoor
open Go.RowKit

/-- The value of a node whose kids lie at A. -/
def ndV (n : Nd) (A : Option Addr) (c : Nat) : Value := .agg #[.int .i64 n.k, .string n.t, .string n.v, .slice A n.kids.length c]
/-- The four cells of a node. -/
def ndC (n : Nd) (A : Option Addr) (c : Nat) : List Value := [.int .i64 n.k, .string n.t, .string n.v, .slice A n.kids.length c]
mutual
/-- v tells the node; its kids, and theirs, lie in blocks that meet S. -/
def NAt (S : Nat → Nat → Prop) (w : World) : Nd → Option Addr → Nat → Prop
  | .mk _ _ _ kids, A, c => kids.length ≤ c ∧ c ≤ maxLen ∧ (0 < kids.length → ∃ b o, A = some ⟨b, o, none⟩ ∧ S b o ∧ KAt S w b o kids)
def KAt (S : Nat → Nat → Prop) (w : World) (b : Nat) : Nat → List Nd → Prop
  | _, [] => True
  | o, n :: r => (∃ A c, w.cell? ⟨b, o, none⟩ = some (.int .i64 n.k) ∧ w.cell? ⟨b, o + 1, none⟩ = some (.string n.t) ∧ w.cell? ⟨b, o + 2, none⟩ = some (.string n.v) ∧ w.cell? ⟨b, o + 3, none⟩ = some (.slice A n.kids.length c) ∧ NAt S w n A c) ∧ KAt S w b (o + 4) r
end
/-- A kid as it lies. -/
def KidAt (S : Nat → Nat → Prop) (w : World) (b o : Nat) (n : Nd) : Prop :=
  ∃ A c, w.cell? ⟨b, o, none⟩ = some (.int .i64 n.k) ∧ w.cell? ⟨b, o + 1, none⟩ = some (.string n.t) ∧ w.cell? ⟨b, o + 2, none⟩ = some (.string n.v) ∧ w.cell? ⟨b, o + 3, none⟩ = some (.slice A n.kids.length c) ∧ NAt S w n A c

section
variable {S S' : Nat → Nat → Prop} {w w' : World}
theorem KAt.get {b : Nat} : ∀ {o : Nat} {l : List Nd}, KAt S w b o l → ∀ j (h : j < l.length), KidAt S w b (o + j * 4) l[j]
  | o, n :: r, h, 0, _ => by
    have := h.1
    simpa [KidAt] using this
  | o, n :: r, h, j + 1, hj => by
    have := KAt.get h.2 j (by simpa using hj)
    rw [show o + (j + 1) * 4 = o + 4 + j * 4 by omega]
    exact this
theorem KAt.of {b : Nat} : ∀ {o : Nat} {l : List Nd}, (∀ j (h : j < l.length), KidAt S w b (o + j * 4) l[j]) → KAt S w b o l
  | _, [], _ => trivial
  | o, n :: r, h => by
    refine ⟨by have := h 0 (by simp); simpa [KidAt] using this, KAt.of fun j hj => ?_⟩
    have := h (j + 1) (by simpa using hj)
    rw [show o + 4 + j * 4 = o + (j + 1) * 4 by omega]
    exact this
theorem NAt.def_ (n : Nd) (A : Option Addr) (c : Nat) : NAt S w n A c ↔ n.kids.length ≤ c ∧ c ≤ maxLen ∧ (0 < n.kids.length → ∃ b o, A = some ⟨b, o, none⟩ ∧ S b o ∧ ∀ j (h : j < n.kids.length), KidAt S w b (o + j * 4) n.kids[j]) := by
  cases n with
  | mk k t v kids =>
    simp only [NAt, Nd.kids]
    constructor
    · rintro ⟨h1, h2, h3⟩
      refine ⟨h1, h2, fun hp => ?_⟩
      obtain ⟨b, o, hA, hS, hk⟩ := h3 hp
      exact ⟨b, o, hA, hS, hk.get⟩
    · rintro ⟨h1, h2, h3⟩
      refine ⟨h1, h2, fun hp => ?_⟩
      obtain ⟨b, o, hA, hS, hk⟩ := h3 hp
      exact ⟨b, o, hA, hS, KAt.of hk⟩
theorem NAt.keep {n : Nd} : ∀ {A : Option Addr} {c : Nat}, NAt S w n A c → (∀ b o, S b o → (∃ i u, w.cell? ⟨b, i, none⟩ = some u) → (∀ i u, w.cell? ⟨b, i, none⟩ = some u → w'.cell? ⟨b, i, none⟩ = some u) ∧ S' b o) → NAt S' w' n A c := by
  induction n using Nd.ind with
  | h k t v kids ih =>
    intro A c h hk
    rw [NAt.def_] at h ⊢
    obtain ⟨h1, h2, h3⟩ := h
    refine ⟨h1, h2, fun hp => ?_⟩
    obtain ⟨b, o, hA, hS, hg⟩ := h3 hp
    have hb : (∀ i u, w.cell? ⟨b, i, none⟩ = some u → w'.cell? ⟨b, i, none⟩ = some u) ∧ S' b o := by
      obtain ⟨A', c', c0, _⟩ := hg 0 hp
      exact hk b o hS ⟨_, _, c0⟩
    refine ⟨b, o, hA, hb.2, fun j hj => ?_⟩
    obtain ⟨A', c', c0, c1, c2, c3, hn⟩ := hg j hj
    exact ⟨A', c', hb.1 _ _ c0, hb.1 _ _ c1, hb.1 _ _ c2, hb.1 _ _ c3, ih _ (List.getElem_mem hj) hn hk⟩
theorem NAt.weaken {n : Nd} {A : Option Addr} {c : Nat} (h : NAt S w n A c) (hs : ∀ b o, S b o → S' b o) : NAt S' w n A c := h.keep fun b o hb _ => ⟨fun _ _ hu => hu, hs b o hb⟩
theorem NAt.below {n : Nd} {A : Option Addr} {c : Nat} (h : NAt S w n A c) (hb : Below w.heap.size w w') : NAt S w' n A c :=
  h.keep fun _ _ hs _ => ⟨fun _ _ hu => (hb.cell (cell_lt hu)).trans hu, hs⟩
/-- All lies below the heap's end. -/
theorem NAt.lt {n : Nd} {A : Option Addr} {c : Nat} (h : NAt S w n A c) : NAt (fun b o => S b o ∧ b < w.heap.size) w n A c := h.keep fun _ _ hs ⟨_, _, hc⟩ => ⟨fun _ _ hu => hu, hs, cell_lt hc⟩
theorem NAt.leaf (S : Nat → Nat → Prop) (w : World) (k : Int) (t v : ByteArray) (A : Option Addr) : NAt S w (.mk k t v []) A 0 := by
  rw [NAt.def_]; exact ⟨Nat.le_refl _, Nat.zero_le _, fun h => absurd h (by simp [Nd.kids])⟩
theorem KidAt.keep {n : Nd} {b o : Nat} (h : KidAt S w b o n) (hb : ∀ i u, w.cell? ⟨b, i, none⟩ = some u → w'.cell? ⟨b, i, none⟩ = some u) (hk : ∀ b o, S b o → (∃ i u, w.cell? ⟨b, i, none⟩ = some u) → (∀ i u, w.cell? ⟨b, i, none⟩ = some u → w'.cell? ⟨b, i, none⟩ = some u) ∧ S' b o) : KidAt S' w' b o n := by
  obtain ⟨A, c, c0, c1, c2, c3, hn⟩ := h
  exact ⟨A, c, hb _ _ c0, hb _ _ c1, hb _ _ c2, hb _ _ c3, hn.keep hk⟩
/-- A kid of a row, in a later world. -/
theorem kid_cells {n : Nd} {b o : Nat} (h : KidAt S w b o n) (hb : Below w.heap.size w w') : KidAt S w' b o n :=
  h.keep (fun _ _ hu => (hb.cell (cell_lt hu)).trans hu) (fun _ _ hs _ => ⟨fun _ _ hu => (hb.cell (cell_lt hu)).trans hu, hs⟩)
/-- What lies below a bound is kept by what keeps all below it. -/
theorem NAt.low {n : Nd} {A : Option Addr} {c B : Nat} (h : NAt (fun b _ => b < B) w n A c) (hb : ∀ k, k < B → w'.heap[k]? = w.heap[k]?) : NAt (fun b _ => b < B) w' n A c :=
  h.keep fun b _ hs _ => ⟨fun _ _ hu => by
    rw [← hu]
    unfold World.cell?
    rw [hb b hs], hs⟩
end

/-- The boxed node: four cells of a block. -/
def NBox (w : World) (g : Nat) (n : Nd) (A : Option Addr) (c : Nat) : Prop := Blk w g 24 #[.int .i64 n.k, .string n.t, .string n.v, .slice A n.kids.length c]
theorem NBox.cells {w : World} {g : Nat} {n : Nd} {A : Option Addr} {c : Nat} (h : NBox w g n A c) :
    w.cell? ⟨g, 0, none⟩ = some (.int .i64 n.k) ∧ w.cell? ⟨g, 1, none⟩ = some (.string n.t) ∧ w.cell? ⟨g, 2, none⟩ = some (.string n.v) ∧ w.cell? ⟨g, 3, none⟩ = some (.slice A n.kids.length c) :=
  ⟨Blk.cell h 0, Blk.cell h 1, Blk.cell h 2, Blk.cell h 3⟩
/-- Texts of a size that a copy may have. -/
def okN (n : Nd) : Prop := -9223372036854775808 ≤ n.k ∧ n.k ≤ 9223372036854775807 ∧ n.t.size ≤ 140737488355328 ∧ n.v.size ≤ 140737488355328
mutual
def okT : Nd → Prop
  | .mk k t v kids => okN (.mk k t v kids) ∧ kids.length ≤ 1000000000000 ∧ okTL kids
def okTL : List Nd → Prop
  | [] => True
  | n :: r => okT n ∧ okTL r
end
theorem okTL_mem : ∀ {l : List Nd}, okTL l ↔ ∀ n ∈ l, okT n
  | [] => by simp [okTL]
  | n :: r => by simp only [okTL, okTL_mem (l := r), List.mem_cons, forall_eq_or_imp]
theorem okT.head {n : Nd} (h : okT n) : okN n := by cases n; exact h.1
theorem okT.kids {n : Nd} (h : okT n) : ∀ m ∈ n.kids, okT m := by cases n; exact okTL_mem.1 h.2.2
theorem okT.len {n : Nd} (h : okT n) : n.kids.length ≤ 1000000000000 := by cases n; exact h.2.1
end Go.Proofs.YtfilonbhcalkoaaGreatDoor
namespace Go.Proofs.YtfilonbhcalkoaaGreatDoor
open Go.RowKit

theorem ret_bool {a b : Bool} (h : a = b) : Ending.returned (.bool a) = .returned (.bool b) := by rw [h]
theorem ret_int {k : IntKind} {a b : Int} (h : a = b) : Ending.returned (.int k a) = .returned (.int k b) := by rw [h]

theorem may_any (r : Int) (w : World) :
    Calls Tryz.prog 105 #[.int .i64 r] w fun e w' => e = .returned (.bool (mayB r)) ∧ w = w' := by
  go_enter Tryz.func105, Tryz.ntmps105
  go_wp2
  all_goals go_ret
  all_goals refine ⟨ret_bool ?_, rfl⟩
  all_goals simp only [mayB]
  all_goals (rw [Bool.eq_iff_iff]; simp; try omega)


theorem long_any (r : Int) (w : World) :
    Calls Tryz.prog 106 #[.int .i64 r] w fun e w' => e = .returned (.int .i64 (longI r)) ∧ w = w' := by
  go_enter Tryz.func106, Tryz.ntmps106
  go_wp2
  all_goals go_ret
  all_goals refine ⟨ret_int ?_, rfl⟩
  all_goals simp only [longI]
  all_goals repeat (first | rw [if_pos (by omega)] | rw [if_neg (by omega)])

theorem i64_and63 (r : Int) (h0 : 0 ≤ r) (h1 : r < 9223372036854775808) : bits .and .i64 r 63 = r % 64 :=
  bits_mask .i64 63 (by decide) (fun n a b => by rw [IntKind.wrap_i64]; omega) 6 (by decide) r h0 h1


theorem Tryz.info5 : (Tryz.prog.info? 5).map (fun i => (i.zero, i.size, i.bytes)) = some (some (.int .u8 0), 1, 1) := by kernel_rfl
theorem Tryz.info3 : (Tryz.prog.info? 3).map (fun i => (i.zero, i.size, i.bytes)) = some (some (.int .i64 0), 1, 8) := by kernel_rfl
end Go.Proofs.YtfilonbhcalkoaaGreatDoor
namespace Go.Proofs.YtfilonbhcalkoaaGreatDoor
open Go.RowKit
set_option maxRecDepth 100000

/-- The End of a kind, or 0. -/
def endI (k : Int) : Int := if k = 5 then 6 else if k = 7 then 9 else if k = 10 then 12 else 0
theorem endI_opens (k : Int) : (opensK k = true → endI k = endK k ∧ endI k ≠ 0) ∧ (opensK k = false → endI k = 0) := by
  unfold opensK endI endK
  rw [decide_eq_true_iff, decide_eq_false_iff_not]
  constructor
  · rintro (rfl | rfl | rfl) <;> decide
  · intro h
    rw [if_neg (by omega), if_neg (by omega), if_neg (by omega)]
theorem ibeq {a b : Int} (h : a ≠ b) : (a == b) = false := by rw [beq_eq_false_iff_ne]; exact h
theorem ibne {a b : Int} (h : a ≠ b) : (a != b) = true := by simp [bne, h]

theorem endOf_any (k : Int) (w : World) : Calls Tryz.prog 39 #[.int .i64 k] w fun e w' => e = .returned (.int .i64 (endI k)) ∧ w' = w := by
  by_cases h5 : k = 5
  · subst h5
    go_enter Tryz.func39, Tryz.ntmps39
    go_wp2; go_ret; exact ⟨rfl, rfl⟩
  by_cases h7 : k = 7
  · subst h7
    go_enter Tryz.func39, Tryz.ntmps39
    go_wp2; go_ret; exact ⟨rfl, rfl⟩
  by_cases h10 : k = 10
  · subst h10
    go_enter Tryz.func39, Tryz.ntmps39
    go_wp2; go_ret; exact ⟨rfl, rfl⟩
  have he : endI k = 0 := by unfold endI; rw [if_neg h5, if_neg h7, if_neg h10]
  have d5 := ibeq h5
  have d7 := ibeq h7
  have d10 := ibeq h10
  rw [he]
  clear h5 h7 h10 he
  go_enter Tryz.func39, Tryz.ntmps39
  go_wp2; go_ret; exact ⟨rfl, rfl⟩
theorem rend_any (k : Int) (w : World) : Calls Tryz.prog 41 #[.int .i64 k] w fun e w' => e = .returned (.int .i64 (endI k)) ∧ w' = w := by
  by_cases h5 : k = 5
  · subst h5
    go_enter Tryz.func41, Tryz.ntmps41
    go_wp2; go_ret; exact ⟨rfl, rfl⟩
  by_cases h7 : k = 7
  · subst h7
    go_enter Tryz.func41, Tryz.ntmps41
    go_wp2; go_ret; exact ⟨rfl, rfl⟩
  by_cases h10 : k = 10
  · subst h10
    go_enter Tryz.func41, Tryz.ntmps41
    go_wp2; go_ret; exact ⟨rfl, rfl⟩
  have he : endI k = 0 := by unfold endI; rw [if_neg h5, if_neg h7, if_neg h10]
  have d5 := ibeq h5
  have d7 := ibeq h7
  have d10 := ibeq h10
  rw [he]
  clear h5 h7 h10 he
  go_enter Tryz.func41, Tryz.ntmps41
  go_wp2; go_ret; exact ⟨rfl, rfl⟩

theorem shape_open {k : Int} (h : k = 5 ∨ k = 7 ∨ k = 10) (n : Nat) : okShape k n = true := by
  unfold okShape opensK; rw [decide_eq_true h]; rfl
theorem shape_key (n : Nat) : okShape 8 n = decide (n = 1) := by simp [okShape, opensK, leafK]
theorem shape_leaf {k : Int} (h : k = 1 ∨ k = 2 ∨ k = 3 ∨ k = 4 ∨ k = 11) (n : Nat) : okShape k n = decide (n = 0) := by
  have h2 : opensK k = false := by unfold opensK; rw [decide_eq_false_iff_not]; omega
  have h3 : leafK k = true := by unfold leafK; rw [decide_eq_true_iff]; exact h
  have h8 : ¬ k = 8 := by omega
  simp [okShape, h2, h3, h8]
theorem shape_none {k : Int} (h1 : k ≠ 1) (h2 : k ≠ 2) (h3 : k ≠ 3) (h4 : k ≠ 4) (h5 : k ≠ 5) (h7 : k ≠ 7) (h8 : k ≠ 8) (h10 : k ≠ 10) (h11 : k ≠ 11) (n : Nat) : okShape k n = false := by
  simp [okShape, opensK, leafK, h1, h2, h3, h4, h5, h7, h8, h10, h11]

theorem formed_tree (k : Int) (t v : ByteArray) (A : Option Addr) (n c : Nat) (w : World) :
    Calls Tryz.prog 37 #[.agg #[.int .i64 k, .string t, .string v, .slice A n c]] w fun e w' => e = .returned (.bool (okShape k n)) ∧ Below w.heap.size w w' := by
  by_cases h5 : k = 5 ∨ k = 7 ∨ k = 10
  · rw [shape_open h5]
    rcases h5 with rfl | rfl | rfl
    all_goals
      go_enter Tryz.func37, Tryz.ntmps37
      go_wp2
      go_ret
      exact ⟨rfl, (Below.refl _ _).alloc (Nat.le_refl _) _⟩
  by_cases h8 : k = 8
  · subst h8
    rw [shape_key]
    clear h5
    by_cases h1 : n = 1
    · subst h1
      go_enter Tryz.func37, Tryz.ntmps37
      go_wp2
      go_ret
      exact ⟨rfl, (Below.refl _ _).alloc (Nat.le_refl _) _⟩
    · rw [decide_eq_false h1]
      have d1 : ((n : Int) == 1) = false := ibeq (by omega)
      clear h1
      go_enter Tryz.func37, Tryz.ntmps37
      go_wp2
      go_ret
      exact ⟨rfl, (Below.refl _ _).alloc (Nat.le_refl _) _⟩
  by_cases h1 : k = 1 ∨ k = 2 ∨ k = 3 ∨ k = 4 ∨ k = 11
  · rw [shape_leaf h1]
    clear h5 h8
    by_cases h0 : n = 0
    · subst h0
      rcases h1 with rfl | rfl | rfl | rfl | rfl
      all_goals
        go_enter Tryz.func37, Tryz.ntmps37
        go_wp2
        go_ret
        exact ⟨rfl, (Below.refl _ _).alloc (Nat.le_refl _) _⟩
    · rw [decide_eq_false h0]
      have d1 : ((n : Int) == 0) = false := ibeq (by omega)
      clear h0
      rcases h1 with rfl | rfl | rfl | rfl | rfl
      all_goals
        go_enter Tryz.func37, Tryz.ntmps37
        go_wp2
        go_ret
        exact ⟨rfl, (Below.refl _ _).alloc (Nat.le_refl _) _⟩
  have e1 : k ≠ 1 := fun h => h1 (.inl h)
  have e2 : k ≠ 2 := fun h => h1 (.inr (.inl h))
  have e3 : k ≠ 3 := fun h => h1 (.inr (.inr (.inl h)))
  have e4 : k ≠ 4 := fun h => h1 (.inr (.inr (.inr (.inl h))))
  have e11 : k ≠ 11 := fun h => h1 (.inr (.inr (.inr (.inr h))))
  have e5 : k ≠ 5 := fun h => h5 (.inl h)
  have e7 : k ≠ 7 := fun h => h5 (.inr (.inl h))
  have e10 : k ≠ 10 := fun h => h5 (.inr (.inr h))
  rw [shape_none e1 e2 e3 e4 e5 e7 h8 e10 e11]
  have d1 := ibeq e1
  have d2 := ibeq e2
  have d3 := ibeq e3
  have d4 := ibeq e4
  have d5 := ibeq e5
  have d7 := ibeq e7
  have d8 := ibeq h8
  have d10 := ibeq e10
  have d11 := ibeq e11
  clear e1 e2 e3 e4 e5 e7 e10 e11 h1 h5 h8
  go_enter Tryz.func37, Tryz.ntmps37
  go_wp2
  go_ret
  exact ⟨rfl, (Below.refl _ _).alloc (Nat.le_refl _) _⟩

/-- walk: the node is boxed; the function that visits it holds the box. -/
theorem twalk_any (k : Int) (t v : ByteArray) (A : Option Addr) (n c : Nat) (w : World) :
    Calls Tryz.prog 25 #[.agg #[.int .i64 k, .string t, .string v, .slice A n c]] w fun e w' =>
      e = .returned (.func (.func 36) #[] #[.pointer (some ⟨w.heap.size, 0, none⟩)]) ∧ w' = w.alloc (.cells #[.int .i64 k, .string t, .string v, .slice A n c] 24) := by
  go_enter Tryz.func25, Tryz.ntmps25
  go_wp2
  go_ret
  exact ⟨rfl, rfl⟩
end Go.Proofs.YtfilonbhcalkoaaGreatDoor
namespace Go.Proofs.YtfilonbhcalkoaaGreatDoor
open Go.RowKit

/-- From w, with the row v, to w', with the row v': but for v's own block all that lay in w lies, and v' stands where v stood, or in a block that is new. -/
structure OStep (w : World) (v : Value) (w' : World) (v' : Value) : Prop where
  grown : w.grownBy w' v.ownBlock
  own : v'.ownBlock = v.ownBlock ∨ ∃ g, v'.ownBlock = some g ∧ w.heap.size ≤ g

section
variable {w w1 w2 : World} {v v1 v2 : Value}
theorem OStep.refl (w : World) (v : Value) : OStep w v w v := ⟨World.grownBy.refl w _, .inl rfl⟩
theorem OStep.trans (h : OStep w v w1 v1) (k : OStep w1 v1 w2 v2) : OStep w v w2 v2 := by
  refine ⟨⟨k.grown.os.trans h.grown.os, k.grown.tape.trans h.grown.tape, k.grown.output.trans h.grown.output, Nat.le_trans h.grown.size k.grown.size, fun i hi hne => ?_⟩, ?_⟩
  · refine (k.grown.block i (Nat.lt_of_lt_of_le hi h.grown.size) fun e => ?_).trans (h.grown.block i hi hne)
    rcases h.own with h1 | ⟨g, h1, h2⟩
    · exact hne (e.trans h1)
    · rw [h1] at e; injection e with e; omega
  · rcases k.own with h1 | ⟨g, h1, h2⟩
    · rcases h.own with h3 | ⟨g, h3, h4⟩
      · exact .inl (h1.trans h3)
      · exact .inr ⟨g, h1.trans h3, h4⟩
    · exact .inr ⟨g, h1, Nat.le_trans h.grown.size h2⟩
theorem OStep.of_below (h : Below w.heap.size w w1) (v : Value) : OStep w v w1 v := ⟨only_of_below h _, .inl rfl⟩
theorem OStep.then_below (h : OStep w v w1 v1) (k : Below w1.heap.size w1 w2) : OStep w v w2 v1 := h.trans (OStep.of_below k v1)
theorem OStep.alloc (h : OStep w v w1 v1) (o : Obj) : OStep w v (w1.alloc o) v1 := h.then_below ((Below.refl _ _).alloc (Nat.le_refl _) _)
theorem OStep.size (h : OStep w v w1 v1) : w.heap.size ≤ w1.heap.size := h.grown.size
/-- A block that is not the row's. -/
theorem OStep.blk (h : OStep w v w1 v1) {g : Nat} {t : TypeId} {cs : Array Value} (hb : Blk w g t cs) (hg : some g ≠ v.ownBlock) : Blk w1 g t cs ∧ some g ≠ v1.ownBlock := by
  refine ⟨hb.grown h.grown hg, fun e => ?_⟩
  rcases h.own with h1 | ⟨g', h1, h2⟩
  · exact hg (e.trans h1)
  · rw [h1] at e; injection e with e; have := hb.lt; omega
theorem OStep.heap (h : OStep w v w1 v1) {g : Nat} (hl : g < w.heap.size) (hg : some g ≠ v.ownBlock) : w1.heap[g]? = w.heap[g]? := h.grown.block g hl hg
/-- A store into a block that is new since w. -/
theorem OStep.set (h : OStep w v w1 v1) {p : Addr} (hp : w.heap.size ≤ p.block) (u : Value) : OStep w v (w1.setCell p u) v1 :=
  ⟨⟨h.grown.os, h.grown.tape, h.grown.output, by simpa [World.setCell] using h.grown.size, fun k hk hne => (Below.heap_setCell w1 p u k (by omega)).trans (h.grown.block k hk hne)⟩, h.own⟩
theorem OStep.drew (h : OStep w v w1 v1) : OStep w v w1.drew v1 := ⟨only_drew h.grown, h.own⟩
theorem OStep.none_below (h : OStep w (.slice none 0 0) w1 v1) : Below w.heap.size w w1 :=
  ⟨h.grown.os, h.grown.tape, h.grown.output, h.grown.size, fun k hk => h.grown.block k hk (by simp [Value.ownBlock])⟩
theorem OStep.below {base : Nat} {e : TypeId} {size n : Nat} {xs : List Value} (h : OStep w v w1 v1) (hr : w.ownsRow base e size v n xs) (hb : base ≤ w.heap.size) : Below base w w1 :=
  ⟨h.grown.os, h.grown.tape, h.grown.output, h.grown.size, fun k hk => h.grown.block k (by omega) fun hc => by have := (World.ownsRow.lt hr k hc.symm).1; omega⟩
end

section
variable {P : Program} {w : World}
/-- Elements appended that lie somewhere. -/
theorem wp_appO {ops : Array Oper} {rest : List Oper} {o : Oper} {a : Act} {Q : Exit → Act → World → Prop} (hgd : o.guard = none) (s x : Operand) (t : TypeId)
    (ho : o.op = .call { callee := .builtin .append, args := #[s, x], argTypes := #[t, t] })
    (base : Nat) (e : TypeId) (z : Value) (size bytes : Nat) (ht : P.underlying t = some (.slice e)) (hinfo : (P.info? e).map (fun i => (i.zero, i.size, i.bytes)) = some (some z, size, bytes)) (hz1 : z.cells.size = size) (hs0 : 0 < size)
    (v : Value) (n : Nat) (xs news : List Value) (hs : a.eval s = v) (hown : w.ownsRow base e size v n xs) (hu : ∀ u ∈ news, u.oneCell' = true)
    (A : Addr) (m c : Nat) (hm : news.length = m * size) (hx : a.eval x = .slice (some A) m c) (hc : ∀ j u, news[j]? = some u → w.cell? (A.add j) = some u)
    (h63 : n + m ≤ maxLen) (hbytes : (n + m) * bytes ≤ 140737488355328) (hbase : base ≤ w.heap.size)
    (h : ∀ v' w', w'.ownsRow base e size v' (n + m) (xs ++ news) → OStep w v w' v' → wpList P ops Q rest (a.put o.dst v') w') :
    wpList P ops Q (o :: rest) a w := by
  obtain ⟨i, hi, hz, hsize, hby⟩ := info_parts hinfo
  refine wpList_plain hgd fun K hK => ?_
  obtain ⟨v', w', hrun, h2, h3, _, h5⟩ := run_append_own_at (P := P) w base t o.type e i z size bytes ht hi hz hsize hby hz1 hs0 v n xs hown A m c news hm hc hu h63 hbytes hbase
  unfold Oper.wp execOp
  simp only [ho, resolve, invoke, builtin, Sem.run_bind, Sem.run_pure, Result.andThen_ok, List.map_toArray, List.map_cons, List.map_nil, hs, hx, hrun]
  refine hK _ _ (h v' w' h2 ⟨h3, ?_⟩)
  rcases h5 with h5 | h5
  · exact .inl h5
  · exact .inr ⟨_, h5, by first | exact Nat.le_refl _ | omega⟩
/-- The same at a step of a region that draws its order. -/
theorem step_appO {ops : Array Oper} {o : Oper} {a : Act} {K : Act → World → Prop} {Q : Exit → Act → World → Prop} {E : Prop} (hgd : o.guard = none) (s x : Operand) (t : TypeId)
    (ho : o.op = .call { callee := .builtin .append, args := #[s, x], argTypes := #[t, t] })
    (base : Nat) (e : TypeId) (z : Value) (size bytes : Nat) (ht : P.underlying t = some (.slice e)) (hinfo : (P.info? e).map (fun i => (i.zero, i.size, i.bytes)) = some (some z, size, bytes)) (hz1 : z.cells.size = size) (hs0 : 0 < size)
    (v : Value) (n : Nat) (xs news : List Value) (hs : a.eval s = v) (hown : w.ownsRow base e size v n xs) (hu : ∀ u ∈ news, u.oneCell' = true)
    (A : Addr) (m c : Nat) (hm : news.length = m * size) (hx : a.eval x = .slice (some A) m c) (hc : ∀ j u, news[j]? = some u → w.cell? (A.add j) = some u)
    (h63 : n + m ≤ maxLen) (hbytes : (n + m) * bytes ≤ 140737488355328) (hbase : base ≤ w.heap.size)
    (h : ∀ v' w', w'.ownsRow base e size v' (n + m) (xs ++ news) → OStep w v w' v' → K (a.put o.dst v') w') :
    if Region.wanted o (yielded ops a.tmps) = true then Oper.wp P o a w K Q else E := by
  have hw : Region.wanted o (yielded ops a.tmps) = true := by simp [Region.wanted, hgd]
  rw [if_pos hw]
  obtain ⟨i, hi, hz, hsize, hby⟩ := info_parts hinfo
  obtain ⟨v', w', hrun, h2, h3, _, h5⟩ := run_append_own_at (P := P) w base t o.type e i z size bytes ht hi hz hsize hby hz1 hs0 v n xs hown A m c news hm hc hu h63 hbytes hbase
  unfold Oper.wp execOp
  simp only [ho, resolve, invoke, builtin, Sem.run_bind, Sem.run_pure, Result.andThen_ok, List.map_toArray, List.map_cons, List.map_nil, hs, hx, hrun]
  refine h v' w' h2 ⟨h3, ?_⟩
  rcases h5 with h5 | h5
  · exact .inl h5
  · exact .inr ⟨_, h5, by first | exact Nat.le_refl _ | omega⟩
end
end Go.Proofs.YtfilonbhcalkoaaGreatDoor

/-
  Contracts of num's machine: digit, step, complete, May.
  Memory words: a block that is known whole, worlds in which one block has turned, small laws.
  Rows that the call itself made, of elements of one cell: what append, conversion to a string and reading do with them. Conditions: as each theorem says.
  Slices of ints and of bytes that can be read: nil, or their cells at an address.
-/
import Derived.Test.YtjepnddndpmnnaaGreatChecked
import Derived.Test.YtjepnddndpmnnaaGreatGsA02
import Derived.WalkKit
import Derived.WalkSpells
import Derived.WalkLawsBesides
import Derived.Lib.Hide
import Derived.Below
import Derived.Laws.OwnMore
import Derived.Deep.Draws
import Derived.Laws.Rows
import Derived.Deep.OwnRows
import Derived.OwnWalk
import Derived.Maps.AppendAt
import Derived.Laws.BytesString
import Derived.Laws.IdiomStrings
import Derived.Lib.BufferRead
import Derived.Deep.AppendLies
namespace Go.Proofs.YtjepnddndpmnnaaGreat.Nm
open Go.RowKit

theorem ret_bool {a b : Bool} (h : a = b) : Ending.returned (.bool a) = .returned (.bool b) := by rw [h]
theorem ret_int {k : IntKind} {a b : Int} (h : a = b) : Ending.returned (.int k a) = .returned (.int k b) := by rw [h]

theorem digit_any (a : Int) (w : World) :
    Calls Tryz.prog 195 #[.int .i64 a] w fun e w' => e = .returned (.int .i64 (dgI a)) ∧ w = w' := by
  go_enter Tryz.func195, Tryz.ntmps195
  go_wp2
  all_goals go_ret
  all_goals refine ⟨ret_int ?_, rfl⟩
  all_goals unfold dgI
  all_goals repeat' split
  all_goals first | rfl | (exfalso; simp_all; done) | (exfalso; simp_all; omega) 

theorem compl_any (a : Int) (w : World) :
    Calls Tryz.prog 187 #[.int .i64 a] w fun e w' => e = .returned (.bool (compB a)) ∧ w = w' := by
  go_enter Tryz.func187, Tryz.ntmps187
  go_wp2
  all_goals go_ret
  all_goals refine ⟨ret_bool ?_, rfl⟩
  all_goals unfold compB
  all_goals first | (refine (decide_eq_true ?_).symm; simp_all; done) | (refine (decide_eq_false ?_).symm; simp_all; done)

set_option maxHeartbeats 2000000 in
theorem step_any (a b : Int) (w : World) :
    Calls Tryz.prog 186 #[.int .i64 a, .int .u8 b] w fun e w' => e = .returned (.int .i64 (stepI a b)) ∧ w = w' := by
  go_enter Tryz.func186, Tryz.ntmps186
  go_wp2_with (go_at_call 195; refine (digit_any _ _).mono ?_; rintro e w' ⟨rfl, rfl⟩)
  all_goals go_ret
  all_goals refine ⟨ret_int ?_, rfl⟩
  all_goals simp only [beq_iff_eq, beq_eq_false_iff_ne, ne_eq] at *
  all_goals unfold stepI
  all_goals repeat' split
  all_goals first | rfl | omega

theorem stepI_rng (a b : Int) : 0 ≤ stepI a b ∧ stepI a b ≤ 9 := by
  unfold stepI dgI
  repeat' split
  all_goals omega

/-- May: the machine over the whole text; it stops where nothing can follow. -/
theorem may_any (s : ByteArray) (w : World) (hm : s.size ≤ 9223372036854775807) :
    Calls Tryz.prog 179 #[.string s] w fun e w' => e = .returned (.tuple #[.bool (begB s.data.toList), .bool (isB s.data.toList)]) ∧ w = w' := by
  go_enter Tryz.func179, Tryz.ntmps179
  go_wp2
  go_loop [4, 5] (fun a i => ∃ k : Nat, k ≤ s.size ∧ i = .int .i64 k ∧ a = .int .i64 (mst 1 (s.data.toList.take k))) (fun _ i => s.size - (intOf i).toNat)
  case atStart => exact ⟨0, Nat.zero_le _, rfl, rfl⟩
  case round =>
    obtain ⟨k, hk, rfl, rfl⟩ := hrel
    generalize hM : mst 1 (s.data.toList.take k) = M
    have HM := Lib.hid hM
    clear hM
    by_cases hlt : k < s.size
    · by_cases h0 : M = 0
      · have hb : (M != 0) = false := by simp [h0]
        have hfin : mst 1 s.data.toList = 0 := by
          rw [← List.take_append_drop k s.data.toList, mst_append, HM.out, h0, mst_0]
        have HF := Lib.hid hfin
        have H0 := Lib.hid h0
        clear hfin h0
        go_wp2_with (first | (go_at_call 187; refine (compl_any _ _).mono ?_; rintro e w' ⟨rfl, rfl⟩))
        go_ret2
        refine ⟨?_, rfl⟩
        unfold begB isB
        rw [HF.out, H0.out]
        rfl
      · have hb : (M != 0) = true := by simpa using h0
        have hts : mst 1 (s.data.toList.take (k + 1)) = stepI M (s[k].toNat : Int) := by
          rw [List.take_succ_eq_append_getElem (by simpa using hlt), mst_snoc, HM.out]
          rfl
        have HT := Lib.hid hts
        clear hts h0
        go_wp2_with (first | (go_at_call 186; refine (step_any _ _ _).mono ?_; rintro e w' ⟨rfl, rfl⟩))
        go_round
        case rel => exact ⟨k + 1, by omega, by go_num, by rw [HT.out]⟩
        case measure => simp [intOf]; omega
    · have hfin : begB s.data.toList = (M != 0) ∧ isB s.data.toList = compB M := by
        have h1 : mst 1 s.data.toList = M := by rw [← HM.out, List.take_of_length_le (by simp; omega)]
        unfold begB isB
        rw [h1]
        exact ⟨by rw [Bool.eq_iff_iff]; simp, rfl⟩
      have HF := Lib.hid hfin
      clear hfin
      go_wp2_with (first | (go_at_call 187; refine (compl_any _ _).mono ?_; rintro e w' ⟨rfl, rfl⟩))
      all_goals go_ret2
      all_goals refine ⟨?_, rfl⟩
      all_goals rw [HF.out.1, HF.out.2]
      all_goals rfl
end Go.Proofs.YtjepnddndpmnnaaGreat.Nm
namespace Go.Proofs.YtjepnddndpmnnaaGreat
open Go.RowKit

def Blk (w : World) (g : Nat) (t : TypeId) (cs : Array Value) : Prop := w.heap[g]? = some (.cells cs t (0, 0))

section
variable {w w' : World} {g : Nat} {t : TypeId} {cs : Array Value}
theorem Blk.lt (h : Blk w g t cs) : g < w.heap.size := by
  rcases Nat.lt_or_ge g w.heap.size with hlt | hge
  · exact hlt
  · unfold Blk at h; rw [Array.getElem?_eq_none hge] at h; cases h
theorem Blk.cell (h : Blk w g t cs) (i : Nat) : w.cell? ⟨g, i, none⟩ = cs[i]? := cell_of_row w g i cs t (0, 0) h
theorem Blk.frozen (h : Blk w g t cs) (i : Nat) : w.frozen? ⟨g, i, none⟩ = false := by
  unfold Blk at h
  simp [World.frozen?, h]
theorem Blk.new (w : World) (t : TypeId) (cs : Array Value) : Blk (w.alloc (.cells cs t)) w.heap.size t cs := heap_alloc_new w _
theorem Blk.drew (h : Blk w g t cs) : Blk w.drew g t cs := h
theorem Blk.drewN (h : Blk w g t cs) (n : Nat) : Blk (w.drewN n) g t cs := h
theorem Blk.alloc (h : Blk w g t cs) (o : Obj) : Blk (w.alloc o) g t cs := (Below.heap_alloc w o g h.lt).trans h
theorem Blk.set_ (h : Blk w g t cs) (i : Nat) (u : Value) : Blk (w.setCell ⟨g, i, none⟩ u) g t (cs.setIfInBounds i u) := by
  unfold Blk at h ⊢
  simp [World.setCell, Array.getElem?_modify, h]
theorem Blk.far (h : Blk w g t cs) {p : Addr} (hp : g ≠ p.block) (u : Value) : Blk (w.setCell p u) g t cs := (Below.heap_setCell w p u g hp).trans h
theorem Blk.below {B : Nat} (h : Blk w g t cs) (hb : Below B w w') (hg : g < B) : Blk w' g t cs := (hb.block g hg).trans h
theorem Blk.grown {row : Option Nat} (h : Blk w g t cs) (hb : w.grownBy w' row) (hg : some g ≠ row) : Blk w' g t cs := (hb.block g h.lt hg).trans h
end

theorem only_drewN {a w : World} {row : Option Nat} (h : a.grownBy w row) (n : Nat) : a.grownBy (w.drewN n) row := ⟨h.os, h.tape, h.output, h.size, h.block⟩
theorem only_drew {a w : World} {row : Option Nat} (h : a.grownBy w row) : a.grownBy w.drew row := ⟨h.os, h.tape, h.output, h.size, h.block⟩
theorem only_alloc {a w : World} {row : Option Nat} (h : a.grownBy w row) (o : Obj) : a.grownBy (w.alloc o) row :=
  ⟨h.os, h.tape, h.output, Nat.le_trans h.size (by simp), fun i hi hne => (Below.heap_alloc w o i (Nat.lt_of_lt_of_le hi h.size)).trans (h.block i hi hne)⟩
theorem only_setCell {a w : World} {g : Nat} (h : a.grownBy w (some g)) {p : Addr} (hp : p.block = g ∨ a.heap.size ≤ p.block) (u : Value) : a.grownBy (w.setCell p u) (some g) :=
  ⟨h.os, h.tape, h.output, by simpa [World.setCell] using h.size, fun i hi hne => (Below.heap_setCell w p u i (by
    rintro rfl
    rcases hp with hp | hp
    · exact hne (by rw [hp])
    · omega)).trans (h.block i hi hne)⟩
theorem only_of_below {a w : World} (h : Below a.heap.size a w) (row : Option Nat) : a.grownBy w row := ⟨h.os, h.tape, h.output, h.size, fun i hi _ => h.block i hi⟩
theorem below_drewN {B : Nat} {a w : World} (h : Below B a w) (n : Nat) : Below B a (w.drewN n) := ⟨h.os, h.tape, h.output, h.size, h.block⟩
theorem below_drew {B : Nat} {a w : World} (h : Below B a w) : Below B a w.drew := ⟨h.os, h.tape, h.output, h.size, h.block⟩
theorem below_only {a w w' : World} {B g : Nat} (h : Below B a w) (k : w.grownBy w' (some g)) (hB : B ≤ w.heap.size) (hg : B ≤ g) : Below B a w' :=
  ⟨k.os.trans h.os, k.tape.trans h.tape, k.output.trans h.output, Nat.le_trans h.size k.size, fun i hi => (k.block i (by omega) (fun e => by injection e; omega)).trans (h.block i hi)⟩

end Go.Proofs.YtjepnddndpmnnaaGreat
namespace Go.Proofs.YtjepnddndpmnnaaGreat
open Go.RowKit

/-- The slice v owns the cells xs, one cell an element. -/
def ORow (w : World) (base : Nat) (e : TypeId) (v : Value) (xs : List Value) : Prop := w.ownsRow base e 1 v xs.length xs

section
variable {P : Program} {w w' : World} {base : Nat} {e : TypeId} {v : Value} {xs : List Value}
theorem ORow.nil (w : World) (base : Nat) (e : TypeId) : ORow w base e (.slice none 0 0) [] := World.ownsRow_nil w base e 1
theorem ORow.alloc (h : ORow w base e v xs) (o : Obj) : ORow (w.alloc o) base e v xs := World.ownsRow.alloc h o
theorem ORow.drew (h : ORow w base e v xs) : ORow w.drew base e v xs := h
theorem ORow.drewN (h : ORow w base e v xs) (n : Nat) : ORow (w.drewN n) base e v xs := h
theorem ORow.kept {row : Option Nat} (h : ORow w base e v xs) (hg : w.grownBy w' row) (hne : v.ownBlock = none ∨ v.ownBlock ≠ row) : ORow w' base e v xs := World.ownsRow.kept h hg hne
theorem ORow.mono {b : Nat} (h : ORow w base e v xs) (hb : b ≤ base) : ORow w b e v xs := by
  refine ⟨h.1, ?_⟩
  rcases h.2 with hn | ⟨g, cap, cur, hv, hg, r⟩
  · exact .inl hn
  · exact .inr ⟨g, cap, cur, hv, Nat.le_trans hb hg, r⟩
theorem ORow.below {B : Nat} (h : ORow w base e v xs) (hb : Below B w w') (hB : ∀ g, v.ownBlock = some g → g < B) : ORow w' base e v xs := by
  refine ⟨h.1, ?_⟩
  rcases h.2 with hn | ⟨g, cap, cur, hv, hg, hh, r⟩
  · exact .inl hn
  · refine .inr ⟨g, cap, cur, hv, hg, ?_, r⟩
    rw [hb.block g (hB g (by rw [hv]; rfl))]
    exact hh
/-- The form of the value: nil, or at the head of a block. -/
theorem ORow.form (h : ORow w base e v xs) : (v = .slice none 0 0 ∧ xs = []) ∨ ∃ g cap, v = .slice (some ⟨g, 0, none⟩) xs.length cap ∧ base ≤ g ∧ g < w.heap.size ∧ xs.length ≤ cap ∧ cap ≤ maxLen := by
  rcases h.2 with ⟨hn, h0⟩ | ⟨g, cap, cur, hv, hg, hh, hnc, hm, _⟩
  · exact .inl ⟨hn, List.eq_nil_of_length_eq_zero h0⟩
  · exact .inr ⟨g, cap, hv, hg, Blk.lt hh, hnc, hm⟩
theorem ORow.lit (w : World) (base : Nat) (e : TypeId) (cs : Array Value) (hb : base ≤ w.heap.size) (hm : cs.size ≤ maxLen) : ORow (w.alloc (.cells cs e)) base e (.slice (some ⟨w.heap.size, 0, none⟩) cs.size cs.size) cs.toList := by
  have := World.ownsRow_lit (base := base) (e := e) (size := 1) w cs cs.size hb hm (by simp)
  simpa [ORow] using this
theorem ORow.shape (h : ORow w base e v xs) : ∃ A cap, v = .slice A xs.length cap := by
  rcases h.form with ⟨rfl, rfl⟩ | ⟨g, cap, rfl, _⟩
  · exact ⟨_, _, rfl⟩
  · exact ⟨_, _, rfl⟩
theorem ORow.cell {A : Option Addr} {n cap : Nat} (h : ORow w base e (.slice A n cap) xs) {k : Nat} (hk : k < xs.length) :
    ∃ g, A = some ⟨g, 0, none⟩ ∧ base ≤ g ∧ g < w.heap.size ∧ w.cell? ⟨g, k, none⟩ = some xs[k] := by
  rcases h.form with ⟨hv, rfl⟩ | ⟨g, cap', hv, hg, hl, _⟩
  · simp at hk
  · injection hv with h1 h2 h3
    subst h1 h2 h3
    refine ⟨g, rfl, hg, hl, ?_⟩
    rw [World.ownsRow.cellAt h k (by omega)]
    exact List.getElem?_eq_getElem hk
theorem ORow.block {A : Option Addr} {n cap g : Nat} (h : ORow w base e (.slice A n cap) xs) (hA : A = some ⟨g, 0, none⟩) : base ≤ g ∧ g < w.heap.size := by
  rcases h.form with ⟨hv, rfl⟩ | ⟨g', cap', hv, hg, hl, _⟩
  · injection hv with h1; rw [hA] at h1; cases h1
  · injection hv with h1
    rw [hA] at h1
    injection h1 with h1
    injection h1 with h1
    subst h1
    exact ⟨hg, hl⟩

theorem ORow.own_ge (h : ORow w base e v xs) {g : Nat} (hg : v.ownBlock = some g) : base ≤ g := (World.ownsRow.lt h g hg).1
theorem ORow.not_own (h : ORow w base e v xs) {g : Nat} (hg : g < base) : some g ≠ v.ownBlock := fun hc => by have := h.own_ge hc.symm; omega
theorem ORow.kept_far {g : Nat} (h : ORow w base e v xs) (hg : w.grownBy w' (some g)) (hlt : g < base) : ORow w' base e v xs := h.kept hg (.inr fun hc => h.not_own hlt hc.symm)
theorem below_row {a : World} {B : Nat} (h : Below B a w) (k : w.grownBy w' v.ownBlock) (hr : ORow w base e v xs) (hB : B ≤ w.heap.size) (hbase : B ≤ base) : Below B a w' :=
  ⟨k.os.trans h.os, k.tape.trans h.tape, k.output.trans h.output, Nat.le_trans h.size k.size, fun i hi => (k.block i (by omega) (hr.not_own (by omega))).trans (h.block i hi)⟩

/-- One element appended: the value was laid in a new block of its own just before. -/
theorem wp_app1 {ops : Array Oper} {rest : List Oper} {o : Oper} {a : Act} {Q : Exit → Act → World → Prop} (hgd : o.guard = none) (s x : Operand) (t : TypeId)
    (ho : o.op = .call { callee := .builtin .append, args := #[s, x], argTypes := #[t, t] })
    (base : Nat) (e : TypeId) (z : Value) (bytes : Nat) (ht : P.underlying t = some (.slice e)) (hinfo : (P.info? e).map (fun i => (i.zero, i.size, i.bytes)) = some (some z, 1, bytes)) (hz1 : z.cells.size = 1)
    (v : Value) (xs : List Value) (u : Value) (hs : a.eval s = v) (hown : ORow w base e v xs) (hu : u.oneCell' = true)
    (c : Nat) (hx : a.eval x = .slice (some ⟨w.heap.size, 0, none⟩) 1 c)
    (h63 : xs.length + 1 ≤ maxLen) (hbytes : (xs.length + 1) * bytes ≤ 140737488355328) (hbase : base ≤ w.heap.size)
    (h : ∀ v' w', ORow w' base e v' (xs ++ [u]) → w.grownBy w' v.ownBlock → (v'.ownBlock = v.ownBlock ∨ v'.ownBlock = some (w.heap.size + 1)) → wpList P ops Q rest (a.put o.dst v') w') :
    wpList P ops Q (o :: rest) a (w.alloc (.cells #[u] e)) := by
  obtain ⟨i, hi, hz, hsize, hby⟩ := info_parts hinfo
  refine wpList_plain hgd fun K hK => ?_
  obtain ⟨v', w', hrun, h2, h3, _, h5⟩ := run_append_own_at (P := P) (w.alloc (.cells #[u] e)) base t o.type e i z 1 bytes ht hi hz hsize hby hz1 (by decide) v xs.length xs (World.ownsRow.alloc hown _)
    ⟨w.heap.size, 0, none⟩ 1 c [u] rfl (cell_one_new w u e) (fun y hy => by simp at hy; subst hy; exact hu) h63 hbytes (by simp; omega)
  unfold Oper.wp execOp
  simp only [ho, resolve, invoke, builtin, Sem.run_bind, Sem.run_pure, Result.andThen_ok, List.map_toArray, List.map_cons, List.map_nil, hs, hx, hrun]
  refine hK _ _ (h v' w' ?_ ?_ ?_)
  · unfold ORow
    rw [List.length_append]
    exact h2
  · exact ⟨h3.os, h3.tape, h3.output, Nat.le_trans (by simp) h3.size, fun k hk hne => (h3.block k (by simp; omega) hne).trans (Below.heap_alloc w _ k hk)⟩
  · simpa using h5

/-- The same where only the blocks below base matter. -/
theorem wp_app1b {ops : Array Oper} {rest : List Oper} {o : Oper} {a : Act} {Q : Exit → Act → World → Prop} (hgd : o.guard = none) (s x : Operand) (t : TypeId)
    (ho : o.op = .call { callee := .builtin .append, args := #[s, x], argTypes := #[t, t] })
    (base : Nat) (e : TypeId) (z : Value) (bytes : Nat) (ht : P.underlying t = some (.slice e)) (hinfo : (P.info? e).map (fun i => (i.zero, i.size, i.bytes)) = some (some z, 1, bytes)) (hz1 : z.cells.size = 1)
    (v : Value) (xs : List Value) (u : Value) (hs : a.eval s = v) (hown : ORow w base e v xs) (hu : u.oneCell' = true)
    (c : Nat) (hx : a.eval x = .slice (some ⟨w.heap.size, 0, none⟩) 1 c)
    (h63 : xs.length + 1 ≤ maxLen) (hbytes : (xs.length + 1) * bytes ≤ 140737488355328) (hbase : base ≤ w.heap.size)
    (h : ∀ v' w', ORow w' base e v' (xs ++ [u]) → Below base w w' → wpList P ops Q rest (a.put o.dst v') w') :
    wpList P ops Q (o :: rest) a (w.alloc (.cells #[u] e)) := by
  refine wp_app1 hgd s x t ho base e z bytes ht hinfo hz1 v xs u hs hown hu c hx h63 hbytes hbase fun v' w' h1 h2 _ => h v' w' h1 ?_
  refine ⟨h2.os, h2.tape, h2.output, h2.size, fun k hk => h2.block k (by omega) fun hc => ?_⟩
  have := World.ownsRow.lt hown k hc.symm
  omega
end

section
variable {P : Program} {w : World}
/-- Several elements appended at once, laid in a new block of their own just before. -/
theorem wp_appNb {ops : Array Oper} {rest : List Oper} {o : Oper} {a : Act} {Q : Exit → Act → World → Prop} (hgd : o.guard = none) (s x : Operand) (t : TypeId)
    (ho : o.op = .call { callee := .builtin .append, args := #[s, x], argTypes := #[t, t] })
    (base : Nat) (e : TypeId) (z : Value) (bytes : Nat) (ht : P.underlying t = some (.slice e)) (hinfo : (P.info? e).map (fun i => (i.zero, i.size, i.bytes)) = some (some z, 1, bytes)) (hz1 : z.cells.size = 1)
    (v : Value) (xs : List Value) (C : Array Value) (m : Nat) (hs : a.eval s = v) (hown : ORow w base e v xs) (hu : ∀ u ∈ C.toList, u.oneCell' = true) (hm : C.size = m)
    (c : Nat) (hx : a.eval x = .slice (some ⟨w.heap.size, 0, none⟩) m c)
    (h63 : xs.length + m ≤ maxLen) (hbytes : (xs.length + m) * bytes ≤ 140737488355328) (hbase : base ≤ w.heap.size)
    (h : ∀ v' w', ORow w' base e v' (xs ++ C.toList) → Below base w w' → wpList P ops Q rest (a.put o.dst v') w') :
    wpList P ops Q (o :: rest) a (w.alloc (.cells C e)) := by
  obtain ⟨i, hi, hz, hsize, hby⟩ := info_parts hinfo
  refine wpList_plain hgd fun K hK => ?_
  have hb0 : (w.alloc (.cells C e)).heap[w.heap.size]? = some (.cells C e (0, 0)) := heap_alloc_new w _
  obtain ⟨v', w', hrun, h2, h3, _, h5⟩ := run_append_own_at (P := P) (w.alloc (.cells C e)) base t o.type e i z 1 bytes ht hi hz hsize hby hz1 (by decide) v xs.length xs (World.ownsRow.alloc hown _)
    ⟨w.heap.size, 0, none⟩ m c C.toList (by simp [hm]) (World.news_of_block hb0) hu h63 hbytes (by simp; omega)
  unfold Oper.wp execOp
  simp only [ho, resolve, invoke, builtin, Sem.run_bind, Sem.run_pure, Result.andThen_ok, List.map_toArray, List.map_cons, List.map_nil, hs, hx, hrun]
  refine hK _ _ (h v' w' ?_ ?_)
  · unfold ORow
    rw [List.length_append, show C.toList.length = m from hm]
    exact h2
  · refine ⟨h3.os, h3.tape, h3.output, Nat.le_trans (by simp) h3.size, fun k hk => (h3.block k (by simp; omega) fun hc => ?_).trans (Below.heap_alloc w _ k (by omega))⟩
    have := World.ownsRow.lt hown k hc.symm
    omega
end

/-! Bytes. -/
def bV (b : UInt8) : Value := .int .u8 (b.toNat : Int)
def iV (n : Int) : Value := .int .i64 n
theorem bV_of (n : Int) (h0 : 0 ≤ n) (h1 : n < 256) : Value.int .u8 n = bV (UInt8.ofNat n.toNat) := by
  unfold bV
  have e1 : (UInt8.ofNat n.toNat).toNat = n.toNat := UInt8.toNat_ofNat_of_lt' (show n.toNat < 256 by omega)
  rw [e1]
  congr 1
  omega

section
variable {P : Program} {w w' : World} {base : Nat} {e : TypeId} {v : Value}
/-- string(b), b nil or the call's own. -/
theorem run_string_of_row (src dst : TypeId) (l : List UInt8) (hs : P.underlying src = some (.slice e)) (he : P.underlying e = some (.int .u8)) (hd : P.underlying dst = some .string) (h : ORow w base e v (l.map bV)) :
    (convert src dst v).run P w = .ok (.string ⟨l.toArray⟩) w := by
  rcases h.form with ⟨rfl, hn⟩ | ⟨g, cap, hv, _⟩
  · have : l = [] := by simpa using hn
    subst this
    exact Lib.run_convert_nil_bytes w src dst e 0 hs he hd
  · subst hv
    simp only [List.length_map]
    refine run_convert_bytes_back w src dst e ⟨g, 0, none⟩ cap l hs he hd fun j hj => ?_
    have hj' : j < (l.map bV).length := by simpa using hj
    obtain ⟨g', hg, _, _, hc⟩ := h.cell hj'
    injection hg with hg
    injection hg with hg
    subst hg
    have e1 : (⟨g, 0, none⟩ : Addr).add j = ⟨g, j, none⟩ := by unfold Addr.add; split <;> simp_all
    rw [e1, hc]
    simp [bV]
end

end Go.Proofs.YtjepnddndpmnnaaGreat
namespace Go.Proofs.YtjepnddndpmnnaaGreat
open Go.RowKit

def IRead (w : World) (v : Value) (xs : List Int) : Prop := ∃ A c, v = .slice A xs.length c ∧ (0 < xs.length → ∃ ad : Addr, A = some ad ∧ ∀ j (h : j < xs.length), w.cell? (ad.add j) = some (.int .i64 xs[j]))
def BRead (w : World) (v : Value) (xs : List UInt8) : Prop := ∃ A c, v = .slice A xs.length c ∧ (0 < xs.length → ∃ ad : Addr, A = some ad ∧ ∀ j (h : j < xs.length), w.cell? (ad.add j) = some (.int .u8 (xs[j].toNat : Int)))

theorem addr_add0 (g j : Nat) : (⟨g, 0, none⟩ : Addr).add j = ⟨g, j, none⟩ := by unfold Addr.add; split <;> simp_all
theorem IRead.nil (w : World) (c : Nat) : IRead w (.slice none 0 c) [] := ⟨none, c, rfl, fun h => absurd h (by simp)⟩
theorem BRead.nil (w : World) (c : Nat) : BRead w (.slice none 0 c) [] := ⟨none, c, rfl, fun h => absurd h (by simp)⟩
theorem IRead.of_row {w : World} {base : Nat} {e : TypeId} {v : Value} {xs : List Int} (h : ORow w base e v (xs.map iV)) : IRead w v xs := by
  rcases h.form with ⟨rfl, hn⟩ | ⟨g, cap, rfl, _⟩
  · have : xs = [] := by simpa using hn
    subst this
    exact IRead.nil _ _
  · refine ⟨some ⟨g, 0, none⟩, cap, by simp, fun _ => ⟨_, rfl, fun j hj => ?_⟩⟩
    obtain ⟨g', hg, _, _, hc⟩ := h.cell (k := j) (by simpa using hj)
    injection hg with hg
    injection hg with hg
    subst hg
    rw [addr_add0, hc]
    simp [iV]
theorem BRead.of_row {w : World} {base : Nat} {e : TypeId} {v : Value} {xs : List UInt8} (h : ORow w base e v (xs.map bV)) : BRead w v xs := by
  rcases h.form with ⟨rfl, hn⟩ | ⟨g, cap, rfl, _⟩
  · have : xs = [] := by simpa using hn
    subst this
    exact BRead.nil _ _
  · refine ⟨some ⟨g, 0, none⟩, cap, by simp, fun _ => ⟨_, rfl, fun j hj => ?_⟩⟩
    obtain ⟨g', hg, _, _, hc⟩ := h.cell (k := j) (by simpa using hj)
    injection hg with hg
    injection hg with hg
    subst hg
    rw [addr_add0, hc]
    simp [bV]
theorem IRead.of_cells {w : World} {x : Addr} {l c B : Nat} {zs : List Int} (hz : zs.length = c) (hl : l ≤ c) (hcell : ∀ i, i < zs.length → w.cell? (x.add i) = some (.int .i64 (zs.getD i 0))) (_hwz : ∀ n ∈ zs, (Lit.int .i64 n).wf = true) (hB : l ≤ B) :
    ∃ xs : List Int, IRead w (.slice (some x) l c) xs ∧ xs.length ≤ B := by
  have hlen : (zs.take l).length = l := by simp; omega
  refine ⟨zs.take l, ⟨some x, c, by rw [hlen], fun _ => ⟨x, rfl, fun j hj => ?_⟩⟩, by omega⟩
  rw [hcell j (by omega), List.getElem_take]
  simp [List.getD_eq_getElem?_getD, List.getElem?_eq_getElem (show j < zs.length by omega)]
theorem wf_u8 {n : Int} (h : (Lit.int .u8 n).wf = true) : 0 ≤ n ∧ n ≤ 255 := by simpa [Lit.wf, IntKind.min, IntKind.max, IntKind.signed, IntKind.bits] using h
theorem BRead.of_cells {w : World} {x : Addr} {l c B : Nat} {zs : List Int} (hz : zs.length = c) (hl : l ≤ c) (hcell : ∀ i, i < zs.length → w.cell? (x.add i) = some (.int .u8 (zs.getD i 0))) (hwz : ∀ n ∈ zs, (Lit.int .u8 n).wf = true) (hB : l ≤ B) :
    ∃ xs : List UInt8, BRead w (.slice (some x) l c) xs ∧ xs.length ≤ B := by
  have hlen : ((zs.take l).map fun n => UInt8.ofNat n.toNat).length = l := by simp; omega
  refine ⟨(zs.take l).map fun n => UInt8.ofNat n.toNat, ⟨some x, c, by rw [hlen], fun _ => ⟨x, rfl, fun j hj => ?_⟩⟩, by omega⟩
  have hj' : j < zs.length := by omega
  have hw := wf_u8 (hwz zs[j] (List.getElem_mem hj'))
  rw [hcell j hj']
  simp only [List.getElem_map, List.getElem_take]
  have e1 : (UInt8.ofNat (zs[j]).toNat).toNat = (zs[j]).toNat := UInt8.toNat_ofNat_of_lt' (show (zs[j]).toNat < 256 by omega)
  rw [e1, List.getD_eq_getElem?_getD, List.getElem?_eq_getElem hj']
  congr 2
  simp
  omega
theorem IRead.keep {w w' : World} {v : Value} {xs : List Int} (h : IRead w v xs) (hk : ∀ p : Addr, (∃ u, w.cell? p = some u) → w'.cell? p = w.cell? p) : IRead w' v xs := by
  obtain ⟨A, c, hv, hr⟩ := h
  refine ⟨A, c, hv, fun hp => ?_⟩
  obtain ⟨ad, hA, hc⟩ := hr hp
  exact ⟨ad, hA, fun j hj => (hk _ ⟨_, hc j hj⟩).trans (hc j hj)⟩
theorem BRead.keep {w w' : World} {v : Value} {xs : List UInt8} (h : BRead w v xs) (hk : ∀ p : Addr, (∃ u, w.cell? p = some u) → w'.cell? p = w.cell? p) : BRead w' v xs := by
  obtain ⟨A, c, hv, hr⟩ := h
  refine ⟨A, c, hv, fun hp => ?_⟩
  obtain ⟨ad, hA, hc⟩ := hr hp
  exact ⟨ad, hA, fun j hj => (hk _ ⟨_, hc j hj⟩).trans (hc j hj)⟩
theorem cell_lt {w : World} {p : Addr} {u : Value} (h : w.cell? p = some u) : p.block < w.heap.size := by
  rcases Nat.lt_or_ge p.block w.heap.size with hlt | hge
  · exact hlt
  · unfold World.cell? at h
    rw [Array.getElem?_eq_none hge] at h
    simp at h
theorem IRead.below {w w' : World} {v : Value} {xs : List Int} (h : IRead w v xs) (hb : Below w.heap.size w w') : IRead w' v xs :=
  h.keep fun _ ⟨_, hu⟩ => hb.cell (cell_lt hu)
theorem BRead.below {w w' : World} {v : Value} {xs : List UInt8} (h : BRead w v xs) (hb : Below w.heap.size w w') : BRead w' v xs :=
  h.keep fun _ ⟨_, hu⟩ => hb.cell (cell_lt hu)
end Go.Proofs.YtjepnddndpmnnaaGreat

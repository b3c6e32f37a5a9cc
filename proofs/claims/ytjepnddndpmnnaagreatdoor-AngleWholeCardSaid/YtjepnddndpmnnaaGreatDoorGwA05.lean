/-
  A scope out of which the run jumps forward, a few times at most: to whichever label.
  New, Step and Whole: a Scan is a block of three cells; a step turns that block alone.
  Slices of ints and of bytes that can be read: nil, or their cells at an address.
  The reference's One: the character at the beginning.
  The reference's One where the character has two bytes by its first.
  The reference's One where the character has three bytes by its first.
  The reference's One where the character has four bytes by its first.
  A text stepped through, byte by byte, has characters just if all is whole in the end. No program is read here.
  The reference's One and Runes, whole; 'same' of two lists.
  'same' of two lists of whole numbers (hexaplalaw01).
  The contract of src's payload: the bits of a byte that tell of its character.
  src's Runes.
-/
import Derived.WalkKit
import Derived.WalkMore
import Derived.ScopeJumps
import Derived.Test.YtjepnddndpmnnaaGreatDoorGwA04
import Derived.Test.YtjepnddndpmnnaaGreatDoorGwA01
import Derived.Lib.Strings
import Derived.BigQuiet
import Derived.Deep.QuietTactic
namespace Go
/-- As Q; by a goto to a label of c: what stands behind the label, with one jump fewer left. -/
def Exit.fwd (P : Program) (c : Code) (Q : Exit → Act → World → Prop) : Nat → Exit → Act → World → Prop
  | 0, .goto _, _, _ => False
  | n + 1, .goto l, a, w => ∃ rest, findLabel c l = some rest ∧ rest.wp P (Exit.fwd P c Q n) a w
  | _, e, a, w => Q e a w

section
variable {P : Program} {a : Act} {w : World} {Q : Exit → Act → World → Prop} {c : Code}
theorem Exit.fwd_normal (n : Nat) : Exit.fwd P c Q n .normal a w = Q .normal a w := by cases n <;> rfl
theorem Exit.fwd_exit (n : Nat) (id : Nat) : Exit.fwd P c Q n (.exit id) a w = Q (.exit id) a w := by cases n <;> rfl
theorem Exit.fwd_ret (n : Nat) : Exit.fwd P c Q n .ret a w = Q .ret a w := by cases n <;> rfl
theorem Exit.fwd_panic (n : Nat) (ch : List PanicEntry) : Exit.fwd P c Q n (.panic ch) a w = Q (.panic ch) a w := by cases n <;> rfl
theorem Exit.fwd_goto (n l : Nat) (rest : Code) (h : findLabel c l = some rest) (k : rest.wp P (Exit.fwd P c Q n) a w) : Exit.fwd P c Q (n + 1) (.goto l) a w := ⟨rest, h, k⟩

theorem wp_scope_fwd (n : Nat) (first : c.wp P (Exit.fwd P c Q n) a w) : (Code.scope c).wp P Q a w := by
  intro b k cs
  have key : ∀ n (body : Code) a w, body.wp P (Exit.fwd P c Q n) a w → ∃ e a' w', Q e a' w' ∧ Arrives P (lone (b.at a (.code body :: .inScope c :: k)) cs w) b k cs e a' w' := by
    intro n
    induction n with
    | zero =>
      intro body a w h
      obtain ⟨e, a₁, w₁, hq, harr⟩ := h b (.inScope c :: k) cs
      cases e with
      | normal => exact ⟨.normal, a₁, w₁, hq, Steps.trans harr (.one step_inScope)⟩
      | exit id => exact ⟨.exit id, a₁, w₁, hq, fun k' hk => harr k' (by simp [exitTo, hk])⟩
      | goto l' => exact hq.elim
      | ret => exact ⟨_, a₁, w₁, hq, harr⟩
      | panic ch => exact ⟨_, a₁, w₁, hq, harr⟩
      | outgrown => exact ⟨_, a₁, w₁, hq, harr⟩
    | succ n ih =>
      intro body a w h
      obtain ⟨e, a₁, w₁, hq, harr⟩ := h b (.inScope c :: k) cs
      cases e with
      | normal => exact ⟨.normal, a₁, w₁, hq, Steps.trans harr (.one step_inScope)⟩
      | exit id => exact ⟨.exit id, a₁, w₁, hq, fun k' hk => harr k' (by simp [exitTo, hk])⟩
      | goto l' =>
        obtain ⟨rest, hf, hr⟩ := hq
        have hg : gotoIn l' (.inScope c :: k) = some (.code rest :: .inScope c :: k) := by simp [gotoIn, hf]
        obtain ⟨e₂, a₂, w₂, hq₂, harr₂⟩ := ih rest a₁ w₁ hr
        exact ⟨e₂, a₂, w₂, hq₂, .of_steps (harr _ hg) harr₂⟩
      | ret => exact ⟨_, a₁, w₁, hq, harr⟩
      | panic ch => exact ⟨_, a₁, w₁, hq, harr⟩
      | outgrown => exact ⟨_, a₁, w₁, hq, harr⟩
  obtain ⟨e, a₁, w₁, hq, harr⟩ := key n c a w first
  cases e with
  | normal => exact ⟨.normal, a₁, w₁, hq, .head step_scope harr⟩
  | exit id => exact ⟨.exit id, a₁, w₁, hq, fun k' hk => .head step_scope (harr k' hk)⟩
  | goto l' => exact ⟨.goto l', a₁, w₁, hq, fun k' hk => .head step_scope (harr k' hk)⟩
  | ret => exact ⟨_, a₁, w₁, hq, .of_steps (.one step_scope) harr⟩
  | panic ch => exact ⟨_, a₁, w₁, hq, .of_steps (.one step_scope) harr⟩
  | outgrown => exact ⟨_, a₁, w₁, hq, .of_steps (.one step_scope) harr⟩
end
end Go
namespace Go.Proofs.YtjepnddndpmnnaaGreatDoor
open Go.RowKit

/-- A Scan at block g: what is left, and the bounds of the next byte. -/
def ScanAt (w : World) (g : Nat) (l lo hi : Int) : Prop := Blk w g 97 #[.int .i64 l, .int .u8 lo, .int .u8 hi]

/-- What a step leaves. -/
def Stepped (w : World) (g : Nat) (l lo hi b : Int) (e : Ending) (w' : World) : Prop :=
  e = .returned (.bool (stOk l lo hi b)) ∧ w.grownBy w' (some g) ∧ (if stOk l lo hi b = true then ScanAt w' g (stL l b) (stLo l b) (stHi l b) else ScanAt w' g l lo hi)

theorem new_any (w : World) : Calls Tryz.prog 24 #[] w fun e w' => e = .returned (.pointer (some ⟨w.heap.size, 0, none⟩)) ∧ w' = w.alloc (.cells #[.int .i64 0, .int .u8 128, .int .u8 191] 97) := by
  go_enter Tryz.func24, Tryz.ntmps24
  go_wp2
  go_ret
  exact ⟨rfl, rfl⟩

theorem whole_any (w : World) (g : Nat) (l lo hi : Int) (hs : ScanAt w g l lo hi) :
    Calls Tryz.prog 36 #[.pointer (some ⟨g, 0, none⟩)] w fun e w' => e = .returned (.bool (decide (l = 0))) ∧ w = w' := by
  have hc : w.cell? ⟨g, 0, none⟩ = some (.int .i64 l) := hs.cell 0
  go_enter Tryz.func36, Tryz.ntmps36
  go_wp2
  go_ret
  refine ⟨ret_bool ?_, rfl⟩
  rw [Bool.eq_iff_iff]; simp

theorem stepped_no {w : World} {g : Nat} {l lo hi b : Int} {o : Obj} (hs : ScanAt w g l lo hi) (hk : stOk l lo hi b = false) : Stepped w g l lo hi b (.returned (.bool false)) (w.alloc o) := by
  refine ⟨by rw [hk], only_alloc (World.grownBy.refl _ _) _, ?_⟩
  rw [hk, if_neg (by decide)]
  exact Blk.alloc hs _
theorem stepped_yes {w : World} {g : Nat} {l lo hi b : Int} {l' lo' hi' : Int} {o : Obj} (hs : ScanAt w g l lo hi) (hk : stOk l lo hi b = true) (h1 : l' = stL l b) (h2 : lo' = stLo l b) (h3 : hi' = stHi l b) :
    Stepped w g l lo hi b (.returned (.bool true)) ((((w.setCell ⟨g, 0, none⟩ (.int .i64 l')).setCell ⟨g, 1, none⟩ (.int .u8 lo')).setCell ⟨g, 2, none⟩ (.int .u8 hi')).alloc o) := by
  subst h1 h2 h3
  have g1 := only_setCell (p := ⟨g, 0, none⟩) (World.grownBy.refl w (some g)) (.inl rfl) (.int .i64 (stL l b))
  have g2 := only_setCell (p := ⟨g, 1, none⟩) g1 (.inl rfl) (.int .u8 (stLo l b))
  have g3 := only_setCell (p := ⟨g, 2, none⟩) g2 (.inl rfl) (.int .u8 (stHi l b))
  have b1 := Blk.set_ hs 0 (.int .i64 (stL l b))
  have b2 := Blk.set_ b1 1 (.int .u8 (stLo l b))
  have b3 := Blk.set_ b2 2 (.int .u8 (stHi l b))
  refine ⟨by rw [hk], only_alloc g3 _, ?_⟩
  rw [hk, if_pos rfl]
  exact Blk.alloc b3 o
set_option maxHeartbeats 400000 in
theorem step_tail (w : World) (g : Nat) (l lo hi b : Int) (hs : ScanAt w g l lo hi) (hl : 0 < l) (hl3 : l ≤ 3) :
    Calls Tryz.prog 35 #[.pointer (some ⟨g, 0, none⟩), .int .u8 b] w (Stepped w g l lo hi b) := by
  have c0 : w.cell? ⟨g, 0, none⟩ = some (.int .i64 l) := hs.cell 0
  have c1 : w.cell? ⟨g, 1, none⟩ = some (.int .u8 lo) := hs.cell 1
  have c2 : w.cell? ⟨g, 2, none⟩ = some (.int .u8 hi) := hs.cell 2
  have f0 := hs.frozen 0
  have f1 := hs.frozen 1
  have f2 := hs.frozen 2
  have hlt := hs.lt
  go_enter Tryz.func35, Tryz.ntmps35
  go_wp2
  refine wp_scope_fwd 2 ?_
  generalize hQ : Exit.fwd _ _ _ 2 = Q2
  go_wp2
  go_step3
  show Q2 _ _ _
  rw [← hQ]
  refine Exit.fwd_goto 1 _ _ rfl ?_
  generalize hQ1 : Exit.fwd _ _ _ 1 = Q1
  go_wp2
  · rw [← hQ1, Exit.fwd_ret]
    go_ret
    have hk : stOk l lo hi b = false := by unfold stOk; rw [if_pos hl]; simp; omega
    exact stepped_no hs hk
  · go_step3
    show Q1 _ _ _
    rw [← hQ1]
    refine Exit.fwd_goto 0 _ _ rfl ?_
    generalize hQ0 : Exit.fwd _ _ _ 0 = Q0
    go_wp2
    rw [← hQ0, Exit.fwd_ret]
    go_ret
    have hk : stOk l lo hi b = true := by unfold stOk; rw [if_pos hl]; simp; omega
    exact stepped_yes hs hk (by unfold stL; rw [if_pos hl]) (by unfold stLo; rw [if_pos hl]) (by unfold stHi; rw [if_pos hl])
  · rw [← hQ1, Exit.fwd_ret]
    go_ret
    have hk : stOk l lo hi b = false := by unfold stOk; rw [if_pos hl]; simp; omega
    exact stepped_no hs hk

set_option maxHeartbeats 1000000 in
theorem step_lead (w : World) (g : Nat) (lo hi b : Int) (hs : ScanAt w g 0 lo hi) (hb0 : 0 ≤ b) (hb1 : b ≤ 255) :
    Calls Tryz.prog 35 #[.pointer (some ⟨g, 0, none⟩), .int .u8 b] w (Stepped w g 0 lo hi b) := by
  have c0 : w.cell? ⟨g, 0, none⟩ = some (.int .i64 0) := hs.cell 0
  have c1 : w.cell? ⟨g, 1, none⟩ = some (.int .u8 lo) := hs.cell 1
  have c2 : w.cell? ⟨g, 2, none⟩ = some (.int .u8 hi) := hs.cell 2
  have f0 := hs.frozen 0
  have f1 := hs.frozen 1
  have f2 := hs.frozen 2
  have hlt := hs.lt
  go_enter Tryz.func35, Tryz.ntmps35
  go_wp2
  refine wp_scope_fwd 2 ?_
  generalize hQ : Exit.fwd _ _ _ 2 = Q2
  go_wp2
  all_goals first
    | (rw [← hQ, Exit.fwd_ret]; go_ret; exact stepped_no hs (by simp [stOk]; omega))
    | skip
  all_goals
    go_step3
    show Q2 _ _ _
    rw [← hQ]
    refine Exit.fwd_goto 1 _ _ rfl ?_
    generalize hQ1 : Exit.fwd _ _ _ 1 = Q1
  all_goals go_wp2
  all_goals try (go_step3; go_wp2)
  all_goals try (go_step3; go_wp2)
  all_goals try (go_step3; go_wp2)
  all_goals (rw [← hQ1, Exit.fwd_ret]; go_ret)
  all_goals refine stepped_yes hs (by simp [stOk]; omega) ?_ ?_ ?_
  all_goals simp only [stL, stLo, stHi]
  all_goals clear hQ1 c0 c1 c2 f0 f1 f2 hs
  all_goals try simp only [beq_iff_eq, beq_eq_false_iff_ne] at *
  all_goals rw [if_neg (by omega)]
  all_goals repeat (first | rw [if_pos (by omega)] | rw [if_neg (by omega)])

theorem step_any (w : World) (g : Nat) (l lo hi b : Int) (hs : ScanAt w g l lo hi) (hl0 : 0 ≤ l) (hl3 : l ≤ 3) (hb0 : 0 ≤ b) (hb1 : b ≤ 255) :
    Calls Tryz.prog 35 #[.pointer (some ⟨g, 0, none⟩), .int .u8 b] w (Stepped w g l lo hi b) := by
  rcases Int.lt_or_eq_of_le hl0 with h | h
  · exact step_tail w g l lo hi b hs h hl3
  · subst h
    exact step_lead w g lo hi b hs hb0 hb1
end Go.Proofs.YtjepnddndpmnnaaGreatDoor
namespace Go.Proofs.YtjepnddndpmnnaaGreatDoor
open Go.RowKit

def IRead (w : World) (v : Value) (xs : List Int) : Prop := ∃ A c, v = .slice A xs.length c ∧ (0 < xs.length → ∃ ad : Addr, A = some ad ∧ ∀ j (h : j < xs.length), w.cell? (ad.add j) = some (.int .i64 xs[j]))
def BRead (w : World) (v : Value) (xs : List UInt8) : Prop := ∃ A c, v = .slice A xs.length c ∧ (0 < xs.length → ∃ ad : Addr, A = some ad ∧ ∀ j (h : j < xs.length), w.cell? (ad.add j) = some (.int .u8 (xs[j].toNat : Int)))

theorem addr_add0 (g j : Nat) : (⟨g, 0, none⟩ : Addr).add j = ⟨g, j, none⟩ := by unfold Addr.add; split <;> simp_all
theorem IRead.nil (w : World) (c : Nat) : IRead w (.slice none 0 c) [] := ⟨none, c, rfl, fun h => absurd h (by simp)⟩
theorem BRead.nil (w : World) (c : Nat) : BRead w (.slice none 0 c) [] := ⟨none, c, rfl, fun h => absurd h (by simp)⟩
theorem IRead.of_row {w : World} {base : Nat} {e : TypeId} {v : Value} {xs : List Int} (h : ORow w base e v (xs.map iV)) : IRead w v xs := by
  rcases h.form with ⟨rfl, hn⟩ | ⟨g, cap, rfl, _⟩
  · have : xs = [] := by simpa using hn
    subst this
    exact IRead.nil _ _
  · refine ⟨some ⟨g, 0, none⟩, cap, by simp, fun _ => ⟨_, rfl, fun j hj => ?_⟩⟩
    obtain ⟨g', hg, _, _, hc⟩ := h.cell (k := j) (by simpa using hj)
    injection hg with hg
    injection hg with hg
    subst hg
    rw [addr_add0, hc]
    simp [iV]
theorem BRead.of_row {w : World} {base : Nat} {e : TypeId} {v : Value} {xs : List UInt8} (h : ORow w base e v (xs.map bV)) : BRead w v xs := by
  rcases h.form with ⟨rfl, hn⟩ | ⟨g, cap, rfl, _⟩
  · have : xs = [] := by simpa using hn
    subst this
    exact BRead.nil _ _
  · refine ⟨some ⟨g, 0, none⟩, cap, by simp, fun _ => ⟨_, rfl, fun j hj => ?_⟩⟩
    obtain ⟨g', hg, _, _, hc⟩ := h.cell (k := j) (by simpa using hj)
    injection hg with hg
    injection hg with hg
    subst hg
    rw [addr_add0, hc]
    simp [bV]
theorem IRead.of_cells {w : World} {x : Addr} {l c B : Nat} {zs : List Int} (hz : zs.length = c) (hl : l ≤ c) (hcell : ∀ i, i < zs.length → w.cell? (x.add i) = some (.int .i64 (zs.getD i 0))) (_hwz : ∀ n ∈ zs, (Lit.int .i64 n).wf = true) (hB : l ≤ B) :
    ∃ xs : List Int, IRead w (.slice (some x) l c) xs ∧ xs.length ≤ B := by
  have hlen : (zs.take l).length = l := by simp; omega
  refine ⟨zs.take l, ⟨some x, c, by rw [hlen], fun _ => ⟨x, rfl, fun j hj => ?_⟩⟩, by omega⟩
  rw [hcell j (by omega), List.getElem_take]
  simp [List.getD_eq_getElem?_getD, List.getElem?_eq_getElem (show j < zs.length by omega)]
theorem wf_u8 {n : Int} (h : (Lit.int .u8 n).wf = true) : 0 ≤ n ∧ n ≤ 255 := by simpa [Lit.wf, IntKind.min, IntKind.max, IntKind.signed, IntKind.bits] using h
theorem BRead.of_cells {w : World} {x : Addr} {l c B : Nat} {zs : List Int} (hz : zs.length = c) (hl : l ≤ c) (hcell : ∀ i, i < zs.length → w.cell? (x.add i) = some (.int .u8 (zs.getD i 0))) (hwz : ∀ n ∈ zs, (Lit.int .u8 n).wf = true) (hB : l ≤ B) :
    ∃ xs : List UInt8, BRead w (.slice (some x) l c) xs ∧ xs.length ≤ B := by
  have hlen : ((zs.take l).map fun n => UInt8.ofNat n.toNat).length = l := by simp; omega
  refine ⟨(zs.take l).map fun n => UInt8.ofNat n.toNat, ⟨some x, c, by rw [hlen], fun _ => ⟨x, rfl, fun j hj => ?_⟩⟩, by omega⟩
  have hj' : j < zs.length := by omega
  have hw := wf_u8 (hwz zs[j] (List.getElem_mem hj'))
  rw [hcell j hj']
  simp only [List.getElem_map, List.getElem_take]
  have e1 : (UInt8.ofNat (zs[j]).toNat).toNat = (zs[j]).toNat := UInt8.toNat_ofNat_of_lt' (show (zs[j]).toNat < 256 by omega)
  rw [e1, List.getD_eq_getElem?_getD, List.getElem?_eq_getElem hj']
  congr 2
  simp
  omega
theorem IRead.keep {w w' : World} {v : Value} {xs : List Int} (h : IRead w v xs) (hk : ∀ p : Addr, (∃ u, w.cell? p = some u) → w'.cell? p = w.cell? p) : IRead w' v xs := by
  obtain ⟨A, c, hv, hr⟩ := h
  refine ⟨A, c, hv, fun hp => ?_⟩
  obtain ⟨ad, hA, hc⟩ := hr hp
  exact ⟨ad, hA, fun j hj => (hk _ ⟨_, hc j hj⟩).trans (hc j hj)⟩
theorem BRead.keep {w w' : World} {v : Value} {xs : List UInt8} (h : BRead w v xs) (hk : ∀ p : Addr, (∃ u, w.cell? p = some u) → w'.cell? p = w.cell? p) : BRead w' v xs := by
  obtain ⟨A, c, hv, hr⟩ := h
  refine ⟨A, c, hv, fun hp => ?_⟩
  obtain ⟨ad, hA, hc⟩ := hr hp
  exact ⟨ad, hA, fun j hj => (hk _ ⟨_, hc j hj⟩).trans (hc j hj)⟩
theorem cell_lt {w : World} {p : Addr} {u : Value} (h : w.cell? p = some u) : p.block < w.heap.size := by
  rcases Nat.lt_or_ge p.block w.heap.size with hlt | hge
  · exact hlt
  · unfold World.cell? at h
    rw [Array.getElem?_eq_none hge] at h
    simp at h
theorem IRead.below {w w' : World} {v : Value} {xs : List Int} (h : IRead w v xs) (hb : Below w.heap.size w w') : IRead w' v xs :=
  h.keep fun _ ⟨_, hu⟩ => hb.cell (cell_lt hu)
theorem BRead.below {w w' : World} {v : Value} {xs : List UInt8} (h : BRead w v xs) (hb : Below w.heap.size w w') : BRead w' v xs :=
  h.keep fun _ ⟨_, hu⟩ => hb.cell (cell_lt hu)
end Go.Proofs.YtjepnddndpmnnaaGreatDoor
namespace Go.Proofs.YtjepnddndpmnnaaGreatDoor
open Go.RowKit
set_option maxRecDepth 100000

theorem bytes_cons (s : ByteArray) (h : 0 < s.size) : s.data.toList = s[0] :: s.data.toList.drop 1 := by
  have : s.data.toList = s.data.toList.drop 0 := rfl
  rw [this, List.drop_eq_getElem_cons (by simpa using h)]
  rfl
theorem bytes_take (s : ByteArray) (k : Nat) (h1 : 1 ≤ k) (h : k < s.size) : (s.data.toList.drop 1).take k = (s.data.toList.drop 1).take (k - 1) ++ [s[k]] := by
  obtain ⟨j, rfl⟩ : ∃ j, k = j + 1 := ⟨k - 1, by omega⟩
  simp only [Nat.add_sub_cancel]
  rw [List.take_succ_eq_append_getElem (by simp; omega)]
  congr 1
  simp [ByteArray.getElem_eq_getElem_data]

def OneEnd (l : List UInt8) (e : Ending) : Prop := e = .returned (.tuple #[.int .i64 (oneL l).1, .int .i64 (oneL l).2])
theorem oneEnd_of {l : List UInt8} {r n : Int} (h : oneL l = (r, n)) : OneEnd l (.returned (.tuple #[.int .i64 r, .int .i64 n])) := by unfold OneEnd; rw [h]

end Go.Proofs.YtjepnddndpmnnaaGreatDoor
namespace Go.Proofs.YtjepnddndpmnnaaGreatDoor
open Go.RowKit
set_option maxRecDepth 100000

end Go.Proofs.YtjepnddndpmnnaaGreatDoor
namespace Go.Proofs.YtjepnddndpmnnaaGreatDoor
open Go.RowKit
set_option maxRecDepth 100000

end Go.Proofs.YtjepnddndpmnnaaGreatDoor
namespace Go.Proofs.YtjepnddndpmnnaaGreatDoor
open Go.RowKit
set_option maxRecDepth 100000

end Go.Proofs.YtjepnddndpmnnaaGreatDoor
namespace Go.Proofs.YtjepnddndpmnnaaGreatDoor
set_option maxRecDepth 8000

theorem stL_range {l b : Int} (h0 : 0 ≤ l) (h3 : l ≤ 3) : 0 ≤ stL l b ∧ stL l b ≤ 3 := by
  unfold stL; repeat' split
  all_goals omega
/-- All were taken up to here, and the machine stands so. -/
def UtfAt (L : List UInt8) (k : Nat) (l lo hi : Int) : Prop := ∃ num out, runesL L = runesGo ⟨l, lo, hi, num, out⟩ (L.drop k)
theorem utf_step {L : List UInt8} {k : Nat} {b : UInt8} {l lo hi : Int} (hd : L.drop k = b :: L.drop (k + 1)) (h : UtfAt L k l lo hi) (hok : stOk l lo hi b.toNat = true) : UtfAt L (k + 1) (stL l b.toNat) (stLo l b.toNat) (stHi l b.toNat) := by
  obtain ⟨num, out, h⟩ := h
  rw [hd] at h
  simp only [runesGo, rnStep, hok, if_true] at h
  split at h
  · rename_i heq
    split at heq <;> cases heq
  · rename_i s' heq
    split at heq
    · cases heq; exact ⟨_, _, h⟩
    · cases heq; exact ⟨_, _, h⟩
theorem utf_bad {L : List UInt8} {k : Nat} {b : UInt8} {l lo hi : Int} (hd : L.drop k = b :: L.drop (k + 1)) (h : UtfAt L k l lo hi) (hok : stOk l lo hi b.toNat = false) : (runesL L).isSome = false := by
  obtain ⟨num, out, h⟩ := h
  rw [hd] at h
  simp only [runesGo, rnStep, hok] at h
  simp at h
  rw [h]; rfl
theorem utf_end {L : List UInt8} {l lo hi : Int} {k : Nat} (hk : L.length ≤ k) (h : UtfAt L k l lo hi) : (runesL L).isSome = decide (l = 0) := by
  obtain ⟨num, out, h⟩ := h
  rw [h, List.drop_eq_nil_of_le hk]
  simp only [runesGo]
  split <;> simp_all

theorem drop_cons (s : ByteArray) (k : Nat) (h : k < s.size) : s.data.toList.drop k = s[k] :: s.data.toList.drop (k + 1) := by
  rw [List.drop_eq_getElem_cons (by simpa using h)]; rfl

theorem extract_all (s : ByteArray) (a : Nat) : (s.extract a s.size).data.toList = s.data.toList.drop a := by
  rw [show (s.extract a s.size).data.toList = (s.data.toList.drop a).take (s.size - a) from by simp, List.take_of_length_le]
  simp
end Go.Proofs.YtjepnddndpmnnaaGreatDoor
namespace Go.Proofs.YtjepnddndpmnnaaGreatDoor
open Go.RowKit
set_option maxRecDepth 100000

theorem one_lead (s : ByteArray) (h : 0 < s.size) (n : Nat) (v : Int) (e1 : leadN s[0].toNat = n) (e2 : leadV s[0].toNat = v) (h0 : 128 ≤ (s[0].toNat : Int)) (hn : 1 ≤ n) (hs : n ≤ s.size) :
    oneL s.data.toList = oneFin n (tails v ((s.data.toList.drop 1).take (n - 1))) := by
  have hz : ((s.data.toList.drop 1).length : Int) + 1 = s.size := by simp; omega
  have e0 := bytes_cons s h
  generalize s.data.toList.drop 1 = T at *
  rw [e0, oneL, if_neg (by omega), e1, e2, if_neg (by omega), show ((n : Int) - 1).toNat = n - 1 from by omega]
  cases tails v (T.take (n - 1)) <;> rfl

/-- What Runes leaves, by what the bytes are. -/
def RunesPost (w : World) (l : List UInt8) (e : Ending) (w' : World) : Prop :=
  ∃ v, e = .returned (.tuple #[v, .bool (runesL l).isSome]) ∧ ORow w' w.heap.size 3 v (((runesL l).getD []).map iV) ∧ Below w.heap.size w w'

theorem runesPost_some {w wr : World} {v : Value} {out : List Int} {l : List UInt8} (h : runesL l = some out) (ho : ORow wr w.heap.size 3 v (out.map iV)) (hb : Below w.heap.size w wr) : RunesPost w l (.returned (.tuple #[v, .bool true])) wr :=
  ⟨v, by rw [h]; rfl, by rw [h]; exact ho, hb⟩
theorem runesPost_none {w wr : World} {l : List UInt8} (h : runesL l = none) (hb : Below w.heap.size w wr) : RunesPost w l (.returned (.tuple #[.slice none 0 0, .bool false])) wr :=
  ⟨_, by rw [h]; rfl, by rw [h]; exact ORow.nil _ _ _, hb⟩

def strSize : Value → Nat | .string s => s.size | _ => 0
end Go.Proofs.YtjepnddndpmnnaaGreatDoor
namespace Go.Proofs.YtjepnddndpmnnaaGreatDoor
open Go.RowKit
set_option maxRecDepth 100000

end Go.Proofs.YtjepnddndpmnnaaGreatDoor
namespace Go.Proofs.YtjepnddndpmnnaaGreatDoor
open Go.RowKit

theorem pay_any (b : Int) (h0 : 0 ≤ b) (h1 : b ≤ 255) (w : World) :
    Calls Tryz.prog 50 #[.int .u8 b] w fun e w' => e = .returned (.int .i64 (payI b)) ∧ w = w' := by
  have e6 := u8_and63 b h0 (show b < 256 by omega)
  have e5 := u8_and31 b h0 (show b < 256 by omega)
  have e4 := u8_and15 b h0 (show b < 256 by omega)
  have e3 := u8_and7 b h0 (show b < 256 by omega)
  go_enter Tryz.func50, Tryz.ntmps50
  go_wp2
  all_goals go_ret
  all_goals refine ⟨ret_int ?_, rfl⟩
  all_goals simp only [payI]
  all_goals repeat (first | rw [if_pos (by omega)] | rw [if_neg (by omega)])
end Go.Proofs.YtjepnddndpmnnaaGreatDoor
namespace Go.Proofs.YtjepnddndpmnnaaGreatDoor
open Go.RowKit
set_option maxRecDepth 100000

theorem num_join (st : Rn) (h : RnInv st) (c : Int) (h0 : 0 ≤ c) (h1 : c ≤ 255) (hok : stOk st.l st.lo st.hi c = true) : bits .or .i64 (st.num * 64) (payI c) = st.num * 64 + payI c := by
  rcases h with ⟨hl, hn⟩ | ⟨hl, hl3, hn0, hlo, hhi, h3, h2, h1'⟩
  · have hp : 0 ≤ payI c ∧ payI c < 128 := by unfold payI; repeat' split <;> omega
    rw [hn]
    exact bits_join .i64 63 (by decide) (fun n a b => by rw [IntKind.wrap_i64]; omega) 7 (0 * 64) (payI c) (by decide) (by decide) (by decide) hp.1 (by omega) (by omega)
  · have hl0 : 0 < st.l := by omega
    simp only [stOk, hl0, if_true, decide_eq_true_eq] at hok
    have hp : payI c = c % 64 := by unfold payI; rw [if_neg (by omega), if_pos (by omega)]
    have hb : st.num < 32768 := by
      rcases (show st.l = 1 ∨ st.l = 2 ∨ st.l = 3 from by omega) with h | h | h
      · exact h1' h
      · have := h2 h; omega
      · have := h3 h; omega
    exact bits_join .i64 63 (by decide) (fun n a b => by rw [IntKind.wrap_i64]; omega) 6 (st.num * 64) (payI c) (by omega) (by omega) (by omega) (by omega) (by omega) (by omega)

set_option maxHeartbeats 1000000 in
theorem runes_any (s : ByteArray) (w : World) (hm : s.size ≤ 1099511627776) :
    Calls Tryz.prog 42 #[.string s] w (RunesPost w s.data.toList) := by
  go_enter Tryz.func42, Tryz.ntmps42
  go_wp2_with (first
    | (go_at_call 24; refine (new_any _).mono ?_; rintro e w' ⟨rfl, rfl⟩))
  go_loopw [4, 6, 11] (fun v nm i wr => ∃ (k : Nat) (st : Rn), k ≤ s.size ∧ i = .int .i64 k ∧ nm = .int .i64 st.num ∧ ScanAt wr w.heap.size st.l st.lo st.hi ∧ ORow wr (w.heap.size + 1) 3 v (st.out.map iV) ∧ Below w.heap.size w wr ∧ RnInv st ∧ st.out.length ≤ k ∧ Hid (runesL s.data.toList = runesGo st (s.data.toList.drop k))) (fun _ _ i _ => s.size - (intOf i).toNat)
  case atStart => exact ⟨0, rn0 [], Nat.zero_le _, rfl, rfl, Blk.new w _ _, ORow.nil _ _ _, (Below.refl _ _).alloc (Nat.le_refl _) _, .inl ⟨rfl, rfl⟩, by simp [rn0], Lib.hid rfl⟩
  case round =>
    obtain ⟨k, st, hk, rfl, rfl, hsc, hown, hbel, hinv, hlen, HR⟩ := hrel
    have hl03 : 0 ≤ st.l ∧ st.l ≤ 3 := by rcases hinv with ⟨a, _⟩ | ⟨a, b, _⟩ <;> omega
    by_cases hlt : k < s.size
    · have hle := byte_le s[k]
      have hdc := drop_cons s k hlt
      by_cases hok : stOk st.l st.lo st.hi s[k].toNat = true
      · have HK := Lib.hid hok
        have hj := num_join st hinv s[k].toNat (by omega) hle hok
        clear hok
        go_wp2_with fail
        refine (step_any _ _ _ _ _ _ hsc hl03.1 hl03.2 (by omega) hle).mono ?_
        rintro e w1 ⟨rfl, hg1, hs1⟩
        rw [HK.out]
        rw [if_pos HK.out] at hs1
        have hnb : 0 ≤ st.num ∧ st.num < 32768 := by
          rcases hinv with ⟨_, a⟩ | ⟨a, b, c, _, _, d3, d2, d1⟩
          · omega
          · refine ⟨c, ?_⟩
            rcases (show st.l = 1 ∨ st.l = 2 ∨ st.l = 3 from by omega) with h | h | h
            · exact d1 h
            · have := d2 h; omega
            · have := d3 h; omega
        obtain ⟨hn0, hn1⟩ := hnb
        have HJ := Lib.hid hj
        clear hj
        go_wp2_with fail
        refine (pay_any _ (by omega) hle _).mono ?_
        rintro e w' ⟨rfl, rfl⟩
        go_wp2_with fail
        rw [HJ.out]
        have hrow1 : ORow w1 (w.heap.size + 1) 3 u4 (st.out.map iV) := hown.kept_far hg1 (by omega)
        have hbel1 : Below w.heap.size w w1 := below_only hbel hg1 hbel.size (Nat.le_refl _)
        have hbs1 : w.heap.size + 1 ≤ w1.heap.size := by have := hg1.size; have := hsc.lt; omega
        have hgo : runesL s.data.toList = match rnStep st (s[k].toNat : Int) with | none => none | some s' => runesGo s' (s.data.toList.drop (k + 1)) := by rw [HR.out, hdc]; rfl
        have hle' : 0 ≤ (s[k].toNat : Int) := by omega
        clear hg1 hsc hown hbel hdc
        by_cases hz : stL st.l s[k].toNat = 0
        · have hst : rnStep st (s[k].toNat : Int) = some ⟨stL st.l s[k].toNat, stLo st.l s[k].toNat, stHi st.l s[k].toNat, 0, st.out ++ [st.num * 64 + payI s[k].toNat]⟩ := by
            unfold rnStep; rw [if_pos HK.out, if_pos hz]
          have hinv1 := rnInv_step hinv hle' hle hst
          rw [hst] at hgo
          have HG := Lib.hid hgo
          have HZ := Lib.hid (show decide (stL st.l s[k].toNat = 0) = true by simpa using hz)
          clear hgo hst hz
          refine (whole_any _ _ _ _ _ hs1).mono ?_
          rintro e w' ⟨rfl, rfl⟩
          rw [HZ.out]
          go_wp2_with (first
            | (at_builtin; refine wp_app1 rfl _ _ 108 rfl (w.heap.size + 1) 3 (.int .i64 0) 8 Tryz.underlying108 Tryz.info3 rfl u4 _ _ rfl (by exact hrow1) rfl _ rfl (by simp [maxLen]; omega) (by simp; omega) (by omega) ?_; intro v2 w2 hown2 hb2 hn2))
          have hrow2 : ORow w2 (w.heap.size + 1) 3 v2 ((st.out ++ [st.num * 64 + payI s[k].toNat]).map iV) := by simpa [iV] using hown2
          have hs2 : ScanAt w2 w.heap.size (stL st.l s[k].toNat) (stLo st.l s[k].toNat) (stHi st.l s[k].toNat) := Blk.grown hs1 hb2 (hrow1.not_own (by omega))
          have hbel2 : Below w.heap.size w w2 := below_row hbel1 hb2 hrow1 (by omega) (by omega)
          clear hown2 hb2 hn2 hs1 hrow1 hbel1
          go_wp2
          go_roundw
          case rel => exact ⟨k + 1, _, by omega, by go_num, rfl, hs2, hrow2, hbel2, hinv1, by simp; omega, HG⟩
          case measure => simp [intOf]; omega
        · have hst : rnStep st (s[k].toNat : Int) = some ⟨stL st.l s[k].toNat, stLo st.l s[k].toNat, stHi st.l s[k].toNat, st.num * 64 + payI s[k].toNat, st.out⟩ := by
            unfold rnStep; rw [if_pos HK.out, if_neg hz]
          have hinv1 := rnInv_step hinv hle' hle hst
          rw [hst] at hgo
          have HG := Lib.hid hgo
          have HZ := Lib.hid (show decide (stL st.l s[k].toNat = 0) = false by simpa using hz)
          clear hgo hst hz
          refine (whole_any _ _ _ _ _ hs1).mono ?_
          rintro e w' ⟨rfl, rfl⟩
          rw [HZ.out]
          go_wp2
          go_roundw
          case rel => exact ⟨k + 1, ⟨stL st.l s[k].toNat, stLo st.l s[k].toNat, stHi st.l s[k].toNat, st.num * 64 + payI s[k].toNat, st.out⟩, by omega, by go_num, rfl, hs1, hrow1, hbel1, hinv1, (by show st.out.length ≤ k + 1; omega), HG⟩
          case measure => simp [intOf]; omega
      · have HK := Lib.hid (show stOk st.l st.lo st.hi s[k].toNat = false by simpa using hok)
        have hnone : runesL s.data.toList = none := by
          rw [HR.out, hdc]
          simp only [runesGo, rnStep]
          rw [if_neg hok]
        have HN := Lib.hid hnone
        clear hnone hok hdc
        go_wp2_with fail
        refine (step_any _ _ _ _ _ _ hsc hl03.1 hl03.2 (by omega) hle).mono ?_
        rintro e w1 ⟨rfl, hg1, hs1⟩
        rw [HK.out]
        go_wp2
        go_ret2
        exact runesPost_none HN.out (below_only hbel hg1 hbel.size (Nat.le_refl _))
    · have hkn : k = s.size := by omega
      subst hkn
      have hfin : runesL s.data.toList = if st.l = 0 then some st.out else none := by
        rw [HR.out, List.drop_eq_nil_of_le (by simp)]
        rfl
      by_cases hz : st.l = 0
      · have HN := Lib.hid (show runesL s.data.toList = some st.out by rw [hfin, if_pos hz])
        have HZ := Lib.hid (show decide (st.l = 0) = true by simpa using hz)
        clear hfin hz
        go_wp2_with (first
          | (go_at_call 36; refine (whole_any _ _ _ _ _ hsc).mono ?_; rintro e w' ⟨rfl, rfl⟩; rw [HZ.out]))
        go_ret2
        exact runesPost_some HN.out (hown.mono (by omega)) hbel
      · have HN := Lib.hid (show runesL s.data.toList = none by rw [hfin, if_neg hz])
        have HZ := Lib.hid (show decide (st.l = 0) = false by simpa using hz)
        clear hfin hz
        go_wp2_with (first
          | (go_at_call 36; refine (whole_any _ _ _ _ _ hsc).mono ?_; rintro e w' ⟨rfl, rfl⟩; rw [HZ.out]))
        go_ret2
        exact runesPost_none HN.out hbel
end Go.Proofs.YtjepnddndpmnnaaGreatDoor

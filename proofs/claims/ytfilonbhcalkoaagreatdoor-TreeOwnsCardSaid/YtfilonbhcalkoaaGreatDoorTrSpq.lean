/-
  Nodes that are written over: spoil.
-/
import Derived.Test.YtfilonbhcalkoaaGreatDoorTrUq
namespace Go.Proofs.YtfilonbhcalkoaaGreatDoor
open Go.RowKit Go.Maps
set_option maxRecDepth 100000
set_option linter.unusedSimpArgs false

/-- A row of nodes whose blocks lie in [lo, hi), d levels deep at most; what its nodes are is open. -/
def SpD (lo hi : Nat) (w : World) : Nat → Nat → Option Addr → Nat → Prop
  | 0, len, _, c => len = 0 ∧ c ≤ maxLen
  | d + 1, len, A, c => len ≤ c ∧ c ≤ maxLen ∧ (0 < len → ∃ b o cs, A = some ⟨b, o, none⟩ ∧ o = 0 ∧ lo ≤ b ∧ b < hi ∧ Blk w b 24 cs ∧ ∀ j, j < len → ∃ (k : Int) (t v : ByteArray) (A' : Option Addr) (l' c' : Nat),
      cs[j * 4]? = some (.int .i64 k) ∧ cs[j * 4 + 1]? = some (.string t) ∧ cs[j * 4 + 2]? = some (.string v) ∧ cs[j * 4 + 3]? = some (.slice A' l' c') ∧ SpD lo hi w d l' A' c')
theorem SpD.len {lo hi : Nat} {w : World} {d len : Nat} {A : Option Addr} {c : Nat} (h : SpD lo hi w d len A c) : len ≤ c ∧ c ≤ maxLen := by
  cases d with
  | zero => exact ⟨by rw [h.1]; exact Nat.zero_le _, h.2⟩
  | succ d => exact ⟨h.1, h.2.1⟩
theorem SpD.nil (lo hi : Nat) (w : World) (d : Nat) : SpD lo hi w d 0 none 0 := by
  cases d with
  | zero => exact ⟨rfl, Nat.zero_le _⟩
  | succ d => exact ⟨Nat.le_refl _, Nat.zero_le _, fun h => absurd h (by omega)⟩
theorem SpD.of_node {lo : Nat} {w : World} (n : Nd) : ∀ (d : Nat) (A : Option Addr) (c : Nat), sizeN n ≤ d → NAt (Fresh lo w) w n A c → SpD lo w.heap.size w d n.kids.length A c := by
  induction n using Nd.ind with
  | h k t v kids ih =>
    intro d A c hd hn
    have hp := sizeN_pos (.mk k t v kids)
    obtain ⟨d, rfl⟩ : ∃ e, d = e + 1 := ⟨d - 1, by omega⟩
    obtain ⟨h1, h2, h3⟩ := (NAt.def_ _ _ _).1 hn
    refine ⟨h1, h2, fun hl => ?_⟩
    obtain ⟨b, o, rfl, ⟨hlo, ho, cs, hh⟩, hk⟩ := h3 hl
    have hB : Blk w b 24 cs := hh
    refine ⟨b, o, cs, rfl, ho, hlo, hB.lt, hB, fun j hj => ?_⟩
    subst ho
    obtain ⟨A', c', q0, q1, q2, q3, hnk⟩ := hk j hj
    simp only [Nat.zero_add] at q0 q1 q2 q3
    rw [hB.cell] at q0 q1 q2 q3
    refine ⟨_, _, _, A', _, c', q0, q1, q2, q3, ih _ (List.getElem_mem hj) d A' c' ?_ hnk⟩
    have := sizeL_mem (List.getElem_mem hj)
    simp only [sizeN] at hd
    simp only [Nd.kids] at this ⊢
    omega

/-- What spoiling turns: nodes in blocks of [lo, hi), each of them to one and the same. -/
structure Spt (lo hi : Nat) (w w' : World) : Prop where
  low : Below lo w w'
  out : ∀ b, b < w.heap.size → ¬ (lo ≤ b ∧ b < hi) → w'.heap[b]? = w.heap[b]?
  quad : ∀ b cs, lo ≤ b → b < hi → Blk w b 24 cs → ∃ cs', Blk w' b 24 cs' ∧ ∀ j : Nat, (∀ i, i < 4 → cs'[j * 4 + i]? = cs[j * 4 + i]?) ∨
    (cs'[j * 4]? = some (.int .i64 77) ∧ cs'[j * 4 + 1]? = some (.string ⟨#[]⟩) ∧ cs'[j * 4 + 2]? = some (.string ⟨#[]⟩) ∧ cs'[j * 4 + 3]? = some (.slice none 0 0))
section
variable {lo hi : Nat} {w w' w'' : World}
theorem Spt.refl (lo hi : Nat) (w : World) : Spt lo hi w w := ⟨Below.refl _ _, fun _ _ _ => rfl, fun _ cs _ _ h => ⟨cs, h, fun _ => Or.inl fun _ _ => rfl⟩⟩
theorem Spt.trans (h : Spt lo hi w w') (k : Spt lo hi w' w'') : Spt lo hi w w'' := by
  refine ⟨h.low.trans k.low, fun b hb hn => (k.out b (Nat.lt_of_lt_of_le hb h.low.size) hn).trans (h.out b hb hn), fun b cs h1 h2 hB => ?_⟩
  obtain ⟨cs1, hB1, hq1⟩ := h.quad b cs h1 h2 hB
  obtain ⟨cs2, hB2, hq2⟩ := k.quad b cs1 h1 h2 hB1
  refine ⟨cs2, hB2, fun j => ?_⟩
  rcases hq2 j with e2 | b2
  · rcases hq1 j with e1 | ⟨b0, b1, b2, b3⟩
    · exact Or.inl fun i hi => (e2 i hi).trans (e1 i hi)
    · exact Or.inr ⟨(e2 0 (by omega)).trans b0, (e2 1 (by omega)).trans b1, (e2 2 (by omega)).trans b2, (e2 3 (by omega)).trans b3⟩
  · exact Or.inr b2
theorem Spt.of_below (h : Below w.heap.size w w') (hl : lo ≤ w.heap.size) : Spt lo hi w w' :=
  ⟨h.mono hl, fun b hb _ => h.block b hb, fun _ cs _ _ hB => ⟨cs, hB.below h hB.lt, fun _ => Or.inl fun _ _ => rfl⟩⟩
theorem SpD.spt {d : Nat} : ∀ {len : Nat} {A : Option Addr} {c : Nat}, SpD lo hi w d len A c → Spt lo hi w w' → SpD lo hi w' d len A c := by
  induction d with
  | zero => exact fun h _ => h
  | succ d ih =>
    intro len A c h hs
    refine ⟨h.1, h.2.1, fun hp => ?_⟩
    obtain ⟨b, o, cs, rfl, ho, h1, h2, hB, hk⟩ := h.2.2 hp
    obtain ⟨cs', hB', hq⟩ := hs.quad b cs h1 h2 hB
    refine ⟨b, o, cs', rfl, ho, h1, h2, hB', fun j hj => ?_⟩
    rcases hq j with e | ⟨b0, b1, b2, b3⟩
    · obtain ⟨k, t, v, A', l', c', q0, q1, q2, q3, hd⟩ := hk j hj
      exact ⟨k, t, v, A', l', c', (e 0 (by omega)).trans q0, (e 1 (by omega)).trans q1, (e 2 (by omega)).trans q2, (e 3 (by omega)).trans q3, ih hd hs⟩
    · exact ⟨_, _, _, _, _, _, b0, b1, b2, b3, SpD.nil _ _ _ _⟩
theorem quad_set (cs : Array Value) (j : Nat) (hj : j * 4 + 3 < cs.size) (a0 a1 a2 a3 : Value) (j' : Nat) :
    let cs' := ((((cs.setIfInBounds (j * 4) a0).setIfInBounds (j * 4 + 1) a1).setIfInBounds (j * 4 + 2) a2).setIfInBounds (j * 4 + 3) a3)
    (∀ i, i < 4 → cs'[j' * 4 + i]? = cs[j' * 4 + i]?) ∨ (cs'[j' * 4]? = some a0 ∧ cs'[j' * 4 + 1]? = some a1 ∧ cs'[j' * 4 + 2]? = some a2 ∧ cs'[j' * 4 + 3]? = some a3) := by
  intro cs'
  by_cases h : j' = j
  · subst h
    refine Or.inr ⟨?_, ?_, ?_, ?_⟩ <;> simp only [cs', Array.getElem?_setIfInBounds, Array.size_setIfInBounds]
    all_goals repeat (first | rw [if_pos (by first | trivial | omega)] | rw [if_neg (by omega)])
  · refine Or.inl fun i hi => ?_
    simp only [cs', Array.getElem?_setIfInBounds, Array.size_setIfInBounds]
    repeat rw [if_neg (by omega)]
theorem Spt.store {b o j : Nat} {cs : Array Value} (hB : Blk w b 24 cs) (h1 : lo ≤ b) (h2 : b < hi) (ho : o = 0) (hj : j * 4 + 3 < cs.size) :
    Spt lo hi w ((((w.setCell ⟨b, o + j * 4, none⟩ (.int .i64 77)).setCell ⟨b, o + j * 4 + 1, none⟩ (.string ⟨#[]⟩)).setCell ⟨b, o + j * 4 + 2, none⟩ (.string ⟨#[]⟩)).setCell ⟨b, o + j * 4 + 3, none⟩ (.slice none 0 0)) := by
  subst ho
  simp only [Nat.zero_add]
  refine ⟨((((Below.refl lo w).setCell (p := ⟨b, j * 4, none⟩) h1 _).setCell (p := ⟨b, j * 4 + 1, none⟩) h1 _).setCell (p := ⟨b, j * 4 + 2, none⟩) h1 _).setCell (p := ⟨b, j * 4 + 3, none⟩) h1 _, fun b' hb' hn => ?_, fun b' cs' h1' h2' hB' => ?_⟩
  · have hne : b' ≠ b := fun e => hn (by subst e; exact ⟨h1, h2⟩)
    rw [Below.heap_setCell _ _ _ _ hne, Below.heap_setCell _ _ _ _ hne, Below.heap_setCell _ _ _ _ hne, Below.heap_setCell _ _ _ _ hne]
  · by_cases e : b' = b
    · subst e
      obtain rfl : cs' = cs := by
        unfold Blk at hB hB'
        rw [hB] at hB'
        injection hB' with hB'
        injection hB' with hB'
        exact hB'.symm
      exact ⟨_, (((hB'.set_ (j * 4) (.int .i64 77)).set_ (j * 4 + 1) (.string ⟨#[]⟩)).set_ (j * 4 + 2) (.string ⟨#[]⟩)).set_ (j * 4 + 3) (.slice none 0 0), fun j' => quad_set cs' j hj _ _ _ _ j'⟩
    · exact ⟨cs', ((((hB'.far (p := ⟨b, j * 4, none⟩) e _).far (p := ⟨b, j * 4 + 1, none⟩) e _).far (p := ⟨b, j * 4 + 2, none⟩) e _).far (p := ⟨b, j * 4 + 3, none⟩) e _), fun _ => Or.inl fun _ _ => rfl⟩
end

set_option maxHeartbeats 8000000 in
theorem spoil_any (d : Nat) : ∀ (len : Nat) (A : Option Addr) (c : Nat) (k : Int) (t v : ByteArray) (lo hi : Nat) (w : World), hi ≤ w.heap.size → lo ≤ w.heap.size → SpD lo hi w d len A c →
    Calls Tryz.prog 23 #[.agg #[.int .i64 k, .string t, .string v, .slice A len c]] w fun e w' => e = .returned (.tuple #[]) ∧ Spt lo hi w w' := by
  induction d with
  | zero =>
    intro len A c k t v lo hi w hh hl h
    obtain ⟨rfl, hc⟩ := h
    have hX := new_node w #[.int .i64 k, .string t, .string v, .slice A 0 c]
    have x3 := hX.cell 3
    have hS : Spt lo hi w (w.alloc (.cells #[.int .i64 k, .string t, .string v, .slice A 0 c] 24)) := Spt.of_below (al_node w _) hl
    clear hX
    go_enter Tryz.func23, Tryz.ntmps23
    go_wp2
    go_loopw [2] (fun i wr => i = .int .i64 0 ∧ wr = w.alloc (.cells #[.int .i64 k, .string t, .string v, .slice A 0 c] 24)) (fun _ _ => 0)
    case atStart => exact ⟨rfl, rfl⟩
    case round =>
      obtain ⟨rfl, rfl⟩ := hrel
      go_wp2
      go_end0
      exact ⟨rfl, hS⟩
  | succ d ih =>
    intro len A c k t v lo hi w hh hl h
    have hlen := h.len
    have hc1 := hlen.1
    have hc2 : c ≤ 9223372036854775807 := by simpa [maxLen] using hlen.2
    have H := Lib.hid h
    have hX := new_node w #[.int .i64 k, .string t, .string v, .slice A len c]
    have x3 := hX.cell 3
    obtain ⟨W0, hW0⟩ : ∃ W0, w.alloc (.cells #[.int .i64 k, .string t, .string v, .slice A len c] 24) = W0 := ⟨_, rfl⟩
    have HS0 := Lib.hid (show Spt lo hi w W0 by rw [← hW0]; exact Spt.of_below (al_node w _) hl)
    have HX0 := Lib.hid (show Blk W0 w.heap.size 24 #[.int .i64 k, .string t, .string v, .slice A len c] by rw [← hW0]; exact hX)
    have hs0 : w.heap.size < W0.heap.size := HX0.out.lt
    clear hX h hlen
    go_enter Tryz.func23, Tryz.ntmps23
    go_wp2
    go_loopw [2] (fun i wr => ∃ j : Nat, j ≤ len ∧ i = .int .i64 (j : Int) ∧ Hid (Spt lo hi w wr) ∧ Hid (Blk wr w.heap.size 24 #[.int .i64 k, .string t, .string v, .slice A len c]) ∧ w.heap.size < wr.heap.size) (fun i _ => len - (intOf i).toNat)
    case atStart => exact ⟨0, Nat.zero_le _, rfl, HS0, HX0, hs0⟩
    case round =>
      obtain ⟨j, hj, rfl, HS, HX, hsr⟩ := hrel
      have y3 := HX.out.cell 3
      clear HS0 HX0 hs0 hW0 x3
      by_cases hlt : j < len
      case neg =>
        go_wp2
        go_end0
        exact ⟨rfl, HS.out⟩
      case pos =>
        have hsp := H.out.spt HS.out
        obtain ⟨b, o, cs, rfl, ho, hb1, hb2, hB, hk⟩ := hsp.2.2 (by omega)
        obtain ⟨k', t', v', A', l', c', q0, q1, q2, q3, hd⟩ := hk j hlt
        have hq3 : j * 4 + 3 < cs.size := by
          rcases Nat.lt_or_ge (j * 4 + 3) cs.size with h | h
          · exact h
          · rw [Array.getElem?_eq_none h] at q3; cases q3
        have hIH := ih l' A' c' k' t' v' lo hi wr (by omega) (by omega) hd
        have HIH := Lib.hid hIH
        have HBB := Lib.hid hB
        have r0 : wr.cell? ⟨b, o + j * 4, none⟩ = some (.int .i64 k') := by rw [hB.cell, ho, Nat.zero_add]; exact q0
        have r1 : wr.cell? ⟨b, o + j * 4 + 1, none⟩ = some (.string t') := by rw [hB.cell, ho, Nat.zero_add]; exact q1
        have r2 : wr.cell? ⟨b, o + j * 4 + 2, none⟩ = some (.string v') := by rw [hB.cell, ho, Nat.zero_add]; exact q2
        have r3 : wr.cell? ⟨b, o + j * 4 + 3, none⟩ = some (.slice A' l' c') := by rw [hB.cell, ho, Nat.zero_add]; exact q3
        have HO := Lib.hid ho
        have HQ3 := Lib.hid hq3
        clear hsp hk q0 q1 q2 q3 hd hIH hB ho hq3 H ih
        go_wp2_with fail
        refine HIH.out.mono ?_
        rintro e w2 ⟨rfl, hs2⟩
        obtain ⟨cs2, hB2, hq2⟩ := hs2.quad b cs hb1 hb2 HBB.out
        have hX2 : Blk w2 w.heap.size 24 #[.int .i64 k, .string t, .string v, .slice (some ⟨b, o, none⟩) len c] := (hs2.out _ hsr (by omega)).trans HX.out
        have y3 := hX2.cell 3
        have hz2 : j * 4 + 3 < cs2.size := by
          have hc : ∃ u, cs2[j * 4 + 3]? = some u := by
            rcases hq2 j with e | ⟨_, _, _, e⟩
            · exact ⟨_, (e 3 (by omega)).trans (Array.getElem?_eq_getElem HQ3.out)⟩
            · exact ⟨_, e⟩
          obtain ⟨u, hu⟩ := hc
          rcases Nat.lt_or_ge (j * 4 + 3) cs2.size with h | h
          · exact h
          · rw [Array.getElem?_eq_none h] at hu; cases hu
        have r0 : w2.cell? ⟨b, o + j * 4, none⟩ = some cs2[j * 4] := by rw [hB2.cell, HO.out, Nat.zero_add]; exact Array.getElem?_eq_getElem _
        have r1 : w2.cell? ⟨b, o + j * 4 + 1, none⟩ = some cs2[j * 4 + 1] := by rw [hB2.cell, HO.out, Nat.zero_add]; exact Array.getElem?_eq_getElem _
        have r2 : w2.cell? ⟨b, o + j * 4 + 2, none⟩ = some cs2[j * 4 + 2] := by rw [hB2.cell, HO.out, Nat.zero_add]; exact Array.getElem?_eq_getElem _
        have r3 : w2.cell? ⟨b, o + j * 4 + 3, none⟩ = some cs2[j * 4 + 3] := by rw [hB2.cell, HO.out, Nat.zero_add]; exact Array.getElem?_eq_getElem _
        have f0 : w2.frozen? ⟨b, o + j * 4, none⟩ = false := hB2.frozen _
        have f1 : w2.frozen? ⟨b, o + j * 4 + 1, none⟩ = false := hB2.frozen _
        have f2 : w2.frozen? ⟨b, o + j * 4 + 2, none⟩ = false := hB2.frozen _
        have f3 : w2.frozen? ⟨b, o + j * 4 + 3, none⟩ = false := hB2.frozen _
        have HST := Lib.hid (Spt.store hB2 hb1 hb2 HO.out hz2)
        have HS2 := Lib.hid (HS.out.trans hs2)
        have HX2 := Lib.hid hX2
        have hbl := hB2.lt
        have hs2z := hs2.low.size
        generalize cs2[j * 4] = u0 at *
        generalize cs2[j * 4 + 1] = u1 at *
        generalize cs2[j * 4 + 2] = u2 at *
        generalize cs2[j * 4 + 3] = u3 at *
        have hbne : b ≠ w.heap.size := by omega
        clear hX2 hB2 hq2 hz2 hs2 HS HX HIH HBB HQ3 HO
        go_wp2
        go_roundw
        case rel =>
          have hst := HST.out
          have hx : Blk ((((w2.setCell ⟨b, o + j * 4, none⟩ (.int .i64 77)).setCell ⟨b, o + j * 4 + 1, none⟩ (.string ⟨#[]⟩)).setCell ⟨b, o + j * 4 + 2, none⟩ (.string ⟨#[]⟩)).setCell ⟨b, o + j * 4 + 3, none⟩ (.slice none 0 0)) w.heap.size 24 #[.int .i64 k, .string t, .string v, .slice (some ⟨b, o, none⟩) len c] := (((HX2.out.far (p := ⟨b, o + j * 4, none⟩) (Ne.symm hbne) _).far (p := ⟨b, o + j * 4 + 1, none⟩) (Ne.symm hbne) _).far (p := ⟨b, o + j * 4 + 2, none⟩) (Ne.symm hbne) _).far (p := ⟨b, o + j * 4 + 3, none⟩) (Ne.symm hbne) _
          exact ⟨j + 1, hlt, by go_num, Lib.hid (HS2.out.trans hst), Lib.hid hx, hx.lt⟩
        case measure => simp [intOf]; omega
end Go.Proofs.YtfilonbhcalkoaaGreatDoor

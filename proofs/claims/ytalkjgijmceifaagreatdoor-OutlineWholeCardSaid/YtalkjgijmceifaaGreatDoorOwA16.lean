/-
  anchors: a Check that has gone through what is kept; an event apart.
  anchors: New, Open, Size, Told.
  slices.DeleteFunc at strings, its predicate a closure that makes memory alone.
-/
import Derived.Test.YtalkjgijmceifaaGreatDoorOwA15
import Derived.Test.YtalkjgijmceifaaGreatDoorOwA04
import Derived.Test.YtalkjgijmceifaaGreatDoorShelfS
import Derived.Sort.OwnSorted
import Derived.Lib.SliceRun
namespace Go.Proofs.YtalkjgijmceifaaGreatDoor
open Go.RowKit Go.Maps
set_option maxRecDepth 100000
set_option linter.unusedSimpArgs false
set_option linter.unusedVariables false

set_option linter.unusedSectionVars false
variable [Tab]
/-- The library's variables, laid below B. -/
def SWB (B : Nat) (w : World) : Prop := ∃ w0, Nm.StdW w0 ∧ w0.heap.size ≤ B ∧ Below w0.heap.size w0 w
theorem SWB.std {B : Nat} {w : World} (h : SWB B w) : Nm.StdW w := by obtain ⟨w0, h1, _, h3⟩ := h; exact h1.below h3
theorem SWB.below {B : Nat} {w w' : World} (h : SWB B w) (hb : Below B w w') : SWB B w' := by
  obtain ⟨w0, h1, h2, h3⟩ := h
  exact ⟨w0, h1, h2, h3.trans (hb.mono h2)⟩
theorem SWB.ts {B : Nat} {w w' : World} {S : Nat → Prop} {p : Obj → Prop} (h : SWB B w) (ht : TS S p w w') (hB : B ≤ w.heap.size) (hS : ∀ k, S k → B ≤ k) : SWB B w' := h.below (ht.below hB hS)
theorem SWB.of {w : World} (h : Nm.StdW w) : SWB w.heap.size w := ⟨w, h, Nat.le_refl _, Below.refl _ _⟩

set_option maxHeartbeats 4000000 in
theorem check_any (w : World) (p : Nat) (lv : Value) (evs : List Ev) (hb : Blk w p 97 #[lv]) (hr : ERow w 0 lv evs) (hx : ∀ x ∈ evs, okE x) (hw : Nm.StdW w) (hn : evs.length ≤ 1000000) :
    Calls Tryz.prog 45 #[.pointer (some ⟨p, 0, none⟩)] w fun e w' => ∃ q, e = .returned (.pointer (some ⟨q, 0, none⟩)) ∧ w.heap.size ≤ q ∧ CAt w' w.heap.size q (runS [topP] evs) ∧ Below w.heap.size w w' := by
  obtain ⟨A, c, rfl, _, _, hrd⟩ := hr.read
  have c0 := hb.cell 0
  have HN := Lib.hid (fun w1 (h : Below w.heap.size w w1) => cnew_any w1 w.heap.size h.size (Nat.zero_le _))
  have HC := Lib.hid hb
  clear hb hr
  go_enter Tryz.func45, Tryz.ntmps45
  go_wp2_with fail
  refine (HN.out w (Below.refl _ _)).mono ?_
  rintro e w1 ⟨g, rfl, hg, hC1, hb1⟩
  have HB1 := Lib.hid hb1
  have c1 : w1.cell? ⟨p, 0, none⟩ = some (.slice A evs.length c) := (hb1.cell (p := ⟨p, 0, none⟩) (cell_lt c0)).trans c0
  have HC1 := Lib.hid hC1
  clear hb1 hC1 c0 HN
  go_wp2
  go_loopw [12] (fun i wr => ∃ (k : Nat) (st : List Pt), k ≤ evs.length ∧ i = .int .i64 k ∧ Hid (CAt wr w.heap.size g st) ∧ Hid (Good st) ∧ Hid (Below w.heap.size w wr) ∧ Hid (runS [topP] evs = runS st (evs.drop k))) (fun i _ => evs.length - (intOf i).toNat)
  case atStart => exact ⟨0, [topP], Nat.zero_le _, rfl, HC1, Lib.hid good_start, HB1, Lib.hid rfl⟩
  case round =>
    obtain ⟨k, st, hk, rfl, HCr, HG, HB, HR⟩ := hrel
    by_cases hlt : k < evs.length
    · obtain ⟨bb, oo, rfl, hc⟩ := hrd (by omega)
      obtain ⟨h1, h2, h3⟩ := hc k hlt
      have hok := hx _ (List.getElem_mem hlt)
      have g1 := (HB.out.cell (cell_lt h1)).trans h1
      have g2 := (HB.out.cell (cell_lt h2)).trans h2
      have g3 := (HB.out.cell (cell_lt h3)).trans h3
      have hd := HR.out
      rw [List.drop_eq_getElem_cons hlt] at hd
      have hd2 : runS st (evs[k] :: evs.drop (k + 1)) = runS (stepS st evs[k]) (evs.drop (k + 1)) := rfl
      rw [hd2] at hd
      clear hd2 hc hrd h1 h2 h3 c1
      generalize evs[k] = x at *
      obtain ⟨_, _, hs, _⟩ := hok
      have hbA : Below wr.heap.size wr (wr.alloc (.cells #[.int .i64 x.k, .string x.t, .string x.v] 38)) := (Below.refl _ _).alloc (Nat.le_refl _) _
      have HCA := Lib.hid (HCr.out.below hbA)
      have HB2 := Lib.hid (HB.out.trans (hbA.mono HB.out.size))
      have HW2 := Lib.hid (hw.below HB2.out)
      have HSt : Hid (∀ w', CAt w' w.heap.size g st → Nm.StdW w' → Calls Tryz.prog 19 #[.pointer (some ⟨g, 0, none⟩), .agg #[.int .i64 x.k, .string x.t, .string x.v]] w' (SPost w' w.heap.size g st x)) := Lib.hid fun w' h1 h2 => estep_any w' w.heap.size g st x h1 HG.out (NumW.of h2) hs
      have HG2 := Lib.hid (good_step HG.out x)
      have HD := Lib.hid hd
      clear hd hbA
      go_wp2_with fail
      refine (HSt.out _ HCA.out HW2.out).mono ?_
      unfold SPost
      rintro e w3 ⟨rfl, hC3, hT3⟩
      have HC3 := Lib.hid hC3
      have HB3 := Lib.hid (HB2.out.trans (hT3.below HB2.out.size))
      clear hC3 hT3 HSt
      go_wp2
      go_roundw
      case rel => exact ⟨k + 1, _, hlt, by go_num, HC3, HG2, HB3, HD⟩
      case measure => first | (simp [intOf]; done) | (simp [intOf]; omega)
    · have hke : k = evs.length := by omega
      have hd := HR.out
      rw [List.drop_of_length_le (by omega)] at hd
      have HD := Lib.hid hd
      subst hke
      clear hd hrd c1
      go_wp2
      go_ret
      exact ⟨g, rfl, hg, by rw [HD.out]; exact HCr.out, HB.out⟩
end Go.Proofs.YtalkjgijmceifaaGreatDoor
namespace Go.Proofs.YtalkjgijmceifaaGreatDoor
open Go.RowKit Go.Maps
set_option maxRecDepth 100000
set_option linter.unusedSimpArgs false
set_option linter.unusedVariables false

set_option linter.unusedSectionVars false
variable [Tab]
theorem open_names {K : List ARec} {m : List AEnt} (hK : K.map ARec.ent = m) : K.map (·.nm) = namesA m := by
  rw [← hK]; unfold namesA; rw [List.map_map]; rfl
theorem pend_snoc (m : List AEnt) (n : List UInt8) : namesA (pend (m ++ [(n, [])])) = namesA (pend m) ++ [n] := by
  unfold pend namesA
  rw [List.filter_append, List.map_append]
  congr 1
theorem AAt.self {w : World} {S : Nat → Prop} {a : Nat} {s : Am} (h : AAt w S a s) : AAt w (Ext S w w) a s := by
  obtain ⟨hl, K, op, mb, ov, hR, hK, hO⟩ := h
  exact ⟨Ext.lt hl (Nat.le_refl _), K, op, mb, ov, hR.mono fun k _ hk => .inl hk, hK, hO⟩
theorem Tryz.infoStr : (Tryz.prog.info? 9).map (fun i => (i.zero, i.size, i.bytes)) = some (some (.string ⟨#[]⟩), 1, 16) := by kernel_rfl
theorem local_size {n : ByteArray} (h : localL n.data.toList = true) : n.size ≤ 16 := by
  have hl : n.data.toList.length = n.size := by simp
  rw [← hl]
  revert h
  generalize n.data.toList = l
  intro h
  cases l with
  | nil => exact Nat.zero_le _
  | cons c t =>
    simp only [localL, Bool.and_eq_true, decide_eq_true_iff] at h
    rw [List.length_cons]
    omega

/-- The names that are open, put in order. -/
theorem sort_any (w : World) (g cap : Nat) (l : List (List UInt8)) (h : ORow w 0 9 (.slice (some ⟨g, 0, none⟩) l.length cap) (l.map strV)) (hl : l.length ≤ 1000) :
    Calls Tryz.prog 206 #[.slice (some ⟨g, 0, none⟩) l.length cap] w fun e w' => e = .returned (.tuple #[]) ∧ (∃ l' : List (List UInt8), l'.Perm l ∧ ORow w' 0 9 (.slice (some ⟨g, 0, none⟩) l.length cap) (l'.map strV)) ∧ w.grownBy w' (some g) := by
  have hrow := h
  unfold ORow at hrow
  rw [List.length_map] at hrow
  rcases hrow.2 with ⟨hnil, _⟩ | ⟨g', cap', cur, hv, hbase, hb, h1, h2, h3, h4⟩
  · cases hnil
  · injection hv with e1 _ e3
    injection e1 with e1
    injection e1 with e1
    subst e1 e3
    have hH := holds_of_block hb (ss := l) (by rw [Nat.mul_one] at h4; exact h4)
    refine (Tryz.slices_Sort_string g 0 cap l w hH (heap_lt hb) (by omega)).mono ?_
    rintro e w' ⟨rfl, n, os, rfl⟩
    refine ⟨rfl, ⟨l.mergeSort fun x y => decide (x ≤ y), List.mergeSort_perm l _, ?_⟩, grownBy_sorted _⟩
    have := ownsRow_sorted (n := n) (os := os) (ts := l.mergeSort fun x y => decide (x ≤ y)) (ss := l) (by simp) hbase hb h1 h2 h3
    unfold ORow
    rw [List.length_map, List.length_mergeSort]
    exact this

theorem strV_of (n : ByteArray) : strV n.data.toList = .string n := by
  cases n with
  | mk d => cases d; rfl
theorem ARest.below {w w' : World} {S : Nat → Prop} {a : Nat} {K : List ARec} {size told mb : Nat} {ov : Value} (h : ARest w S a K size told mb ov) (hb : Below w.heap.size w w') : ARest w' S a K size told mb ov :=
  h.off (T := fun _ => False) (p := anyO) (TS.of_below hb) (fun _ _ h => h)
theorem ARest.mono {w : World} {S S' : Nat → Prop} {a : Nat} {K : List ARec} {size told mb : Nat} {ov : Value} (h : ARest w S a K size told mb ov) (hs : ∀ k, S k → S' k) : ARest w S' a K size told mb ov :=
  ⟨h.blk, hs _ h.sa, hs _ h.sm, h.map, fun r hr => ⟨(h.recs r hr).blk, (h.recs r hr).row, hs _ (h.recs r hr).sp, fun g hg => hs _ ((h.recs r hr).sr g hg)⟩, h.ap⟩
/-- A new anchor, in the map. -/
theorem ARest.put {wB w3 : World} {S : Nat → Prop} {a b : Nat} {K : List ARec} {size told mb : Nat} {ov : Value} {nm : List UInt8} (h : ARest wB S a K size told mb ov) (hb : Blk wB b 97 #[.slice none 0 0]) (hS : S b) (hn : ∀ q ∈ K, q.nm ≠ nm ∧ q.p ≠ b)
    (hm : MapP w3 mb (K ++ [⟨nm, [], b, .slice none 0 0⟩])) (hg : wB.grownBy w3 (some mb)) : ARest w3 S a (K ++ [⟨nm, [], b, .slice none 0 0⟩]) size told mb ov ∧ TS S kM wB w3 := by
  obtain ⟨es, c, ho⟩ := h.map.obj
  have ht : TS S kM wB w3 := TS.of_grown hg h.sm ho trivial
  refine ⟨⟨h.blk.ts ht (.inr id), h.sa, h.sm, hm, fun r hr => ?_, ?_⟩, ht⟩
  · rcases List.mem_append.1 hr with hr | hr
    · exact (h.recs r hr).ts ht (fun _ _ => id) (fun _ _ => id)
    · rw [List.mem_singleton] at hr
      subst hr
      exact ⟨hb.ts ht (.inr id), ERow.nil _ _, hS, fun g hg => by cases hg⟩
  · rw [List.pairwise_append]
    refine ⟨h.ap, List.pairwise_singleton _ _, fun q hq r hr => ?_⟩
    rw [List.mem_singleton] at hr
    subst hr
    exact ⟨(hn q hq).1, (hn q hq).2, fun g _ hc => by cases hc⟩
theorem sizeA_snoc (m : List AEnt) (n : List UInt8) : sizeA (m ++ [(n, [])]) = sizeA m + n.length := by
  rw [sizeA_append, sizeA_cons]
  simp [entSz, evsSz, sizeA]

set_option maxHeartbeats 8000000 in
theorem aopen_any (w : World) (S : Nat → Prop) (a : Nat) (s : Am) (n : ByteArray) (h : AAt w S a s) (hI : AInv s) (hn : n.size ≤ 140737488355328) :
    Calls Tryz.prog 198 #[.pointer (some ⟨a, 0, none⟩), .string n] w fun e w' => e = .returned (.int .i64 (openE s n.data.toList)) ∧ AAt w' (Ext S w w') a (openM s n.data.toList) ∧ TS S anyO w w' := by
  have hself : openE s n.data.toList ≠ 0 → AAt w (Ext S w w) a (openM s n.data.toList) := fun h0 => by unfold openM; rw [if_neg h0]; exact h.self
  obtain ⟨hlt, K, op, mb, ov, hR, hK, hO⟩ := h
  have hnl : n.data.toList.length = n.size := by simp
  have hnm := open_names hK
  have hL := local_any n w hn
  obtain ⟨c0, c1, c2, c3⟩ := hR.rest.cells
  cases hloc : localL n.data.toList with
  | false =>
    have hE : openE s n.data.toList = 1 := by unfold openE; rw [if_pos hloc]
    rw [hE] at hself ⊢
    rw [hloc] at hL
    have HS := Lib.hid (hself (by decide))
    clear hself hE hR hK hO hnm hloc
    go_enter Tryz.func198, Tryz.ntmps198
    go_wp2_with fail
    refine hL.mono ?_
    rintro e w' ⟨rfl, rfl⟩
    go_wp2
    go_ret
    exact ⟨rfl, HS.out, TS.refl _ _ _⟩
  | true =>
    have hn16 := local_size hloc
    rw [hloc] at hL
    obtain ⟨lk1, lk2⟩ := hR.rest.map.look_ok hn
    cases hlk : lookK n.data.toList K with
    | some p =>
      have hmem : n.data.toList ∈ namesA s.m := by
        rw [← hnm]
        by_cases hm : n.data.toList ∈ K.map (·.nm)
        · exact hm
        · rw [lookK_none.2 hm] at hlk; cases hlk
      have hE : openE s n.data.toList = 6 := by unfold openE; rw [if_neg (by rw [hloc]; decide), if_pos hmem]
      rw [hE] at hself ⊢
      have HS := Lib.hid (hself (by decide))
      have hrun := lk1 p hlk
      clear hself hE hR hK hO hnm hloc hmem hlk lk1 lk2
      go_enter Tryz.func198, Tryz.ntmps198
      go_wp2_with fail
      refine hL.mono ?_
      rintro e w' ⟨rfl, rfl⟩
      go_wp2
      go_ret
      exact ⟨rfl, HS.out, TS.refl _ _ _⟩
    | none =>
      have hmem : n.data.toList ∉ namesA s.m := by rw [← hnm]; exact lookK_none.1 hlk
      have hrun := lk2 hlk
      have hsz := hI.sz
      by_cases h200 : 200 < sizeA s.m + n.data.toList.length
      · have hE : openE s n.data.toList = 12 := by unfold openE; rw [if_neg (by rw [hloc]; decide), if_neg hmem, if_pos h200]
        rw [hE] at hself ⊢
        have HS := Lib.hid (hself (by decide))
        have z : decide ((200 : Int) < (sizeA s.m : Int) + (n.size : Int)) = true := by rw [decide_eq_true_iff]; omega
        clear hself hE hR hK hO hnm hloc hmem hlk lk1 lk2 h200 hnl
        generalize sizeA s.m = sz at *
        go_enter Tryz.func198, Tryz.ntmps198
        go_wp2_with fail
        refine hL.mono ?_
        rintro e w' ⟨rfl, rfl⟩
        go_wp2
        go_ret
        exact ⟨rfl, HS.out, TS.refl _ _ _⟩
      · have hE : openE s n.data.toList = 0 := by unfold openE; rw [if_neg (by rw [hloc]; decide), if_neg hmem, if_neg h200]
        have hM : openM s n.data.toList = { s with m := s.m ++ [(n.data.toList, [])] } := by unfold openM; rw [if_pos hE]
        rw [hE, hM]
        have hlenK : K.length ≤ 200 := by
          have := sizeA_len (fun r hr => (hI.ok r hr).2)
          have h2 : K.length = s.m.length := by rw [← hK, List.length_map]
          omega
        have hlenO : op.length ≤ 200 := by
          have h1 := hO.length_eq
          have h2 : (namesA (pend s.m)).length ≤ s.m.length := by unfold namesA pend; rw [List.length_map]; exact List.length_filter_le _ _
          have h3 : K.length = s.m.length := by rw [← hK, List.length_map]
          omega
        have z : decide ((200 : Int) < (sizeA s.m : Int) + (n.size : Int)) = false := by rw [decide_eq_false_iff_not]; omega
        obtain ⟨hR1, hT1⟩ := hR.rest.setA 2 (.int .i64 ((sizeA s.m : Int) + (n.size : Int))) (ov' := ov) (size' := sizeA s.m + n.size) (told' := s.told) rfl
        have ho1 : ORow (w.setCell ⟨a, 2, none⟩ (.int .i64 ((sizeA s.m : Int) + (n.size : Int)))) 0 9 ov (op.map strV) := row_ts hR.opn hT1 (.inr fun _ _ => by simp only [kA]; decide)
        have f2 := hR.rest.blk.frozen 2
        have hal := hR.rest.blk.lt
        have hszN : sizeA s.m + n.size = sizeA (s.m ++ [(n.data.toList, [])]) := by rw [sizeA_snoc, hnl]
        have HX := Lib.hid (And.intro hR1 (And.intro hT1 (And.intro ho1 (And.intro hR.so (And.intro hK (And.intro hO (And.intro hlk (And.intro hlt (And.intro hszN (And.intro hmem (And.intro hnm hnl)))))))))))
        clear hself hE hM hR hK hO hnm hloc hmem hlk lk1 lk2 h200 hnl hR1 hT1 ho1 hI hlt hszN
        generalize sizeA s.m = sz at *
        go_enter Tryz.func198, Tryz.ntmps198
        go_wp2_with fail
        refine hL.mono ?_
        rintro e w' ⟨rfl, rfl⟩
        have HC := Lib.hid (clone_any n (w.setCell ⟨a, 2, none⟩ (.int .i64 ((sz : Int) + (n.size : Int)))) hn)
        clear hL
        go_wp2_with fail
        refine HC.out.mono ?_
        rintro e w2 ⟨rfl, hb2⟩
        obtain ⟨hR1, hT1, ho1, hso, hK, hO, hlk, hlt, hszN, hmem, hnm, hnl⟩ := HX.out
        have hsz2 : w.heap.size ≤ w2.heap.size := Nat.le_trans hT1.size hb2.size
        have hbB : Below w2.heap.size w2 (w2.alloc (.cells #[.slice none 0 0] 97)) := (Below.refl _ _).alloc (Nat.le_refl _) _
        have hRB := ((hR1.mono (S' := Up S w) fun _ h => .inl h).below hb2).below hbB
        have hoB : ORow (w2.alloc (.cells #[.slice none 0 0] 97)) 0 9 ov (op.map strV) := (ho1.below hb2 (row_lt ho1)).alloc _
        obtain ⟨w3, hr3, hm3, hg3⟩ := hRB.map.put (n := n) (show n.size ≤ maxLen by simp only [maxLen]; omega) (by simp only [maxLen]; omega) hlk ⟨n.data.toList, [], w2.heap.size, .slice none 0 0⟩ rfl
        obtain ⟨hR3, hT3⟩ := hRB.put (Blk.new w2 _ _) (.inr hsz2) (fun q hq => ⟨fun e => lookK_none.1 hlk (by rw [← e]; exact List.mem_map_of_mem hq), fun e => by
          have h1 := (hR1.recs q hq).blk.lt
          have h2 := hb2.size
          have h3 : (w.setCell ⟨a, 2, none⟩ (.int .i64 ((sz : Int) + (n.size : Int)))).heap.size = w.heap.size := by simp [World.setCell]
          rw [e] at h1
          omega⟩) hm3 hg3
        have ho3 : ORow w3 0 9 ov (op.map strV) := row_ts hoB hT3 (.inr fun _ _ => id)
        have hT03 : TS (Up S w) anyO w w3 := ((hT1.up.any).trans (TS.of_below hb2)).trans ((TS.of_below hbB).trans hT3.any)
        have d0 := (((hR1.below hb2).cells).1)
        obtain ⟨A, cp, hov⟩ := ho3.shape
        obtain ⟨nL, hnL⟩ : ∃ nL, (op.map strV).length = nL := ⟨_, rfl⟩
        rw [hnL] at hov
        subst hov
        have e1 := hR3.cells.2.1
        have H : Hid (∀ v4 w4, ORow w4 0 9 v4 (op.map strV ++ [.string n]) → w3.grownBy w4 (Value.slice A nL cp).ownBlock → (v4.ownBlock = (Value.slice A nL cp).ownBlock ∨ v4.ownBlock = some (w3.heap.size + 1)) →
            ∃ g4 c4, v4 = .slice (some ⟨g4, 0, none⟩) (nL + 1) c4 ∧ w4.cell? ⟨a, 1, none⟩ = some (.slice A nL cp) ∧ w4.frozen? ⟨a, 1, none⟩ = false ∧ a < w4.heap.size ∧ ARest (w4.setCell ⟨a, 1, none⟩ v4) (Up S w) a (K ++ [⟨n.data.toList, [], w2.heap.size, .slice none 0 0⟩]) (sz + n.size) s.told mb v4 ∧
            ORow (w4.setCell ⟨a, 1, none⟩ v4) 0 9 v4 ((op ++ [n.data.toList]).map strV) ∧ Up S w g4 ∧ TS (Up S w) anyO w (w4.setCell ⟨a, 1, none⟩ v4)) := by
          refine Lib.hid fun v4 w4 ho4 hg4 hnb4 => ?_
          have hT4 : TS (Up S w) kO w3 w4 := TS.of_row ho3 hg4 (fun g hg => .inl (hso g hg)) (fun _ => rfl)
          have hR4 := hR3.kO hT4
          obtain ⟨hR5, hT5⟩ := hR4.setA 1 v4 (ov' := v4) (size' := sz + n.size) (told' := s.told) rfl
          have hll : (op.map strV ++ [Value.string n]).length = nL + 1 := by rw [List.length_append, List.length_singleton, hnL]
          rcases ho4.form with ⟨_, h0⟩ | ⟨g4, c4, hv4, _⟩
          · rw [h0] at hll; simp at hll
          · rw [hll] at hv4
            refine ⟨g4, c4, hv4, hR4.cells.2.1, hR4.blk.frozen 1, hR4.blk.lt, hR5, ?_, ?_, (hT03.trans hT4.any).trans hT5.any⟩
            · have : (op ++ [n.data.toList]).map strV = op.map strV ++ [.string n] := by rw [List.map_append]; simp [strV_of]
              rw [this]
              exact row_ts ho4 hT5 (.inr fun _ _ => by simp only [kA]; decide)
            · have hg : v4.ownBlock = some g4 := by rw [hv4]; rfl
              rcases hnb4 with hb | hb
              · rw [hb] at hg; exact .inl (hso g4 hg)
              · rw [hb] at hg; injection hg with hg; subst hg; exact .inr (by have := hT03.size; omega)
        have hop200 : (op.map strV).length ≤ 200 := by rw [List.length_map]; exact hlenO
        have h63 : (op.map strV).length + 1 ≤ maxLen := by simp only [maxLen]; omega
        have h16 : ((op.map strV).length + 1) * 16 ≤ 140737488355328 := by omega
        have HO3 := Lib.hid ho3
        have HX2 := Lib.hid hlt
        have HnL := Lib.hid (show (op ++ [n.data.toList]).length = nL + 1 by rw [List.length_append, List.length_singleton, ← hnL, List.length_map])
        have HL2 := Lib.hid hlenO
        have HK := Lib.hid (And.intro hK (And.intro hO (And.intro hszN hsz2)))
        have hx0 : (w2.alloc (.cells #[.slice none 0 0] 97)).cell? ⟨a, 0, none⟩ = some (.map (some mb)) := hRB.cells.1
        clear hR1 hT1 ho1 hso hK hO hlk hlt hszN hmem hnm hnl hRB hoB hm3 hR3 hT3 hT03 hg3 hbB hb2 HX HC c0 c1 c2 c3 f2 ho3 z hx0 hlenO hlenK hsz hop200 hnL
        go_wp2_with (first
          | (at_builtin; refine wp_app1 rfl _ _ 54 rfl 0 9 _ 16 Tryz.underlying54 Tryz.infoStr rfl (.slice A nL cp) (op.map strV) (.string n) rfl HO3.out rfl 1 rfl h63 h16 (Nat.zero_le _) ?_; intro v4 w4 ho4 hg4 hnb4; obtain ⟨g4, c4, rfl, x1, x2, x3, HN'⟩ := H.out v4 w4 ho4 hg4 hnb4; have y1 := HN'.1.cells.2.1; have HN := Lib.hid HN'; clear HN' ho4 hg4 hnb4 H))
        obtain ⟨hR5, ho5, hu5, hT5⟩ := HN.out
        have hSo := sort_any _ g4 c4 (op ++ [n.data.toList]) (by rw [HnL.out]; exact ho5) (by rw [HnL.out]; have := HnL.out; have := HL2.out; rw [List.length_append, List.length_singleton] at *; omega)
        rw [HnL.out] at hSo
        have HSo := Lib.hid hSo
        clear hSo hR5 ho5 hu5 hT5
        refine HSo.out.mono ?_
        rintro e w6 ⟨rfl, ⟨l6, hp6, ho6⟩, hg6⟩
        obtain ⟨hR5, ho5, hu5, hT5⟩ := HN.out
        have hT6 : TS (Up S w) kO _ w6 := TS.of_row ho5 hg6 (fun g hg => by injection hg with hg; subst hg; exact hu5) (fun _ => rfl)
        have hR6 := hR5.kO hT6
        have hTT := (hT5.trans hT6.any).cut
        have HF := Lib.hid (And.intro hR6 (And.intro ho6 (And.intro hu5 (And.intro hTT hp6))))
        clear hR5 ho5 hu5 hT5 hT6 hR6 hTT HN HSo hp6 ho6 hg6 y1
        go_wp2
        go_ret
        obtain ⟨hR6, ho6, hu5, hTT, hp6⟩ := HF.out
        obtain ⟨hK, hO, hszN, _⟩ := HK.out
        refine ⟨rfl, AAt.mk' HX2.out hTT.size (ov := .slice (some ⟨g4, 0, none⟩) (nL + 1) c4) ⟨by rw [← hszN]; exact hR6, (fun g hg => by injection hg with hg; subst hg; exact hu5), ho6⟩ (by rw [List.map_append, hK]; rfl) ?_, hTT⟩
        refine hp6.trans ?_
        rw [pend_snoc]
        exact List.Perm.append_right _ hO
end Go.Proofs.YtalkjgijmceifaaGreatDoor
namespace Go.Proofs.YtalkjgijmceifaaGreatDoor
open Go.RowKit Go.Maps
set_option maxRecDepth 100000
set_option linter.unusedSimpArgs false
set_option linter.unusedVariables false

set_option linter.unusedSectionVars false
variable [Tab]
theorem row_clear {g n cap : Nat} {e : TypeId} : ∀ (vs : List Value) (o : Nat) (w : World) (xs : List Value), w.ownsRow 0 e 1 (.slice (some ⟨g, 0, none⟩) n cap) n xs →
    ∃ xs', (w.setCells g o vs).ownsRow 0 e 1 (.slice (some ⟨g, 0, none⟩) n cap) n xs' ∧ (∀ m, m ≤ o → xs'.take m = xs.take m) ∧ ∀ S p, S g → p (.cells (#[] : Array Value) e (0, 0)) → (∀ c c' t fr, p (.cells c t fr) → p (.cells c' t fr)) → TS S p w (w.setCells g o vs)
  | [], o, w, xs, h => ⟨xs, h, fun _ _ => rfl, fun S p _ _ _ => TS.refl _ _ _⟩
  | v :: vs, o, w, xs, h => by
    obtain ⟨xs', h1, h2, h3⟩ := row_clear vs (o + 1) (w.setCell ⟨g, o, none⟩ v) (xs.set o v) (rowN_set h o v)
    refine ⟨xs', h1, fun m hm => ?_, fun S p hS hp hc => ?_⟩
    · rw [h2 m (by omega), List.take_set_of_le hm]
    · obtain ⟨_, _, _, _, _, _, cur, hh, _⟩ := rowN_block h
      exact ((TS.refl S p w).set (cs := cur) hh hS (hc _ _ _ _ hp) o v).trans (h3 S p hS hp hc)
theorem filter_none {l : List (List UInt8)} {q : List UInt8 → Bool} (h : ∀ n ∈ l, q n = false) : l.filter (fun n => !q n) = l := by
  rw [List.filter_eq_self]
  intro n hn
  rw [h n hn]; rfl
/-- What is found: the first for which the predicate holds. -/
def IxP (l : List (List UInt8)) (q : List UInt8 → Bool) (i : Int) : Prop :=
  (i = -1 ∧ ∀ n ∈ l, q n = false) ∨ ∃ k : Nat, ∃ h : k < l.length, i = k ∧ q l[k] = true ∧ (l.take k).filter (fun n => !q n) = l.take k
/-- A predicate, in each world that has turned in the row alone. -/
def PdOk (w : World) (g : Nat → Prop) (box : Nat) (l : List (List UInt8)) (q : List UInt8 → Bool) : Prop :=
  ∀ w', TS g kO w w' → ∀ n ∈ l, Calls Tryz.prog 48 #[.string ⟨n.toArray⟩, .pointer (some ⟨box, 0, none⟩)] w' fun e w'' => e = .returned (.bool (q n)) ∧ Below w'.heap.size w' w''
def fvD (box : Nat) : Value := .func (.func 48) #[] #[.pointer (some ⟨box, 0, none⟩)]

set_option maxHeartbeats 4000000 in
theorem ixf_any (w : World) (g : Nat → Prop) (box : Nat) (cv : Value) (l : List (List UInt8)) (q : List UInt8 → Bool) (hv : SRead w cv l) (hl : l.length ≤ 1000) (hp : PdOk w g box l q) :
    Calls Tryz.prog 58 #[cv, fvD box] w fun e w' => (∃ i : Int, e = .returned (.int .i64 i) ∧ IxP l q i) ∧ Below w.heap.size w w' := by
  obtain ⟨A, c, rfl, hr⟩ := hv
  unfold fvD
  go_enter Tryz.func58, Tryz.ntmps58
  go_wp2
  go_loopw [8] (fun i wr => ∃ k : Nat, k ≤ l.length ∧ i = .int .i64 k ∧ Hid (∀ n ∈ l.take k, q n = false) ∧ Hid (Below w.heap.size w wr)) (fun i _ => l.length - (intOf i).toNat)
  case atStart => exact ⟨0, Nat.zero_le _, rfl, Lib.hid (by simp), Lib.hid (Below.refl _ _)⟩
  case round =>
    obtain ⟨k, hk, rfl, HT, HB⟩ := hrel
    by_cases hlt : k < l.length
    · obtain ⟨ad, rfl, hc⟩ := hr (by omega)
      have hck0 := hc k hlt
      have hck : wr.cell? (ad.add k) = some (.string ⟨l[k].toArray⟩) := (HB.out.cell (cell_lt hck0)).trans hck0
      have HP := Lib.hid (hp wr (TS.of_below HB.out) l[k] (List.getElem_mem hlt))
      have hts : l.take (k + 1) = l.take k ++ [l[k]] := List.take_succ_eq_append_getElem hlt
      cases hq : q l[k] with
      | true =>
        have HI : Hid (IxP l q (k : Int)) := Lib.hid (.inr ⟨k, hlt, rfl, hq, filter_none HT.out⟩)
        rw [hq] at HP
        clear hq hts hc hck0 hp hr
        generalize l[k] = y at *
        go_wp2_with fail
        refine HP.out.mono ?_
        rintro e w2 ⟨rfl, hb2⟩
        have HB2 := Lib.hid (HB.out.trans (hb2.mono HB.out.size))
        clear hb2 HP
        go_wp2
        go_ret
        exact ⟨⟨k, rfl, HI.out⟩, HB2.out⟩
      | false =>
        have HT2 : Hid (∀ n ∈ l.take (k + 1), q n = false) := Lib.hid (by
          intro n hn
          rw [hts, List.mem_append] at hn
          rcases hn with hn | hn
          · exact HT.out n hn
          · rw [List.mem_singleton] at hn; rw [hn]; exact hq)
        rw [hq] at HP
        clear hq hts hc hck0 hr
        have HPd := Lib.hid hp
        clear hp
        generalize l[k] = y at *
        go_wp2_with fail
        refine HP.out.mono ?_
        rintro e w2 ⟨rfl, hb2⟩
        have HB2 := Lib.hid (HB.out.trans (hb2.mono HB.out.size))
        clear hb2 HP
        go_wp2
        go_roundw
        case rel => exact ⟨k + 1, hlt, by go_num, HT2, HB2⟩
        case measure => first | (simp [intOf]; done) | (simp [intOf]; omega)
    · have hke : k = l.length := by omega
      have h2 := HT.out
      rw [List.take_of_length_le (by omega)] at h2
      have HN := Lib.hid h2
      subst hke
      clear h2 HT hr hp
      go_wp2
      go_ret
      exact ⟨⟨-1, rfl, .inl ⟨rfl, HN.out⟩⟩, HB.out⟩

theorem xs_at {xs l : List (List UInt8)} {j : Nat} (h : xs.drop j = l.drop j) (hl : xs.length = l.length) (hj : j < l.length) : xs[j]'(by omega) = l[j] := by
  rw [List.drop_eq_getElem_cons (by omega), List.drop_eq_getElem_cons hj] at h
  injection h
/-- What is left of a list up to a place, and what follows. -/
def DelE (l xs : List (List UInt8)) (q : List UInt8 → Bool) (L ci cj : Nat) : Prop := xs.length = L ∧ xs.take ci = (l.take cj).filter (fun n => !q n) ∧ xs.drop cj = l.drop cj
theorem drop_next {xs l : List (List UInt8)} {j : Nat} (h : xs.drop j = l.drop j) : xs.drop (j + 1) = l.drop (j + 1) := by
  rw [← List.drop_drop, ← List.drop_drop, h]

set_option maxHeartbeats 8000000 in
theorem del_any (w : World) (box : Nat) (cv : Value) (l : List (List UInt8)) (q : List UInt8 → Bool) (hr : ORow w 0 9 cv (l.map strV)) (hl : l.length ≤ 1000) (hp : PdOk w (fun k => cv.ownBlock = some k) box l q) :
    Calls Tryz.prog 47 #[cv, fvD box] w fun e w' => ∃ v', e = .returned v' ∧ ORow w' 0 9 v' ((l.filter fun n => !q n).map strV) ∧ (∀ k, v'.ownBlock = some k → cv.ownBlock = some k) ∧ TS (fun k => cv.ownBlock = some k) kO w w' := by
  have hI := ixf_any w _ box cv l q hr.sread hl hp
  have HR := Lib.hid hr
  have HP := Lib.hid hp
  obtain ⟨A, cp, hcv⟩ := hr.shape
  rw [List.length_map] at hcv
  obtain ⟨L, hL⟩ : ∃ L, l.length = L := ⟨_, rfl⟩
  rw [hL] at hcv
  subst hcv
  have HL := Lib.hid hL
  have HI := Lib.hid hI
  clear hr hp hI hL
  unfold fvD at *
  go_enter Tryz.func47, Tryz.ntmps47
  go_wp2_with fail
  refine HI.out.mono ?_
  rintro e w1 ⟨⟨i, rfl, hix⟩, hb1⟩
  have HB1 := Lib.hid hb1
  rcases hix with ⟨rfl, hno⟩ | ⟨k, hk, rfl, hqk, htk⟩
  · have HN := Lib.hid (filter_none hno)
    clear hb1 hno HI
    go_wp2
    go_ret
    exact ⟨_, rfl, by rw [HN.out]; exact HR.out.below HB1.out (row_lt HR.out), fun k h => h, TS.of_below HB1.out⟩
  · have hkL : k < L := by have := HL.out; omega
    have hfr : ∃ g c, (Value.slice A L cp) = .slice (some ⟨g, 0, none⟩) L c ∧ L ≤ c ∧ c ≤ maxLen := by
      rcases HR.out.form with ⟨hv, _⟩ | ⟨g, c, hv, _, _, h1, h2⟩
      · injection hv with _ hv; omega
      · rw [List.length_map, HL.out] at hv h1
        exact ⟨g, c, hv, h1, h2⟩
    obtain ⟨g, c, hv, hLc, hcm⟩ := hfr
    injection hv with h1 _ h3
    subst h1 h3
    have hcm2 : cp ≤ 9223372036854775807 := by simpa [maxLen] using hcm
    have HS0 : Hid (DelE l l q L k (k + 1)) := Lib.hid ⟨HL.out, by rw [List.take_succ_eq_append_getElem hk, List.filter_append, htk]; simp [hqk], rfl⟩
    have HR1 : Hid (w1.ownsRow 0 9 1 (.slice (some ⟨g, 0, none⟩) L cp) L (l.map strV)) := Lib.hid (by
      have := HR.out.below HB1.out (row_lt HR.out)
      unfold ORow at this
      rw [List.length_map, HL.out] at this
      exact this)
    have HT1 : Hid (TS (fun k => (Value.slice (some ⟨g, 0, none⟩) L cp).ownBlock = some k) kO w w1) := Lib.hid (TS.of_below HB1.out)
    have z0 : ((k : Int) == -1) = false := by rw [beq_eq_false_iff_ne]; omega
    clear hb1 hqk htk HI hcm hk
    go_wp2
    go_loopw [5, 6] (fun u5 u6 wr => ∃ (ci cj : Nat) (xs : List (List UInt8)), u5 = .int .i64 (ci : Int) ∧ u6 = .int .i64 (cj : Int) ∧ ci < cj ∧ cj ≤ L ∧ Hid (wr.ownsRow 0 9 1 (.slice (some ⟨g, 0, none⟩) L cp) L (xs.map strV)) ∧
      Hid (DelE l xs q L ci cj) ∧ Hid (TS (fun k => (Value.slice (some ⟨g, 0, none⟩) L cp).ownBlock = some k) kO w wr)) (fun _ u6 _ => L - (intOf u6).toNat)
    case atStart => exact ⟨k, k + 1, l, rfl, by go_num, by omega, by omega, HR1, HS0, HT1⟩
    case round =>
      obtain ⟨ci, cj, xs, rfl, rfl, hij, hjL, HX, HE, HT⟩ := hrel
      by_cases hlt : cj < L
      case pos =>
        have hjl : cj < l.length := by rw [HL.out]; exact hlt
        have hxl : xs.length = l.length := by rw [HE.out.1, HL.out]
        have hxat := xs_at HE.out.2.2 hxl hjl
        have hcell := rowN_cell HX.out (i := cj) (by omega)
        have hcell2 : wr.cell? ⟨g, cj, none⟩ = some (.string ⟨l[cj].toArray⟩) := by
          rw [hcell, List.getElem?_map, List.getElem?_eq_getElem (by omega), hxat]; rfl
        have HPr := Lib.hid (HP.out wr HT.out l[cj] (List.getElem_mem hjl))
        have hts : l.take (cj + 1) = l.take cj ++ [l[cj]] := List.take_succ_eq_append_getElem hjl
        have HTS := Lib.hid hts
        obtain ⟨_, _, _, _, _, hfz, _⟩ := rowN_block HX.out
        have HFz := Lib.hid hfz
        have HD2 := Lib.hid (drop_next HE.out.2.2)
        generalize l[cj] = y at *
        clear hxat hcell hts hfz hjl
        cases hq : q y with
        | true =>
          rw [hq] at HPr
          have HE2 : Hid (DelE l xs q L ci (cj + 1)) := Lib.hid ⟨HE.out.1, by rw [HTS.out, List.filter_append, ← HE.out.2.1]; simp [hq], HD2.out⟩
          clear hq hxl
          go_wp2_with fail
          refine HPr.out.mono ?_
          rintro e w2 ⟨rfl, hb2⟩
          have HX2 := Lib.hid (ORow.below (xs := xs.map strV) (v := .slice (some ⟨g, 0, none⟩) L cp) (by unfold ORow; rw [List.length_map, HE.out.1]; exact HX.out) hb2 (row_lt HX.out))
          have HT2 := Lib.hid (HT.out.trans (TS.of_below (p := kO) hb2))
          clear hb2 HPr hcell2
          go_wp2
          go_roundw
          case rel => exact ⟨ci, cj + 1, xs, rfl, by go_num, by omega, hlt, Lib.hid (by have := HX2.out; unfold ORow at this; rw [List.length_map, HE.out.1] at this; exact this), HE2, HT2⟩
          case measure => first | (simp [intOf]; done) | (simp [intOf]; omega)
        | false =>
          rw [hq] at HPr
          have hci : ci < xs.length := by have := HE.out.1; omega
          have HE2 : Hid (DelE l (xs.set ci y) q L (ci + 1) (cj + 1)) := Lib.hid ⟨by rw [List.length_set]; exact HE.out.1, by
            rw [HTS.out, List.filter_append, ← HE.out.2.1, List.take_succ_eq_append_getElem (by rw [List.length_set]; exact hci), List.take_set_of_le (Nat.le_refl _), List.getElem_set_self]
            simp [hq], by rw [List.drop_set_of_lt (by omega)]; exact HD2.out⟩
          clear hq hxl
          go_wp2_with fail
          refine HPr.out.mono ?_
          rintro e w2 ⟨rfl, hb2⟩
          have hX2 := ORow.below (xs := xs.map strV) (v := .slice (some ⟨g, 0, none⟩) L cp) (by unfold ORow; rw [List.length_map, HE.out.1]; exact HX.out) hb2 (row_lt HX.out)
          unfold ORow at hX2
          rw [List.length_map, HE.out.1] at hX2
          have hT2 := HT.out.trans (TS.of_below (p := kO) hb2)
          obtain ⟨_, _, _, _, _, hfz2, cur, hh, hcs, _⟩ := rowN_block hX2
          have fz2 := hfz2 ci
          have hgl := heap_lt hh
          obtain ⟨u0, e0⟩ := row_get hX2 (i := ci) (by omega)
          have HX3 := Lib.hid (rowN_set hX2 ci (strV y))
          have HT3 := Lib.hid (hT2.set (cs := cur) hh rfl rfl ci (strV y))
          clear hb2 HPr hcell2 hX2 hT2 hfz2 hh hcs
          go_wp2
          go_roundw
          case rel => exact ⟨ci + 1, cj + 1, xs.set ci y, by go_num, by go_num, by omega, hlt, Lib.hid (by have := HX3.out; rw [← List.map_set] at this; exact this), HE2, HT3⟩
          case measure => first | (simp [intOf]; done) | (simp [intOf]; omega)
      case neg =>
        have hje : cj = L := by omega
        subst hje
        obtain ⟨_, _, _, _, _, hfz, cur, hh, hcs, _⟩ := rowN_block HX.out
        have hcl : ∀ ty, (Builtin.clear_ #[54] ty #[.slice (some ⟨g, ci, none⟩) (cj - ci) (cp - ci)]).run Tryz.prog wr = .ok (.tuple #[]) (wr.setCells g ci (List.replicate (cj - ci) (.string ⟨#[]⟩))) :=
          fun ty => Lib.run_clear_slice wr _ _ ty _ Tryz.underlying54 (Tryz.zeroValue9) rfl rfl g ci _ _ (by omega) (fun t ht => by
            obtain ⟨u, hu⟩ := row_get HX.out (i := ci + t) (by omega)
            rw [hu]; rfl) (fun t ht => hfz _)
        obtain ⟨xs', hX', htk', hTS'⟩ := row_clear (List.replicate (cj - ci) (.string ⟨#[]⟩)) ci wr (xs.map strV) HX.out
        have HF : Hid (ORow (wr.setCells g ci (List.replicate (cj - ci) (.string ⟨#[]⟩))) 0 9 (.slice (some ⟨g, 0, none⟩) ci cp) ((l.filter fun n => !q n).map strV) ∧ TS (fun k => (Value.slice (some ⟨g, 0, none⟩) cj cp).ownBlock = some k) kO w (wr.setCells g ci (List.replicate (cj - ci) (.string ⟨#[]⟩)))) := Lib.hid (by
          refine ⟨?_, HT.out.trans (hTS' _ _ rfl rfl (fun _ _ _ _ h => h))⟩
          have h1 := rowN_cut hX' (m := ci) (by omega)
          rw [Nat.mul_one, htk' ci (Nat.le_refl _), ← List.map_take, HE.out.2.1, List.take_of_length_le (by rw [HL.out]; exact Nat.le_refl _)] at h1
          have h2 : ((l.filter fun n => !q n).map strV).length = ci := by
            have h3 := congrArg List.length HE.out.2.1
            rw [List.take_of_length_le (l := l) (by rw [HL.out]; exact Nat.le_refl _), List.length_take, HE.out.1] at h3
            rw [List.length_map, ← h3]
            omega
          unfold ORow
          rw [h2]
          exact h1)
        clear hfz hh hcs hX' htk' hTS'
        go_wp2
        go_ret
        exact ⟨_, rfl, HF.out.1, fun k h => h, HF.out.2⟩
end Go.Proofs.YtalkjgijmceifaaGreatDoor

/-
  anchors: New, Size, Told, Get.
  outline: an Out and an Anchors beside each other: what holds, how it stays, Tell.
  outline: how deep one is hangs on the kinds of the events alone; a document's events leave it as it was. No program is read here.
  lines: a parsing that is aborted: attempt.
-/
import Derived.Test.YtalkjgijmceifaaGreatDoorOwA18
import Derived.Test.YtalkjgijmceifaaGreatDoorOwA14
import Derived.Test.YtalkjgijmceifaaGreatDoorOwA03
import Derived.Test.YtalkjgijmceifaaGreatDoorOwA12
import Derived.Recover
import Derived.Laws.Pointers
namespace Go.Proofs.YtalkjgijmceifaaGreatDoor
open Go.RowKit Go.Maps
set_option maxRecDepth 100000
set_option linter.unusedSimpArgs false
set_option linter.unusedVariables false

set_option linter.unusedSectionVars false
variable [Tab]
def noS (_ : Nat) : Prop := False
set_option maxHeartbeats 2000000 in
theorem anew_any (w : World) : Calls Tryz.prog 32 #[] w fun e w' => ∃ a, e = .returned (.pointer (some ⟨a, 0, none⟩)) ∧ AAt w' (Ext noS w w') a ⟨[], 0⟩ ∧ Below w.heap.size w w' := by
  go_enter Tryz.func32, Tryz.ntmps32
  have hmm := @run_makeMap Tryz.prog
  go_wp2
  go_ret
  have hb : Below w.heap.size w ((w.alloc (.map #[] 0)).alloc (.cells #[.map (some w.heap.size), .slice none 0 0, .int .i64 0, .int .i64 0] 89)) := ((Below.refl _ _).alloc (Nat.le_refl _) _).alloc (by simp) _
  refine ⟨w.heap.size + 1, rfl, AAt.mk' (K := []) (op := []) (mb := w.heap.size) (ov := .slice none 0 0) (fun k h => h.elim) hb.size ⟨⟨?_, .inr (Nat.le_succ _), .inr (Nat.le_refl _), ?_, fun r hr => (by cases hr), List.Pairwise.nil⟩, (fun g hg => by cases hg), ORow.nil _ _ _⟩ rfl (List.Perm.refl _), hb⟩
  · have := Blk.new (w.alloc (.map #[] 0)) 89 #[.map (some w.heap.size), .slice none 0 0, .int .i64 0, .int .i64 0]
    rw [show (w.alloc (.map #[] 0)).heap.size = w.heap.size + 1 by simp] at this
    exact this
  · exact (MapP.new w).keep (Below.heap_alloc _ _ _ (by simp))

theorem lookA_ent {K : List ARec} {m : List AEnt} (hK : K.map ARec.ent = m) (hap : K.Pairwise apartR) {n : List UInt8} :
    (lookK n K = none → lookA n m = none) ∧ (∀ p, lookK n K = some p → ∃ r ∈ K, r.nm = n ∧ r.p = p ∧ lookA n m = some r.evs) := by
  subst hK
  clear hap
  induction K with
  | nil => exact ⟨fun _ => rfl, (fun p h => by cases h)⟩
  | cons r K ih =>
    simp only [lookK, List.map_cons, lookA]
    by_cases e : r.nm = n
    · rw [if_pos e, if_pos (show r.ent.1 = n from e)]
      exact ⟨(fun h => by cases h), fun p h => ⟨r, List.mem_cons_self, e, by injection h, rfl⟩⟩
    · rw [if_neg e, if_neg (show ¬ r.ent.1 = n from e)]
      exact ⟨ih.1, fun p h => by
        obtain ⟨q, h1, h2⟩ := ih.2 p h
        exact ⟨q, List.mem_cons_of_mem _ h1, h2⟩⟩
theorem open_iff {K : List ARec} {m : List AEnt} (hK : K.map ARec.ent = m) (hn : (namesA m).Nodup) {op : List (List UInt8)} (hO : op.Perm (namesA (pend m))) {r : ARec} (hr : r ∈ K) : decide (r.nm ∈ op) = !knownB r.evs := by
  have hm : r.ent ∈ m := by rw [← hK]; exact List.mem_map_of_mem hr
  cases hk : knownB r.evs with
  | false =>
    refine decide_eq_true (hO.mem_iff.2 (List.mem_map.2 ⟨r.ent, ?_, rfl⟩))
    unfold pend
    rw [List.mem_filter]
    exact ⟨hm, by show (!knownB r.evs) = true; rw [hk]; rfl⟩
  | true =>
    refine decide_eq_false fun ho => ?_
    have h1 := hO.mem_iff.1 ho
    unfold namesA pend at h1
    obtain ⟨e, he, hen⟩ := List.mem_map.1 h1
    rw [List.mem_filter] at he
    have h3 := lookA_mem hn he.1
    have h2 := lookA_mem hn hm
    rw [hen] at h3
    have h4 : lookA r.nm m = some r.evs := h2
    rw [h4] at h3
    injection h3 with h3
    have h5 := he.2
    rw [← h3, hk] at h5
    cases h5

theorem below_rowE {A w w' : World} {B base : Nat} {e : TypeId} {size n : Nat} {v : Value} {xs : List Value} (h : Below B A w) (k : w.grownBy w' v.ownBlock) (hr : w.ownsRow base e size v n xs) (hB : B ≤ w.heap.size) (hbase : B ≤ base) : Below B A w' :=
  ⟨k.os.trans h.os, k.tape.trans h.tape, k.output.trans h.output, Nat.le_trans h.size k.size, fun i hi => (k.block i (by omega) (fun hc => by have := (World.ownsRow.lt hr i hc.symm).1; omega)).trans (h.block i hi)⟩
set_option maxHeartbeats 8000000 in
theorem aget_any (w : World) (S : Nat → Prop) (a : Nat) (s : Am) (n : ByteArray) (h : AAt w S a s) (hI : AInv s) (hn : n.size ≤ 140737488355328) :
    Calls Tryz.prog 216 #[.pointer (some ⟨a, 0, none⟩), .string n] w fun e w' => ∃ lv, e = .returned (.tuple #[lv, .int .i64 (getE s n.data.toList)]) ∧ ERow w' w.heap.size lv (getL s n.data.toList) ∧ AAt w' S a (getM s n.data.toList) ∧ TS S anyO w w' := by
  have hsame : ∀ w', getE s n.data.toList ≠ 0 → Below w.heap.size w w' → ERow w' w.heap.size (.slice none 0 0) (getL s n.data.toList) ∧ AAt w' S a (getM s n.data.toList) := fun w' h0 hb => by
    unfold getL getM
    rw [if_neg h0, if_neg h0]
    exact ⟨ERow.nil _ _, h.below hb⟩
  obtain ⟨hlt, K, op, mb, ov, hR, hK, hO⟩ := h
  have HI := Lib.hid (stepIn w S a s K op mb ov hR hK hO hI)
  have HInv := Lib.hid hI
  obtain ⟨c0, c1, c2, c3⟩ := hR.rest.cells
  obtain ⟨lk1, lk2⟩ := hR.rest.map.look_ok hn
  obtain ⟨la1, la2⟩ := lookA_ent hK hR.rest.ap (n := n.data.toList)
  have HS := Lib.hid hsame
  have HL := Lib.hid hlt
  clear hsame hlt
  cases hlk : lookK n.data.toList K with
  | none =>
    have hE : getE s n.data.toList = 11 := by unfold getE; rw [la1 hlk]
    have hrun := lk2 hlk
    have HS2 := Lib.hid (HS.out w (by rw [hE]; decide) (Below.refl _ _))
    rw [hE]
    clear lk1 lk2 la1 la2 hlk hK hO hI hR hE HS c1 c2 c3
    go_enter Tryz.func216, Tryz.ntmps216
    go_wp2
    go_ret2
    exact ⟨_, rfl, HS2.out.1, HS2.out.2, TS.refl _ _ _⟩
  | some p =>
    obtain ⟨r, hrK, hrn, hrp, hla⟩ := la2 p hlk
    have hrun := lk1 p hlk
    have hC := fun w' (h : ORow w' 0 9 ov (op.map strV)) => scontains_any w' ov op n.data.toList h.sread (by have := HI.out.len; omega)
    have hnn : (⟨n.data.toList.toArray⟩ : ByteArray) = n := by have := strV_of n; unfold strV at this; injection this
    have hop := open_iff hK hI.nd hO hrK
    rw [hrn] at hop
    rw [hnn, hop] at hC
    have HC := Lib.hid (hC w hR.opn)
    cases hkn : knownB r.evs with
    | false =>
      have hE : getE s n.data.toList = 11 := by unfold getE; rw [hla]; simp only; rw [if_pos hkn]
      rw [hkn] at HC
      rw [hE]
      have HE := Lib.hid hE
      clear lk1 lk2 la1 la2 hlk hK hO hI hR hE c2 c3 hC hop hla hkn hrn hnn
      go_enter Tryz.func216, Tryz.ntmps216
      go_wp2_with fail
      refine HC.out.mono ?_
      rintro e w' ⟨rfl, nq, rfl⟩
      have HS2 := Lib.hid (HS.out _ (by rw [HE.out]; decide) (below_drewN (Below.refl _ _) nq))
      have HB := Lib.hid (TS.of_below (S := S) (p := anyO) (below_drewN (Below.refl w.heap.size w) nq))
      clear HC HS
      go_wp2
      go_ret2
      exact ⟨_, rfl, HS2.out.1, HS2.out.2, HB.out⟩
    | true =>
      rw [hkn] at HC
      obtain ⟨lv, hlvq⟩ : ∃ lv, r.lv = lv := ⟨_, rfl⟩
      have hblk := (hR.rest.recs r hrK).blk
      have hrow := (hR.rest.recs r hrK).row
      have hok := HI.out.ok r hrK
      rw [hlvq] at hblk hrow
      obtain ⟨Av, cv, hlv⟩ := hrow.shape
      obtain ⟨nL, hnL⟩ : ∃ nL, r.evs.length = nL := ⟨_, rfl⟩
      rw [hnL] at hlv
      subst hlv
      have hnL2 : nL ≤ 1000 := by rw [← hnL]; exact hok.n
      have b0 : w.cell? ⟨r.p, 0, none⟩ = some (.slice Av nL cv) := hblk.cell 0
      rw [hrp] at b0
      have hht := hI.told
      obtain ⟨T, hT⟩ : ∃ T, s.told = T := ⟨_, rfl⟩
      rw [hT] at c3 hht
      obtain ⟨N, hN⟩ : ∃ N, T + nL = N := ⟨_, rfl⟩
      have w1 : IntKind.i64.wrap ((T : Int) + (nL : Int)) = (N : Int) := by rw [IntWalk.i64_in _ (by omega)]; omega
      have hgE : getE s n.data.toList = if 40 < N then 13 else 0 := by
        unfold getE
        rw [hla]
        simp only
        rw [if_neg (by rw [hkn]; decide), hT, hnL, hN]
      have hrd := hrow.read
      have HRow := Lib.hid hrow
      have HOk := Lib.hid hok
      have HR := Lib.hid hR
      have HK := Lib.hid (And.intro hK (And.intro hO (And.intro hla (And.intro hT (And.intro hnL hN)))))
      have hal := hR.rest.blk.lt
      clear lk1 lk2 la1 la2 hlk hK hO hI hR hC hop hla hkn hrn hnn hblk hrow hok hlvq hT hnL hN hht
      have hdq : Hid (∀ nq, Below w.heap.size w (w.drewN nq)) := Lib.hid (fun nq => below_drewN (Below.refl _ _) nq)
      by_cases h40 : 40 < N
      · have z : decide ((40 : Int) < (N : Int)) = true := by rw [decide_eq_true_iff]; omega
        rw [if_pos h40] at hgE
        have HE := Lib.hid hgE
        rw [hgE]
        clear hgE h40 hrd
        go_enter Tryz.func216, Tryz.ntmps216
        go_wp2_with fail
        refine HC.out.mono ?_
        rintro e w' ⟨rfl, n0, rfl⟩
        clear HC
        go_wp2
        go_quiet (fail)
        go_wp2
        go_ret2
        have hb : Below w.heap.size w (w.drewN (n0 + nq)) := below_drewN (Below.refl _ _) (n0 + nq)
        exact ⟨_, rfl, (HS.out _ (by rw [HE.out]; decide) hb).1, (HS.out _ (by rw [HE.out]; decide) hb).2, TS.of_below hb⟩
      · have z : decide ((40 : Int) < (N : Int)) = false := by rw [decide_eq_false_iff_not]; omega
        rw [if_neg h40] at hgE
        have HE := Lib.hid hgE
        rw [hgE]
        clear hgE h40 hrd HS
        go_enter Tryz.func216, Tryz.ntmps216
        go_wp2_with fail
        refine HC.out.mono ?_
        rintro e w' ⟨rfl, n0, rfl⟩
        clear HC
        go_wp2
        go_quiet (fail)
        clear w1
        have hb : Below w.heap.size w ((w.drewN n0).drewN nq) := below_drewN (below_drewN (Below.refl _ _) n0) nq
        have HB := Lib.hid hb
        have hszq : ((w.drewN n0).drewN nq).heap.size = w.heap.size := rfl
        generalize (w.drewN n0).drewN nq = wq at *
        have hRq := HR.out.below hb
        have u3 := hRq.rest.cells.2.2.2
        have f3 := hRq.rest.blk.frozen 3
        have l3 := hRq.rest.blk.lt
        obtain ⟨hR1, hT1⟩ := hRq.rest.setA 3 (.int .i64 (N : Int)) (ov' := ov) (size' := sizeA s.m) (told' := N) rfl
        have ho1 : ORow (wq.setCell ⟨a, 3, none⟩ (.int .i64 (N : Int))) 0 9 ov (op.map strV) := row_ts hRq.opn hT1 (.inr fun _ _ => by simp only [kA]; decide)
        have hrow1 : ERow (wq.setCell ⟨a, 3, none⟩ (.int .i64 (N : Int))) 0 (.slice Av nL cv) r.evs := row_ts (HRow.out.below hb) hT1 (.inr fun _ _ => by simp only [kA]; decide)
        obtain ⟨A9, c9, hv9, _, _, hrd⟩ := hrow1.read
        injection hv9 with e1 e2 e3
        subst e1 e3
        clear e2
        have b1 : wq.cell? ⟨p, 0, none⟩ = some (.slice Av nL cv) := (hb.cell (cell_lt b0)).trans b0
        have hpa : ¬ p = a := by
          rintro rfl
          have h1 := (HR.out.rest.recs r hrK).blk
          rw [hrp] at h1
          have h2 := HR.out.rest.blk
          unfold Blk at h1 h2
          rw [h1] at h2
          injection h2 with h2
          injection h2 with _ h2
          exact absurd h2 (by decide)
        have hap2 : ¬ a = p := fun e => hpa e.symm
        have hTw : TS S anyO w (wq.setCell ⟨a, 3, none⟩ (.int .i64 (N : Int))) := (TS.of_below hb).trans hT1.any
        have hszE : (wq.setCell ⟨a, 3, none⟩ (.int .i64 (N : Int))).heap.size = w.heap.size := by rw [← hszq]; simp [World.setCell]
        have HszE := Lib.hid hszE
        have hszw : w.heap.size ≤ (wq.setCell ⟨a, 3, none⟩ (.int .i64 (N : Int))).heap.size := hTw.size
        have HF := Lib.hid (And.intro hR1 (And.intro ho1 (And.intro hTw hrK)))
        have Hrd := Lib.hid hrd
        have start : Hid (Below (wq.setCell ⟨a, 3, none⟩ (.int .i64 (N : Int))).heap.size (wq.setCell ⟨a, 3, none⟩ (.int .i64 (N : Int))) (wq.setCell ⟨a, 3, none⟩ (.int .i64 (N : Int)))) := Lib.hid (Below.refl _ _)
        have HAp := Lib.hid (fun (w' : World) (x : Ev) h1 h2 => apart_any w' x h1 h2)
        unfold evV at HAp
        have HLen : Hid (r.evs.length = nL) := Lib.hid HK.out.2.2.2.2.1
        clear hszq hszE hRq hR1 hT1 ho1 hrow1 hrd hTw hb hdq c0 c1 c2 c3 hrun b0 hal
        have start2 : Hid (ERow (wq.setCell ⟨a, 3, none⟩ (.int .i64 (N : Int))) w.heap.size (.slice none 0 0) (r.evs.take 0)) := Lib.hid (ERow.nil _ _)
        clear hrK hrp
        go_wp2
        go_loopw [9, 52] (fun u9 i wr => ∃ k : Nat, k ≤ nL ∧ i = .int .i64 (k : Int) ∧ Hid (ERow wr w.heap.size u9 (r.evs.take k)) ∧ Hid (Below (wq.setCell ⟨a, 3, none⟩ (.int .i64 (N : Int))).heap.size (wq.setCell ⟨a, 3, none⟩ (.int .i64 (N : Int))) wr)) (fun _ i _ => nL - (intOf i).toNat)
        case atStart => exact ⟨0, Nat.zero_le _, rfl, start2, start⟩
        case round =>
          obtain ⟨k, hk, rfl, HRw, HBl⟩ := hrel
          by_cases hlt : k < nL
          case pos =>
            have hkl : k < r.evs.length := by rw [HLen.out]; exact hlt
            obtain ⟨bb, oo, rfl, hc⟩ := Hrd.out (by omega)
            obtain ⟨g1, g2, g3⟩ := hc k hkl
            have k1 := (HBl.out.cell (cell_lt g1)).trans g1
            have k2 := (HBl.out.cell (cell_lt g2)).trans g2
            have k3 := (HBl.out.cell (cell_lt g3)).trans g3
            have hok := HOk.out.ev _ (List.getElem_mem hkl)
            have hts := List.take_succ_eq_append_getElem hkl
            have htl : (r.evs.take k).length = k := by rw [List.length_take]; omega
            obtain ⟨A8, c8, hv8⟩ := HRw.out.shape
            rw [htl] at hv8
            subst hv8
            have HTs := Lib.hid hts
            have HTl := Lib.hid htl
            obtain ⟨_, _, hs1, hs2⟩ := hok
            clear hc g1 g2 g3 hts htl
            generalize r.evs[k] = x at *
            have hbA : Below wr.heap.size wr (wr.alloc (.cells #[.int .i64 x.k, .string x.t, .string x.v] 38)) := (Below.refl _ _).alloc (Nat.le_refl _) _
            have HC2 := Lib.hid (HAp.out (wr.alloc (.cells #[.int .i64 x.k, .string x.t, .string x.v] 38)) x hs1 hs2)
            have HbA := Lib.hid hbA
            clear hbA hkl
            go_wp2_with fail
            refine HC2.out.mono ?_
            rintro e w3 ⟨rfl, hb3⟩
            have hbB : Below wr.heap.size wr (w3.alloc (.cells #[.int .i64 x.k, .string x.t, .string x.v] 38)) := (HbA.out.trans (hb3.mono HbA.out.size)).alloc (Nat.le_trans HbA.out.size hb3.size) _
            have hrow4 : (w3.alloc (.cells #[.int .i64 x.k, .string x.t, .string x.v] 38)).ownsRow w.heap.size 38 3 (.slice A8 k c8) k (evcs (r.evs.take k)) := by
              have := HRw.out.below hbB
              unfold ERow at this
              rw [HTl.out] at this
              exact this
            have h63 : k + 1 ≤ maxLen := by simp only [maxLen]; omega
            have h40 : (k + 1) * 40 ≤ 140737488355328 := by omega
            have hbs : w.heap.size ≤ (w3.alloc (.cells #[.int .i64 x.k, .string x.t, .string x.v] 38)).heap.size := by have := HBl.out.size; have := hbB.size; have := HszE.out; omega
            have H : Hid (∀ v4 w4, w4.ownsRow w.heap.size 38 3 v4 (k + 1) (evcs (r.evs.take k) ++ [.int .i64 x.k, .string x.t, .string x.v]) → (w3.alloc (.cells #[.int .i64 x.k, .string x.t, .string x.v] 38)).grownBy w4 (Value.slice A8 k c8).ownBlock →
                ERow w4 w.heap.size v4 (r.evs.take (k + 1)) ∧ Below (wq.setCell ⟨a, 3, none⟩ (.int .i64 (N : Int))).heap.size (wq.setCell ⟨a, 3, none⟩ (.int .i64 (N : Int))) w4) := by
              refine Lib.hid fun v4 w4 ho hg => ⟨?_, ?_⟩
              · unfold ERow
                rw [HTs.out, evcs_snoc, List.length_append, List.length_singleton, HTl.out]
                exact ho
              · have h1 := HBl.out.trans (hbB.mono HBl.out.size)
                exact below_rowE h1 hg hrow4 h1.size (by rw [HszE.out]; exact Nat.le_refl _)
            have HR4 := Lib.hid hrow4
            clear hrow4 hbB hb3 HC2
            go_wp2_with (first
              | (at_builtin; refine wp_appX rfl _ _ 24 rfl w.heap.size 38 _ 3 40 Tryz.underlying24 Tryz.infoEv rfl (by decide) (.slice A8 k c8) k (evcs (r.evs.take k)) [.int .i64 x.k, .string x.t, .string x.v] rfl HR4.out (by simp [Value.oneCell']) ⟨w3.heap.size, 0, none⟩ 1 1 rfl rfl (by exact cellsOf3 w3 _ _ _ _) h63 h40 hbs ?_; intro v4 w4 hown4 hg4 _; obtain ⟨hE4, hB4⟩ := H.out v4 w4 hown4 hg4; have HE4 := Lib.hid hE4; have HB4 := Lib.hid hB4; clear hE4 hB4 hown4 hg4 H HR4))
            go_roundw
            case rel => exact ⟨k + 1, hlt, by go_num, HE4, HB4⟩
            case measure => first | (simp [intOf]; done) | (simp [intOf]; omega)
          case neg =>
            have hke : k = nL := by omega
            have hfull := HRw.out
            rw [List.take_of_length_le (by rw [HLen.out]; omega)] at hfull
            obtain ⟨A8, c8, hv8⟩ := hfull.shape
            rw [HLen.out] at hv8
            subst hv8
            have HFl := Lib.hid hfull
            clear hfull b1 hpa hap2
            subst hke
            go_wp2
            go_ret2
            obtain ⟨hR1, ho1, hTw, _⟩ := HF.out
            obtain ⟨hK, hO, hla, hT, hnL, hN⟩ := HK.out
            have hbl := HBl.out
            have hgl : getL s n.data.toList = r.evs := by unfold getL; rw [if_pos HE.out, hla]; rfl
            refine ⟨_, rfl, by rw [hgl]; exact HFl.out, ?_, hTw.trans (TS.of_below hbl)⟩
            have hgm : getM s n.data.toList = { s with told := N } := by unfold getM; rw [if_pos HE.out, hgl, hT, hnL, hN]
            rw [hgm]
            exact ⟨fun k hk => Nat.lt_of_lt_of_le (HL.out k hk) (Nat.le_trans hTw.size hbl.size), K, op, mb, ov, ⟨hR1.below hbl, HR.out.so, ho1.below hbl (row_lt ho1)⟩, hK, hO⟩
end Go.Proofs.YtalkjgijmceifaaGreatDoor
namespace Go.Proofs.YtalkjgijmceifaaGreatDoor
open Go.RowKit Go.Maps
set_option maxRecDepth 100000
set_option linter.unusedSimpArgs false
set_option linter.unusedVariables false
set_option linter.unusedSectionVars false
variable [Tab]

theorem okE_of {st : List Pt} {e : Ev} (h : stepE st e = 0) (ht : e.t.size ≤ 1000) : okE e := by
  cases st with
  | nil => exact absurd (show (19 : Int) = 0 from h) (by decide)
  | cons q r =>
    obtain ⟨hf, _⟩ := cont_of h
    have ez : ∀ s : ByteArray, emptyT s = true → s.size = 0 := fun s hs => by
      unfold emptyT at hs
      have := of_decide_eq_true hs
      have h2 : s.data.toList.length = 0 := by rw [this]; rfl
      have h3 : s.size = s.data.toList.length := by simp
      omega
    have h3 : ∀ s : ByteArray, s.size = s.data.toList.length := fun s => by simp
    unfold formedB at hf
    split at hf
    · rename_i hb
      rw [Bool.and_eq_true] at hf
      have := ez _ hf.2
      unfold bareK at hb
      have := of_decide_eq_true hb
      exact ⟨by omega, by omega, by omega, by omega⟩
    · split at hf
      · rw [Bool.and_eq_true] at hf; have := ez _ hf.1; exact ⟨by omega, by omega, by omega, by omega⟩
      · split at hf
        · rw [Bool.and_eq_true] at hf; have := ez _ hf.1; exact ⟨by omega, by omega, by omega, by omega⟩
        · split at hf
          · rw [Bool.and_eq_true] at hf; have := ez _ hf.1; exact ⟨by omega, by omega, by omega, by omega⟩
          · split at hf
            · rw [Bool.and_eq_true] at hf; have := ez _ hf.1; exact ⟨by omega, by omega, by omega, by omega⟩
            · split at hf
              · rw [Bool.and_eq_true] at hf
                have h4 := hf.1
                unfold validL at h4
                rw [Bool.and_eq_true] at h4
                have := of_decide_eq_true h4.1
                have := h3 e.v
                exact ⟨by omega, by omega, by omega, by omega⟩
              · cases hf
/-- The kinds of what an Anchors holds. -/
def aK (o : Obj) : Prop := kA o ∨ kM o ∨ kO o ∨ kP o ∨ kE o
/-- The kinds of what a telling turns. -/
def tA (o : Obj) : Prop := tObj o ∨ aK o
/-- The same foreign blocks, and an Anchors'. -/
@[reducible] def Fo.pl (fo : Fo) (S : Nat → Prop) (n : Nat) (hl : fo.lim ≤ n) (hS : ∀ k, S k → k < n) : Fo :=
  ⟨fun k => fo.F k ∨ S k, n, fun k h => h.elim (fun h => Nat.lt_of_lt_of_le (fo.ok k h) hl) (hS k), fo.tk⟩
def aCut (S : Nat → Prop) (w : World) (k : Nat) : Prop := S k ∧ ∀ o, w.heap[k]? = some o → aK o
theorem aAt_min {w : World} {S : Nat → Prop} {a : Nat} {s : Am} (h : AAt w S a s) : AAt w (aCut S w) a s := by
  obtain ⟨hl, K, op, mb, ov, hR, hK, hO⟩ := h
  have same : ∀ {k : Nat} {o q : Obj}, w.heap[k]? = some q → w.heap[k]? = some o → aK q → aK o := fun h1 h2 h3 => by
    rw [h1] at h2
    injection h2 with h2
    rw [← h2]; exact h3
  refine ⟨fun k hk => hl k hk.1, K, op, mb, ov, ⟨⟨hR.rest.blk, ⟨hR.rest.sa, fun o ho => same hR.rest.blk ho (.inl rfl)⟩, ⟨hR.rest.sm, fun o ho => ?_⟩, hR.rest.map, fun r hr => ⟨(hR.rest.recs r hr).blk, (hR.rest.recs r hr).row, ⟨(hR.rest.recs r hr).sp, fun o ho => same (hR.rest.recs r hr).blk ho (.inr (.inr (.inr (.inl rfl))))⟩, fun g hg => ⟨(hR.rest.recs r hr).sr g hg, fun o ho => ?_⟩⟩, hR.rest.ap⟩, fun g hg => ⟨hR.so g hg, fun o ho => ?_⟩, hR.opn⟩, hK, hO⟩
  · obtain ⟨es, c, hb⟩ := hR.rest.map.obj
    exact same hb ho (.inr (.inl trivial))
  · obtain ⟨cur, hc⟩ := row_obj (hR.rest.recs r hr).row hg
    exact same hc ho (.inr (.inr (.inr (.inr rfl))))
  · obtain ⟨cur, hc⟩ := row_obj hR.opn hg
    exact same hc ho (.inr (.inr (.inl rfl)))
section
variable [fo : Fo]
/-- Where an Anchors' blocks lie. -/
def KdS (base : Nat) (S : Nat → Prop) (w : World) : Prop := ∀ k, S k → base ≤ k ∧ ¬ Fo.F k ∧ ∀ o, w.heap[k]? = some o → aK o
structure OA (w : World) (base o ck a : Nat) (st : List Pt) (l : List Ev) (s : Am) (S : Nat → Prop) : Prop where
  an : AAt w S a s
  kd : KdS base S w
  lim : fo.lim ≤ w.heap.size
  out : @OAt (fo.pl S w.heap.size lim an.1) w base o ck st l
variable {w w1 w' : World} {base o ck a : Nat} {st : List Pt} {l : List Ev} {s : Am} {S S' : Nat → Prop}
theorem ts_tch (h : TS S anyO w1 w') (hk : KdS base S w1) : Tch base aK w1 w' :=
  ⟨h.os, h.tape, h.output, h.size, fun k q hq hc => h.block k q hq (.inl fun hs => by
    obtain ⟨h1, h2, h3⟩ := hk k hs
    rcases hc with hc | hc | hc
    · omega
    · exact hc (h3 q hq)
    · exact h2 hc)⟩
/-- Where an Anchors' blocks lie as they lay. -/
theorem KdS.keep (hk : KdS base S w) (hS : ∀ k, S k → k < w.heap.size) (h : ∀ k q, S k → w.heap[k]? = some q → w'.heap[k]? = some q) : KdS base S w' := fun k hs => by
  obtain ⟨h1, h2, h3⟩ := hk k hs
  refine ⟨h1, h2, fun q hq => ?_⟩
  obtain ⟨q', hq'⟩ := heap_some (hS k hs)
  have := h k q' hs hq'
  rw [hq] at this
  injection this with this
  rw [this]
  exact h3 q' hq'
theorem an_keep (h : AAt w S a s) (hz : w.heap.size ≤ w'.heap.size) (ho : w'.os = w.os) (ht : w'.tape = w.tape) (hu : w'.output = w.output) (hk : ∀ k q, S k → w.heap[k]? = some q → w'.heap[k]? = some q) : AAt w' S a s :=
  h.off (T := fun k => ¬ S k) (p := anyO) ⟨ho, ht, hu, hz, fun k q hq hc => by
    rcases hc with hc | hc
    · exact hk k q (Classical.byContradiction hc) hq
    · exact absurd trivial hc⟩ (fun k hk hn => hn hk)
theorem oa_out {hl hS hl' hS'} (h : @OAt (fo.pl S w.heap.size hl hS) w base o ck st l) (hsub : ∀ k, k < w.heap.size → S' k → S k) (hm : ∀ k q, w.heap[k]? = some q → tObj q → ¬ fo.F k → ¬ S k → w'.heap[k]? = some q) : @OAt (fo.pl S' w'.heap.size hl' hS') w' base o ck st l :=
  oat_mv (f1 := fo.pl S w.heap.size hl hS) (f2 := fo.pl S' w'.heap.size hl' hS') (fun k hk hc => hc.imp id (hsub k hk)) rfl (fun k q hq hp hn => hm k q hq hp (fun h => hn (.inl h)) (fun h => hn (.inr h))) (Nat.le_refl _) h
/-- Where neither an Out's nor an Anchors' kinds are turned. -/
theorem OA.tch (h : OA w base o ck a st l s S) {q : Obj → Prop} (ht : Tch base q w w') (hq : ∀ r, tA r → ¬ q r) : OA w' base o ck a st l s S := by
  have hk : ∀ k r, S k → w.heap[k]? = some r → w'.heap[k]? = some r := fun k r hs hr => ht.block k r hr (.inr (.inl (hq r (.inr ((h.kd k hs).2.2 r hr)))))
  exact ⟨an_keep h.an ht.size ht.os ht.tape ht.output hk, h.kd.keep h.an.1 hk, Nat.le_trans h.lim ht.size, oa_out h.out (fun _ _ h => h) (fun k r hr hp _ _ => ht.block k r hr (.inr (.inl (hq r (.inl hp)))))⟩
theorem OA.below (h : OA w base o ck a st l s S) (hb : Below w.heap.size w w') : OA w' base o ck a st l s S := h.tch (q := fun _ => False) (base := base) (Tch.of_below hb) (fun _ _ h => h)
/-- Behind a call of the Anchors. -/
theorem OA.call {s' : Am} (h : OA w base o ck a st l s S) (hA : AAt w' (Ext S w w') a s') (ht : TS S anyO w w') (hb : base ≤ w.heap.size) : OA w' base o ck a st l s' (aCut (Ext S w w') w') ∧ Tch base aK w w' := by
  refine ⟨⟨aAt_min hA, fun k hk => ⟨?_, ?_, hk.2⟩, Nat.le_trans h.lim ht.size, oa_out h.out (fun k hk hc => ?_) (fun k r hr _ _ hn => ht.block k r hr (.inl hn))⟩, ts_tch ht h.kd⟩
  · rcases hk.1 with h1 | ⟨h1, _⟩
    · exact (h.kd k h1).1
    · omega
  · rcases hk.1 with h1 | ⟨h1, _⟩
    · exact (h.kd k h1).2.1
    · exact nf_new (Nat.le_trans h.lim h1)
  · rcases hc.1 with h1 | ⟨h1, _⟩
    · exact h1
    · omega
def RoP (fo : Fo) (w : World) (base a : Nat) (s : Am) (x : Ev) (f2 : Fo) (k : Int) (w' : World) : Prop :=
  ∃ S' h1 h2, f2 = Fo.pl fo S' w'.heap.size h1 h2 ∧ AAt w' S' a (stepAM s x) ∧ k = stepAE s x ∧ @KdS fo base S' w' ∧ @Tch fo base tA w w'
/-- Tell, which asks the Anchors. -/
theorem oa_tell (x : Ev) (g : Nat) (h : OA w base o ck a st l s S) (hgB : Blk w g 39 #[othV a]) (hg : Good st) (hI : AInv s) (hx : x.t.size ≤ 1000) (hw : SWB base w) (hl : l.length ≤ 1000000) (hb : base ≤ w.heap.size) :
    Calls Tryz.prog 149 #[.pointer (some ⟨o, 0, none⟩), .agg #[.int .i64 x.k, .string x.t, .string x.v], .slice (some ⟨g, 0, none⟩) 1 1] w fun e w' =>
      ∃ k st' l' s' S', e = .returned (.int .i64 k) ∧ OA w' base o ck a st' l' s' S' ∧ Tch base tA w w' ∧ ((k = 0 ∧ stepE st x = 0 ∧ stepAE s x = 0 ∧ st' = stepS st x ∧ l' = l ++ [x] ∧ s' = stepAM s x) ∨ (k ≠ 0 ∧ (stepE st x ≠ 0 ∨ stepAE s x ≠ 0) ∧ l' = l)) := by
  have hS : ∀ k, S k → base ≤ k := fun k hk => (h.kd k hk).1
  have hwk : ∀ {W W' : World} {c : Nat} {p : Obj → Prop}, @Tch (fo.pl S w.heap.size h.lim h.an.1) c p W W' → Tch c p W W' := fun ht => tch_wk (f1 := fo.pl S w.heap.size h.lim h.an.1) (f2 := fo) (fun k hk => .inl hk) ht
  have hkp : ∀ {W : World}, @Tch (fo.pl S w.heap.size h.lim h.an.1) base tObj w W → ∀ k r, S k → w.heap[k]? = some r → W.heap[k]? = some r := fun ht k r hs hr => @Tch.block (fo.pl S w.heap.size h.lim h.an.1) _ _ _ _ ht k r hr (.inr (.inr (.inr hs)))
  refine (@tello_core _ (fo.pl S w.heap.size h.lim h.an.1) w base o ck st l x g a h.out hgB hg (NumW.of hw.std) (by omega) hl hb (RoP fo w base a s x) (fun hz0 w1 ht1 => ?_)).mono ?_
  · have ht0 := hwk ht1
    have hA1 : AAt w1 S a s := an_keep h.an ht0.size ht0.os ht0.tape ht0.output (hkp ht1)
    have hk1 : KdS base S w1 := h.kd.keep h.an.1 (hkp ht1)
    have hz1 := ht0.size
    refine (astep_any w1 S a s x base hA1 hI (okE_of hz0 hx) hS (Nat.le_trans hb hz1) (hw.below (ht0.below hb))).mono ?_
    rintro e w' ⟨rfl, hA, hT⟩
    have hlim' : fo.lim ≤ w'.heap.size := Nat.le_trans h.lim (Nat.le_trans hz1 hT.size)
    have hmin := aAt_min hA
    refine ⟨stepAE s x, fo.pl (aCut (Ext S w1 w') w') w'.heap.size hlim' hmin.1, rfl, ⟨_, hlim', hmin.1, rfl, hmin, rfl, fun k hk => ⟨?_, ?_, hk.2⟩, (ht0.wide fun _ => .inl).trans ((ts_tch hT hk1).wide fun _ => .inr)⟩, ⟨fun k hk hc => hc.imp id fun hc => ?_, rfl, Nat.le_refl _, hT.size, fun k r hr _ hn => hT.block k r hr (.inl fun hs => hn (.inr hs))⟩⟩
    · rcases hk.1 with h1 | ⟨h1, _⟩
      · exact (h.kd k h1).1
      · omega
    · rcases hk.1 with h1 | ⟨h1, _⟩
      · exact (h.kd k h1).2.1
      · exact nf_new (Nat.le_trans h.lim (Nat.le_trans hz1 h1))
    · rcases hc.1 with h1 | ⟨h1, _⟩
      · exact h1
      · omega
  · rintro e w' (⟨hne, rfl, hO, hT⟩ | ⟨hz, k, f2, w1, w2, rfl, hT1, ⟨S', q1, q2, rfl, hA, rfl, hkd, hT2⟩, hM, hend⟩)
    · have ht0 := hwk hT
      refine ⟨stepE st x, st, l, s, S, rfl, ⟨an_keep h.an ht0.size ht0.os ht0.tape ht0.output (hkp hT), h.kd.keep h.an.1 (hkp hT), Nat.le_trans h.lim ht0.size, ?_⟩, ht0.wide fun _ => .inl, .inr ⟨hne, .inl hne, rfl⟩⟩
      exact oat_mv (w := w') (w' := w') (f1 := fo.pl S w.heap.size h.lim h.an.1) (f2 := fo.pl S w'.heap.size (Nat.le_trans h.lim ht0.size) (fun k hk => Nat.lt_of_lt_of_le (h.an.1 k hk) ht0.size)) (fun k _ hc => hc) rfl (fun k r hr _ _ => hr) (Nat.le_refl _) hO
    · rcases hend with ⟨hk0, rfl, hO⟩ | ⟨hk0, hO, hT3⟩
      · exact ⟨_, stepS st x, l, _, S', rfl, ⟨hA, hkd, q1, hO⟩, hT2, .inr ⟨hk0, .inr hk0, rfl⟩⟩
      · have ht3 : Tch base tObj w2 w' := tch_wk (f1 := fo.pl S' w2.heap.size q1 q2) (f2 := fo) (fun k hk => .inl hk) hT3
        have hk3 : ∀ k r, S' k → w2.heap[k]? = some r → w'.heap[k]? = some r := fun k r hs hr => @Tch.block (fo.pl S' w2.heap.size q1 q2) _ _ _ _ hT3 k r hr (.inr (.inr (.inr hs)))
        refine ⟨_, stepS st x, l ++ [x], _, S', rfl, ⟨an_keep hA ht3.size ht3.os ht3.tape ht3.output hk3, hkd.keep hA.1 hk3, Nat.le_trans q1 ht3.size, ?_⟩, hT2.trans (ht3.wide fun _ => .inl), .inl ⟨hk0, hz, hk0, rfl, rfl, rfl⟩⟩
        exact oat_mv (w := w') (w' := w') (f1 := fo.pl S' w2.heap.size q1 q2) (f2 := fo.pl S' w'.heap.size (Nat.le_trans q1 ht3.size) (fun k hk => Nat.lt_of_lt_of_le (hA.1 k hk) ht3.size)) (fun k _ hc => hc) rfl (fun k r hr _ _ => hr) (Nat.le_refl _) hO
end
end Go.Proofs.YtalkjgijmceifaaGreatDoor
namespace Go.Proofs.YtalkjgijmceifaaGreatDoor
set_option maxRecDepth 100000
set_option linter.unusedSimpArgs false
set_option linter.unusedVariables false
set_option linter.unusedSectionVars false
variable [Tab]

def dK (k : Int) : Int := if endsK k = true then -1 else if opensK k = true then 1 else 0
def dSum : List Ev → Int
  | [] => 0
  | x :: l => dK x.k + dSum l
theorem stp_deep {st : List Pt} {x : Ev} (h : stepE st x = 0) : ((stepS st x).length : Int) = st.length + dK x.k := by
  cases st with
  | nil => exact absurd (show (19 : Int) = 0 from h) (by decide)
  | cons p r =>
    unfold stepS
    rw [if_pos h]
    have hg : goS (p :: r) x = if endsK x.k = true then r else if opensK x.k = true then ⟨x.k, 0, []⟩ :: { p with last := x.k } :: r else if x.k = 8 ∨ x.k = 11 then { p with last := x.k, keys := x.t.data.toList :: p.keys } :: r else { p with last := x.k } :: r := rfl
    rw [hg]
    unfold dK
    by_cases h1 : endsK x.k = true
    · rw [if_pos h1, if_pos h1, List.length_cons]; omega
    · rw [if_neg h1, if_neg h1]
      by_cases h2 : opensK x.k = true
      · rw [if_pos h2, if_pos h2]; simp only [List.length_cons]; omega
      · rw [if_neg h2, if_neg h2]
        split <;> simp only [List.length_cons] <;> omega
theorem rn_deep : ∀ {l : List Ev} {st : List Pt}, allOk st l → ((runS st l).length : Int) = st.length + dSum l
  | [], st, _ => by simp [runS, dSum]
  | x :: l, st, h => by
    have h1 := stp_deep h.1
    have h2 := rn_deep (l := l) h.2
    have e : runS st (x :: l) = runS (stepS st x) l := rfl
    rw [e, h2, h1]
    simp only [dSum]
    omega
theorem done_deep {st : List Pt} (h : doneB st = true) : st.length = 1 := by
  match st, h with
  | [p], _ => rfl
/-- A document's events leave one as deep as one was. -/
theorem doc_deep {l : List Ev} (h : allOk [topP] l) (hd : doneB (runS [topP] l) = true) {st : List Pt} (hs : allOk st l) : (runS st l).length = st.length := by
  have h1 := rn_deep h
  have h2 := done_deep hd
  have h3 := rn_deep hs
  simp only [List.length_cons, List.length_nil] at h1
  omega
end Go.Proofs.YtalkjgijmceifaaGreatDoor
namespace Go.Proofs.YtalkjgijmceifaaGreatDoor
open Go.RowKit Go.Maps
set_option maxRecDepth 100000
set_option linter.unusedSimpArgs false
set_option linter.unusedVariables false

/-- What a parsing is aborted with. -/
def failV (k : Int) : Value := .iface 217 (.agg #[.int .i64 k])
def failP (k : Int) : List PanicEntry := [{ v := failV k, recovered := false }]

theorem catch_fail (r : Nat) (x k : Int) (w : World) (hB : Blk w r 25 #[.int .i64 x]) :
    CallsD Tryz.prog 164 #[.pointer (some ⟨r, 0, none⟩)] (.panicking (failP k)) w fun e u' w' =>
      e = .returned (.tuple #[]) ∧ u' = .panicking [{ v := failV k, recovered := true }] ∧ w' = (w.setCell ⟨r, 0, none⟩ (.int .i64 k)).alloc (.cells #[.int .i64 k] 217) := by
  have hB1 := hB.alloc (.cells #[.int .i64 k] 217)
  have c0 : (w.alloc (.cells #[.int .i64 k] 217)).cell? ⟨r, 0, none⟩ = some (.int .i64 x) := hB1.cell 0
  have f0 := hB1.frozen 0
  have hlt := hB.lt
  clear hB hB1
  refine callsD_of_wpS Tryz.func164 rfl fun c₀ cs hu => ?_
  apply wpS_seq
  apply wpS_region
  simp [wpOpsS, go_sem, recoverD, hu, failP, Tryz.ntmps164, Exit.thenS]
  refine wpS_of_wp ?_
  unfold failV
  have hta : ∀ w, (Instr.typeAssert (.iface 217 (.agg #[.int .i64 k])) 20 217 true).run Tryz.prog w = .ok (.tuple #[.agg #[.int .i64 k], .bool true]) w := fun w => by rfl
  rw [show (Array.replicate 11 undef : Array Value) = #[undef, undef, undef, undef, undef, undef, undef, undef, undef, undef, undef] from rfl]
  simp only [List.setIfInBounds_toArray, List.set_cons_zero, List.set_cons_succ, List.append_toArray, List.cons_append, List.nil_append]
  go_wp2
  exact ⟨rfl, _, rfl, .tuple #[], by simp [results, Tryz.results164, go_sem], rfl, rfl, rfl⟩
theorem catch_none (r : Nat) (w : World) :
    CallsD Tryz.prog 164 #[.pointer (some ⟨r, 0, none⟩)] .returning w fun e u' w' => e = .returned (.tuple #[]) ∧ u' = .returning ∧ w' = w := by
  refine callsD_of_wpS Tryz.func164 rfl fun c₀ cs hu => ?_
  apply wpS_seq
  apply wpS_region
  simp [wpOpsS, go_sem, recoverD, hu, failP, Tryz.ntmps164, Exit.thenS]
  refine wpS_of_wp ?_
  rw [show (Array.replicate 11 undef : Array Value) = #[undef, undef, undef, undef, undef, undef, undef, undef, undef, undef, undef] from rfl]
  simp only [List.setIfInBounds_toArray, List.set_cons_zero, List.set_cons_succ, List.append_toArray, List.cons_append, List.nil_append]
  go_wp2
  cases c₀
  simp only at hu
  subst hu
  exact ⟨rfl, _, rfl, .tuple #[], by simp [results, Tryz.results164, go_sem], rfl, rfl, rfl⟩
/-- What a parsing may end with: it returns, or it fails; the cell of the answer lies as it lay. -/
def Att (r : Nat) (Q : Int → World → Prop) (e : Ending) (w : World) : Prop :=
  Blk w r 25 #[.int .i64 0] ∧ ((e = .returned (.tuple #[]) ∧ Q 0 w) ∨ ∃ k, e = .panicked (failP k) ∧ Q k w)
theorem attempt_any (w : World) (g : FuncId) (first cap args : Array Value) (Q : Int → World → Prop) (hef : ∀ args w, (callFunc g args).run Tryz.prog w = .ok (.enter g args) w)
    (h : Calls Tryz.prog g (first ++ cap) (w.alloc (.cells #[.int .i64 0] 25)) (Att w.heap.size Q)) :
    Calls Tryz.prog 161 #[.func (.func g) first cap] w fun e w' => ∃ k w1, e = .returned (.int .i64 k) ∧ Q k w1 ∧ Blk w1 w.heap.size 25 #[.int .i64 0] ∧ (w' = w1.setCell ⟨w.heap.size, 0, none⟩ (.int .i64 0) ∨ w' = (w1.setCell ⟨w.heap.size, 0, none⟩ (.int .i64 k)).alloc (.cells #[.int .i64 k] 217)) := by
  have hmf : ∀ (fn : Fn) (first cap : Array Value) (w : World), (Instr.makeFunc fn first cap).run Tryz.prog w = .ok (.func fn first cap) w := fun _ _ _ _ => rfl
  go_enter_defers Tryz.func161, Tryz.ntmps161
  go_wp2
  refine h.mono ?_
  rintro e w1 ⟨hB, ⟨rfl, hQ⟩ | ⟨k, rfl, hQ⟩⟩
  · have c0 : w1.cell? ⟨w.heap.size, 0, none⟩ = some (.int .i64 0) := hB.cell 0
    have f0 := hB.frozen 0
    have hlt := hB.lt
    have hB2 : Blk (w1.setCell ⟨w.heap.size, 0, none⟩ (.int .i64 0)) w.heap.size 25 #[.int .i64 0] := hB.set_ 0 (.int .i64 0)
    have r0 : (w1.setCell ⟨w.heap.size, 0, none⟩ (.int .i64 0)).cell? ⟨w.heap.size, 0, none⟩ = some (.int .i64 0) := hB2.cell 0
    have HH := Lib.hid (And.intro hQ hB)
    clear hB hB2 hQ h
    go_wp2
    refine leaves_cons (f := 164) (args := #[.pointer (some ⟨w.heap.size, 0, none⟩)]) (by simp) (by simp [go_sem]) ?_
    refine (catch_none _ _).mono ?_
    rintro e u' w'' ⟨rfl, rfl, rfl⟩
    simp [Leaves, settle, results, Tryz.results161, go_sem, r0]
    exact ⟨_, HH.out.1, HH.out.2, .inl rfl⟩
  · have hB2 : Blk ((w1.setCell ⟨w.heap.size, 0, none⟩ (.int .i64 k)).alloc (.cells #[.int .i64 k] 217)) w.heap.size 25 #[.int .i64 k] := (hB.set_ 0 (.int .i64 k)).alloc _
    have r0 : ((w1.setCell ⟨w.heap.size, 0, none⟩ (.int .i64 k)).alloc (.cells #[.int .i64 k] 217)).cell? ⟨w.heap.size, 0, none⟩ = some (.int .i64 k) := hB2.cell 0
    refine leaves_cons (f := 164) (args := #[.pointer (some ⟨w.heap.size, 0, none⟩)]) (by simp) (by simp [go_sem]) ?_
    refine (catch_fail _ 0 k _ hB).mono ?_
    rintro e u' w'' ⟨rfl, rfl, rfl⟩
    simp [Leaves, settle, results, Tryz.results161, go_sem, r0]
    exact ⟨_, hQ, hB, .inr rfl⟩
end Go.Proofs.YtalkjgijmceifaaGreatDoor

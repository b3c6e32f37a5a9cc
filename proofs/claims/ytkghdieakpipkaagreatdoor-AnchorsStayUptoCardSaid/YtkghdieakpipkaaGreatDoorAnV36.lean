/-
  anchors: New, Size, Told, Get.
  An Anchors and all that its calls ask: as the laws use it.
-/
import Derived.Test.YtkghdieakpipkaaGreatDoorAnV35
namespace Go.Proofs.YtkghdieakpipkaaGreatDoor
open Go.RowKit Go.Maps
set_option maxRecDepth 100000
set_option linter.unusedSimpArgs false
set_option linter.unusedVariables false

def noS (_ : Nat) : Prop := False
set_option maxHeartbeats 2000000 in
theorem anew_any (w : World) : Calls Tryz.prog 7 #[] w fun e w' => ∃ a, e = .returned (.pointer (some ⟨a, 0, none⟩)) ∧ AAt w' (Ext noS w w') a ⟨[], 0⟩ ∧ Below w.heap.size w w' := by
  go_enter Tryz.func7, Tryz.ntmps7
  have hmm := @run_makeMap Tryz.prog
  go_wp2
  go_ret
  have hb : Below w.heap.size w ((w.alloc (.map #[] 0)).alloc (.cells #[.map (some w.heap.size), .slice none 0 0, .int .i64 0, .int .i64 0] 53)) := ((Below.refl _ _).alloc (Nat.le_refl _) _).alloc (by simp) _
  refine ⟨w.heap.size + 1, rfl, AAt.mk' (K := []) (op := []) (mb := w.heap.size) (ov := .slice none 0 0) (fun k h => h.elim) hb.size ⟨⟨?_, .inr (Nat.le_succ _), .inr (Nat.le_refl _), ?_, fun r hr => (by cases hr), List.Pairwise.nil⟩, (fun g hg => by cases hg), ORow.nil _ _ _⟩ rfl (List.Perm.refl _), hb⟩
  · have := Blk.new (w.alloc (.map #[] 0)) 53 #[.map (some w.heap.size), .slice none 0 0, .int .i64 0, .int .i64 0]
    rw [show (w.alloc (.map #[] 0)).heap.size = w.heap.size + 1 by simp] at this
    exact this
  · exact (MapP.new w).keep (Below.heap_alloc _ _ _ (by simp))

theorem asize_any (w : World) (S : Nat → Prop) (a : Nat) (s : Am) (h : AAt w S a s) : Calls Tryz.prog 9 #[.pointer (some ⟨a, 0, none⟩)] w fun e w' => e = .returned (.int .i64 (sizeA s.m : Int)) ∧ w = w' := by
  obtain ⟨_, K, op, mb, ov, hR, _⟩ := h
  have c2 := hR.rest.cells.2.2.1
  clear hR
  generalize sizeA s.m = z at *
  go_enter Tryz.func9, Tryz.ntmps9
  go_wp2
  go_ret
  exact ⟨rfl, rfl⟩
theorem atold_any (w : World) (S : Nat → Prop) (a : Nat) (s : Am) (h : AAt w S a s) : Calls Tryz.prog 11 #[.pointer (some ⟨a, 0, none⟩)] w fun e w' => e = .returned (.int .i64 (s.told : Int)) ∧ w = w' := by
  obtain ⟨_, K, op, mb, ov, hR, _⟩ := h
  have c3 := hR.rest.cells.2.2.2
  clear hR
  generalize s.told = z at *
  go_enter Tryz.func11, Tryz.ntmps11
  go_wp2
  go_ret
  exact ⟨rfl, rfl⟩
theorem lookA_ent {K : List ARec} {m : List AEnt} (hK : K.map ARec.ent = m) (hap : K.Pairwise apartR) {n : List UInt8} :
    (lookK n K = none → lookA n m = none) ∧ (∀ p, lookK n K = some p → ∃ r ∈ K, r.nm = n ∧ r.p = p ∧ lookA n m = some r.evs) := by
  subst hK
  clear hap
  induction K with
  | nil => exact ⟨fun _ => rfl, (fun p h => by cases h)⟩
  | cons r K ih =>
    simp only [lookK, List.map_cons, lookA]
    by_cases e : r.nm = n
    · rw [if_pos e, if_pos (show r.ent.1 = n from e)]
      exact ⟨(fun h => by cases h), fun p h => ⟨r, List.mem_cons_self, e, by injection h, rfl⟩⟩
    · rw [if_neg e, if_neg (show ¬ r.ent.1 = n from e)]
      exact ⟨ih.1, fun p h => by
        obtain ⟨q, h1, h2⟩ := ih.2 p h
        exact ⟨q, List.mem_cons_of_mem _ h1, h2⟩⟩
theorem open_iff {K : List ARec} {m : List AEnt} (hK : K.map ARec.ent = m) (hn : (namesA m).Nodup) {op : List (List UInt8)} (hO : op.Perm (namesA (pend m))) {r : ARec} (hr : r ∈ K) : decide (r.nm ∈ op) = !knownB r.evs := by
  have hm : r.ent ∈ m := by rw [← hK]; exact List.mem_map_of_mem hr
  cases hk : knownB r.evs with
  | false =>
    refine decide_eq_true (hO.mem_iff.2 (List.mem_map.2 ⟨r.ent, ?_, rfl⟩))
    unfold pend
    rw [List.mem_filter]
    exact ⟨hm, by show (!knownB r.evs) = true; rw [hk]; rfl⟩
  | true =>
    refine decide_eq_false fun ho => ?_
    have h1 := hO.mem_iff.1 ho
    unfold namesA pend at h1
    obtain ⟨e, he, hen⟩ := List.mem_map.1 h1
    rw [List.mem_filter] at he
    have h3 := lookA_mem hn he.1
    have h2 := lookA_mem hn hm
    rw [hen] at h3
    have h4 : lookA r.nm m = some r.evs := h2
    rw [h4] at h3
    injection h3 with h3
    have h5 := he.2
    rw [← h3, hk] at h5
    cases h5

theorem below_rowE {A w w' : World} {B base : Nat} {e : TypeId} {size n : Nat} {v : Value} {xs : List Value} (h : Below B A w) (k : w.grownBy w' v.ownBlock) (hr : w.ownsRow base e size v n xs) (hB : B ≤ w.heap.size) (hbase : B ≤ base) : Below B A w' :=
  ⟨k.os.trans h.os, k.tape.trans h.tape, k.output.trans h.output, Nat.le_trans h.size k.size, fun i hi => (k.block i (by omega) (fun hc => by have := (World.ownsRow.lt hr i hc.symm).1; omega)).trans (h.block i hi)⟩
set_option maxHeartbeats 8000000 in
theorem aget_any (w : World) (S : Nat → Prop) (a : Nat) (s : Am) (n : ByteArray) (h : AAt w S a s) (hI : AInv s) (hn : n.size ≤ 140737488355328) :
    Calls Tryz.prog 17 #[.pointer (some ⟨a, 0, none⟩), .string n] w fun e w' => ∃ lv, e = .returned (.tuple #[lv, .int .i64 (getE s n.data.toList)]) ∧ ERow w' w.heap.size lv (getL s n.data.toList) ∧ AAt w' S a (getM s n.data.toList) ∧ TS S anyO w w' := by
  have hsame : ∀ w', getE s n.data.toList ≠ 0 → Below w.heap.size w w' → ERow w' w.heap.size (.slice none 0 0) (getL s n.data.toList) ∧ AAt w' S a (getM s n.data.toList) := fun w' h0 hb => by
    unfold getL getM
    rw [if_neg h0, if_neg h0]
    exact ⟨ERow.nil _ _, h.below hb⟩
  obtain ⟨hlt, K, op, mb, ov, hR, hK, hO⟩ := h
  have HI := Lib.hid (stepIn w S a s K op mb ov hR hK hO hI)
  have HInv := Lib.hid hI
  obtain ⟨c0, c1, c2, c3⟩ := hR.rest.cells
  obtain ⟨lk1, lk2⟩ := hR.rest.map.look_ok hn
  obtain ⟨la1, la2⟩ := lookA_ent hK hR.rest.ap (n := n.data.toList)
  have HS := Lib.hid hsame
  have HL := Lib.hid hlt
  clear hsame hlt
  cases hlk : lookK n.data.toList K with
  | none =>
    have hE : getE s n.data.toList = 11 := by unfold getE; rw [la1 hlk]
    have hrun := lk2 hlk
    have HS2 := Lib.hid (HS.out w (by rw [hE]; decide) (Below.refl _ _))
    rw [hE]
    clear lk1 lk2 la1 la2 hlk hK hO hI hR hE HS c1 c2 c3
    go_enter Tryz.func17, Tryz.ntmps17
    go_wp2
    go_ret2
    exact ⟨_, rfl, HS2.out.1, HS2.out.2, TS.refl _ _ _⟩
  | some p =>
    obtain ⟨r, hrK, hrn, hrp, hla⟩ := la2 p hlk
    have hrun := lk1 p hlk
    have hC := fun w' (h : ORow w' 0 9 ov (op.map strV)) => scontains_any w' ov op n.data.toList h.sread (by have := HI.out.len; omega)
    have hnn : (⟨n.data.toList.toArray⟩ : ByteArray) = n := by have := strV_of n; unfold strV at this; injection this
    have hop := open_iff hK hI.nd hO hrK
    rw [hrn] at hop
    rw [hnn, hop] at hC
    have HC := Lib.hid (hC w hR.opn)
    cases hkn : knownB r.evs with
    | false =>
      have hE : getE s n.data.toList = 11 := by unfold getE; rw [hla]; simp only; rw [if_pos hkn]
      rw [hkn] at HC
      rw [hE]
      have HE := Lib.hid hE
      clear lk1 lk2 la1 la2 hlk hK hO hI hR hE c2 c3 hC hop hla hkn hrn hnn
      go_enter Tryz.func17, Tryz.ntmps17
      go_wp2_with fail
      refine HC.out.mono ?_
      rintro e w' ⟨rfl, nq, rfl⟩
      have HS2 := Lib.hid (HS.out _ (by rw [HE.out]; decide) (below_drewN (Below.refl _ _) nq))
      have HB := Lib.hid (TS.of_below (S := S) (p := anyO) (below_drewN (Below.refl w.heap.size w) nq))
      clear HC HS
      go_wp2
      go_ret2
      exact ⟨_, rfl, HS2.out.1, HS2.out.2, HB.out⟩
    | true =>
      rw [hkn] at HC
      obtain ⟨lv, hlvq⟩ : ∃ lv, r.lv = lv := ⟨_, rfl⟩
      have hblk := (hR.rest.recs r hrK).blk
      have hrow := (hR.rest.recs r hrK).row
      have hok := HI.out.ok r hrK
      rw [hlvq] at hblk hrow
      obtain ⟨Av, cv, hlv⟩ := hrow.shape
      obtain ⟨nL, hnL⟩ : ∃ nL, r.evs.length = nL := ⟨_, rfl⟩
      rw [hnL] at hlv
      subst hlv
      have hnL2 : nL ≤ 1000 := by rw [← hnL]; exact hok.n
      have b0 : w.cell? ⟨r.p, 0, none⟩ = some (.slice Av nL cv) := hblk.cell 0
      rw [hrp] at b0
      have hht := hI.told
      obtain ⟨T, hT⟩ : ∃ T, s.told = T := ⟨_, rfl⟩
      rw [hT] at c3 hht
      obtain ⟨N, hN⟩ : ∃ N, T + nL = N := ⟨_, rfl⟩
      have w1 : IntKind.i64.wrap ((T : Int) + (nL : Int)) = (N : Int) := by rw [IntWalk.i64_in _ (by omega)]; omega
      have hgE : getE s n.data.toList = if 40 < N then 13 else 0 := by
        unfold getE
        rw [hla]
        simp only
        rw [if_neg (by rw [hkn]; decide), hT, hnL, hN]
      have hrd := hrow.read
      have HRow := Lib.hid hrow
      have HOk := Lib.hid hok
      have HR := Lib.hid hR
      have HK := Lib.hid (And.intro hK (And.intro hO (And.intro hla (And.intro hT (And.intro hnL hN)))))
      have hal := hR.rest.blk.lt
      clear lk1 lk2 la1 la2 hlk hK hO hI hR hC hop hla hkn hrn hnn hblk hrow hok hlvq hT hnL hN hht
      have hdq : Hid (∀ nq, Below w.heap.size w (w.drewN nq)) := Lib.hid (fun nq => below_drewN (Below.refl _ _) nq)
      by_cases h40 : 40 < N
      · have z : decide ((40 : Int) < (N : Int)) = true := by rw [decide_eq_true_iff]; omega
        rw [if_pos h40] at hgE
        have HE := Lib.hid hgE
        rw [hgE]
        clear hgE h40 hrd
        go_enter Tryz.func17, Tryz.ntmps17
        go_wp2_with fail
        refine HC.out.mono ?_
        rintro e w' ⟨rfl, n0, rfl⟩
        clear HC
        go_wp2
        go_quiet (fail)
        go_wp2
        go_ret2
        have hb : Below w.heap.size w (w.drewN (n0 + nq)) := below_drewN (Below.refl _ _) (n0 + nq)
        exact ⟨_, rfl, (HS.out _ (by rw [HE.out]; decide) hb).1, (HS.out _ (by rw [HE.out]; decide) hb).2, TS.of_below hb⟩
      · have z : decide ((40 : Int) < (N : Int)) = false := by rw [decide_eq_false_iff_not]; omega
        rw [if_neg h40] at hgE
        have HE := Lib.hid hgE
        rw [hgE]
        clear hgE h40 hrd HS
        go_enter Tryz.func17, Tryz.ntmps17
        go_wp2_with fail
        refine HC.out.mono ?_
        rintro e w' ⟨rfl, n0, rfl⟩
        clear HC
        go_wp2
        go_quiet (fail)
        clear w1
        have hb : Below w.heap.size w ((w.drewN n0).drewN nq) := below_drewN (below_drewN (Below.refl _ _) n0) nq
        have HB := Lib.hid hb
        have hszq : ((w.drewN n0).drewN nq).heap.size = w.heap.size := rfl
        generalize (w.drewN n0).drewN nq = wq at *
        have hRq := HR.out.below hb
        have u3 := hRq.rest.cells.2.2.2
        have f3 := hRq.rest.blk.frozen 3
        have l3 := hRq.rest.blk.lt
        obtain ⟨hR1, hT1⟩ := hRq.rest.setA 3 (.int .i64 (N : Int)) (ov' := ov) (size' := sizeA s.m) (told' := N) rfl
        have ho1 : ORow (wq.setCell ⟨a, 3, none⟩ (.int .i64 (N : Int))) 0 9 ov (op.map strV) := row_ts hRq.opn hT1 (.inr fun _ _ => by simp only [kA]; decide)
        have hrow1 : ERow (wq.setCell ⟨a, 3, none⟩ (.int .i64 (N : Int))) 0 (.slice Av nL cv) r.evs := row_ts (HRow.out.below hb) hT1 (.inr fun _ _ => by simp only [kA]; decide)
        obtain ⟨A9, c9, hv9, _, _, hrd⟩ := hrow1.read
        injection hv9 with e1 e2 e3
        subst e1 e3
        clear e2
        have b1 : wq.cell? ⟨p, 0, none⟩ = some (.slice Av nL cv) := (hb.cell (cell_lt b0)).trans b0
        have hpa : ¬ p = a := by
          rintro rfl
          have h1 := (HR.out.rest.recs r hrK).blk
          rw [hrp] at h1
          have h2 := HR.out.rest.blk
          unfold Blk at h1 h2
          rw [h1] at h2
          injection h2 with h2
          injection h2 with _ h2
          exact absurd h2 (by decide)
        have hap2 : ¬ a = p := fun e => hpa e.symm
        have hTw : TS S anyO w (wq.setCell ⟨a, 3, none⟩ (.int .i64 (N : Int))) := (TS.of_below hb).trans hT1.any
        have hszE : (wq.setCell ⟨a, 3, none⟩ (.int .i64 (N : Int))).heap.size = w.heap.size := by rw [← hszq]; simp [World.setCell]
        have HszE := Lib.hid hszE
        have hszw : w.heap.size ≤ (wq.setCell ⟨a, 3, none⟩ (.int .i64 (N : Int))).heap.size := hTw.size
        have HF := Lib.hid (And.intro hR1 (And.intro ho1 (And.intro hTw hrK)))
        have Hrd := Lib.hid hrd
        have start : Hid (Below (wq.setCell ⟨a, 3, none⟩ (.int .i64 (N : Int))).heap.size (wq.setCell ⟨a, 3, none⟩ (.int .i64 (N : Int))) (wq.setCell ⟨a, 3, none⟩ (.int .i64 (N : Int)))) := Lib.hid (Below.refl _ _)
        have HAp := Lib.hid (fun (w' : World) (x : Ev) h1 h2 => apart_any w' x h1 h2)
        unfold evV at HAp
        have HLen : Hid (r.evs.length = nL) := Lib.hid HK.out.2.2.2.2.1
        clear hszq hszE hRq hR1 hT1 ho1 hrow1 hrd hTw hb hdq c0 c1 c2 c3 hrun b0 hal
        have start2 : Hid (ERow (wq.setCell ⟨a, 3, none⟩ (.int .i64 (N : Int))) w.heap.size (.slice none 0 0) (r.evs.take 0)) := Lib.hid (ERow.nil _ _)
        clear hrK hrp
        go_wp2
        go_loopw [9, 52] (fun u9 i wr => ∃ k : Nat, k ≤ nL ∧ i = .int .i64 (k : Int) ∧ Hid (ERow wr w.heap.size u9 (r.evs.take k)) ∧ Hid (Below (wq.setCell ⟨a, 3, none⟩ (.int .i64 (N : Int))).heap.size (wq.setCell ⟨a, 3, none⟩ (.int .i64 (N : Int))) wr)) (fun _ i _ => nL - (intOf i).toNat)
        case atStart => exact ⟨0, Nat.zero_le _, rfl, start2, start⟩
        case round =>
          obtain ⟨k, hk, rfl, HRw, HBl⟩ := hrel
          by_cases hlt : k < nL
          case pos =>
            have hkl : k < r.evs.length := by rw [HLen.out]; exact hlt
            obtain ⟨bb, oo, rfl, hc⟩ := Hrd.out (by omega)
            obtain ⟨g1, g2, g3⟩ := hc k hkl
            have k1 := (HBl.out.cell (cell_lt g1)).trans g1
            have k2 := (HBl.out.cell (cell_lt g2)).trans g2
            have k3 := (HBl.out.cell (cell_lt g3)).trans g3
            have hok := HOk.out.ev _ (List.getElem_mem hkl)
            have hts := List.take_succ_eq_append_getElem hkl
            have htl : (r.evs.take k).length = k := by rw [List.length_take]; omega
            obtain ⟨A8, c8, hv8⟩ := HRw.out.shape
            rw [htl] at hv8
            subst hv8
            have HTs := Lib.hid hts
            have HTl := Lib.hid htl
            obtain ⟨_, _, hs1, hs2⟩ := hok
            clear hc g1 g2 g3 hts htl
            generalize r.evs[k] = x at *
            have hbA : Below wr.heap.size wr (wr.alloc (.cells #[.int .i64 x.k, .string x.t, .string x.v] 31)) := (Below.refl _ _).alloc (Nat.le_refl _) _
            have HC2 := Lib.hid (HAp.out (wr.alloc (.cells #[.int .i64 x.k, .string x.t, .string x.v] 31)) x hs1 hs2)
            have HbA := Lib.hid hbA
            clear hbA hkl
            go_wp2_with fail
            refine HC2.out.mono ?_
            rintro e w3 ⟨rfl, hb3⟩
            have hbB : Below wr.heap.size wr (w3.alloc (.cells #[.int .i64 x.k, .string x.t, .string x.v] 31)) := (HbA.out.trans (hb3.mono HbA.out.size)).alloc (Nat.le_trans HbA.out.size hb3.size) _
            have hrow4 : (w3.alloc (.cells #[.int .i64 x.k, .string x.t, .string x.v] 31)).ownsRow w.heap.size 31 3 (.slice A8 k c8) k (evcs (r.evs.take k)) := by
              have := HRw.out.below hbB
              unfold ERow at this
              rw [HTl.out] at this
              exact this
            have h63 : k + 1 ≤ maxLen := by simp only [maxLen]; omega
            have h40 : (k + 1) * 40 ≤ 140737488355328 := by omega
            have hbs : w.heap.size ≤ (w3.alloc (.cells #[.int .i64 x.k, .string x.t, .string x.v] 31)).heap.size := by have := HBl.out.size; have := hbB.size; have := HszE.out; omega
            have H : Hid (∀ v4 w4, w4.ownsRow w.heap.size 31 3 v4 (k + 1) (evcs (r.evs.take k) ++ [.int .i64 x.k, .string x.t, .string x.v]) → (w3.alloc (.cells #[.int .i64 x.k, .string x.t, .string x.v] 31)).grownBy w4 (Value.slice A8 k c8).ownBlock →
                ERow w4 w.heap.size v4 (r.evs.take (k + 1)) ∧ Below (wq.setCell ⟨a, 3, none⟩ (.int .i64 (N : Int))).heap.size (wq.setCell ⟨a, 3, none⟩ (.int .i64 (N : Int))) w4) := by
              refine Lib.hid fun v4 w4 ho hg => ⟨?_, ?_⟩
              · unfold ERow
                rw [HTs.out, evcs_snoc, List.length_append, List.length_singleton, HTl.out]
                exact ho
              · have h1 := HBl.out.trans (hbB.mono HBl.out.size)
                exact below_rowE h1 hg hrow4 h1.size (by rw [HszE.out]; exact Nat.le_refl _)
            have HR4 := Lib.hid hrow4
            clear hrow4 hbB hb3 HC2
            go_wp2_with (first
              | (at_builtin; refine wp_appX rfl _ _ 37 rfl w.heap.size 31 _ 3 40 Tryz.underlying37 Tryz.infoEv rfl (by decide) (.slice A8 k c8) k (evcs (r.evs.take k)) [.int .i64 x.k, .string x.t, .string x.v] rfl HR4.out (by simp [Value.oneCell']) ⟨w3.heap.size, 0, none⟩ 1 1 rfl rfl (by exact cellsOf3 w3 _ _ _ _) h63 h40 hbs ?_; intro v4 w4 hown4 hg4 _; obtain ⟨hE4, hB4⟩ := H.out v4 w4 hown4 hg4; have HE4 := Lib.hid hE4; have HB4 := Lib.hid hB4; clear hE4 hB4 hown4 hg4 H HR4))
            go_roundw
            case rel => exact ⟨k + 1, hlt, by go_num, HE4, HB4⟩
            case measure => first | (simp [intOf]; done) | (simp [intOf]; omega)
          case neg =>
            have hke : k = nL := by omega
            have hfull := HRw.out
            rw [List.take_of_length_le (by rw [HLen.out]; omega)] at hfull
            obtain ⟨A8, c8, hv8⟩ := hfull.shape
            rw [HLen.out] at hv8
            subst hv8
            have HFl := Lib.hid hfull
            clear hfull b1 hpa hap2
            subst hke
            go_wp2
            go_ret2
            obtain ⟨hR1, ho1, hTw, _⟩ := HF.out
            obtain ⟨hK, hO, hla, hT, hnL, hN⟩ := HK.out
            have hbl := HBl.out
            have hgl : getL s n.data.toList = r.evs := by unfold getL; rw [if_pos HE.out, hla]; rfl
            refine ⟨_, rfl, by rw [hgl]; exact HFl.out, ?_, hTw.trans (TS.of_below hbl)⟩
            have hgm : getM s n.data.toList = { s with told := N } := by unfold getM; rw [if_pos HE.out, hgl, hT, hnL, hN]
            rw [hgm]
            exact ⟨fun k hk => Nat.lt_of_lt_of_le (HL.out k hk) (Nat.le_trans hTw.size hbl.size), K, op, mb, ov, ⟨hR1.below hbl, HR.out.so, ho1.below hbl (row_lt ho1)⟩, hK, hO⟩
end Go.Proofs.YtkghdieakpipkaaGreatDoor
namespace Go.Proofs.YtkghdieakpipkaaGreatDoor
open Go.RowKit Go.Maps
set_option maxRecDepth 100000
set_option linter.unusedSimpArgs false
set_option linter.unusedVariables false

structure AIs (B : Nat) (w : World) (S : Nat → Prop) (a : Nat) (s : Am) : Prop where
  lies : AAt w S a s
  inv : AInv s
  lo : ∀ k, S k → B ≤ k
  sz : B ≤ w.heap.size
  std : SWB B w
/-- What a call gives: the Anchors behind it, of blocks that it had or that are new. -/
def AnPo (B : Nat) (w : World) (S : Nat → Prop) (a : Nat) (s : Am) (w' : World) : Prop := ∃ S', AIs B w' S' a s ∧ TS S anyO w w' ∧ Below B w w' ∧ ∀ k, S' k → S k ∨ w.heap.size ≤ k
section
variable {B : Nat} {w w' : World} {S : Nat → Prop} {a : Nat} {s s' : Am}
theorem AIs.post (h : AIs B w S a s) (hA : AAt w' (Ext S w w') a s') (hI : AInv s') (ht : TS S anyO w w') : AnPo B w S a s' w' := by
  have hb := ht.below h.sz h.lo
  refine ⟨Ext S w w', ⟨hA, hI, ?_, Nat.le_trans h.sz ht.size, h.std.below hb⟩, ht, hb, ?_⟩
  · rintro k (h1 | ⟨h1, _⟩)
    · exact h.lo k h1
    · have := h.sz; omega
  · rintro k (h1 | ⟨h1, _⟩)
    · exact .inl h1
    · exact .inr h1
theorem AIs.off {T : Nat → Prop} {p : Obj → Prop} (h : AIs B w S a s) (ht : TS T p w w') (hd : ∀ k, S k → ¬ T k) (hT : ∀ k, T k → B ≤ k) : AIs B w' S a s :=
  ⟨h.lies.off ht hd, h.inv, h.lo, Nat.le_trans h.sz ht.size, h.std.ts ht h.sz hT⟩
theorem AIs.below (h : AIs B w S a s) (hb : Below w.heap.size w w') : AIs B w' S a s :=
  h.off (T := fun _ => False) (p := anyO) (TS.of_below hb) (fun _ _ h => h) (fun _ h => h.elim)
end
theorem new_is (B : Nat) (w : World) (hB : B ≤ w.heap.size) (hw : SWB B w) : Calls Tryz.prog 7 #[] w fun e w' => ∃ a, e = .returned (.pointer (some ⟨a, 0, none⟩)) ∧ Below w.heap.size w w' ∧ ∃ S, AIs B w' S a ⟨[], 0⟩ ∧ ∀ k, S k → w.heap.size ≤ k := by
  refine (anew_any w).mono ?_
  rintro e w' ⟨a, rfl, hA, hb⟩
  refine ⟨a, rfl, hb, _, ⟨hA, ainv0, ?_, Nat.le_trans hB hb.size, hw.below (hb.mono hB)⟩, ?_⟩
  · rintro k (h | ⟨h, _⟩)
    · exact h.elim
    · omega
  · rintro k (h | ⟨h, _⟩)
    · exact h.elim
    · exact h
theorem open_is {B : Nat} {w : World} {S : Nat → Prop} {a : Nat} {s : Am} (h : AIs B w S a s) (n : ByteArray) (hn : n.size ≤ 140737488355328) :
    Calls Tryz.prog 14 #[.pointer (some ⟨a, 0, none⟩), .string n] w fun e w' => e = .returned (.int .i64 (openE s n.data.toList)) ∧ AnPo B w S a (openM s n.data.toList) w' := by
  refine (aopen_any w S a s n h.lies h.inv hn).mono ?_
  rintro e w' ⟨rfl, hA, ht⟩
  exact ⟨rfl, h.post hA (ainv_open h.inv _) ht⟩
theorem step_is {B : Nat} {w : World} {S : Nat → Prop} {a : Nat} {s : Am} (h : AIs B w S a s) (x : Ev) (hx : okE x) :
    Calls Tryz.prog 15 #[.pointer (some ⟨a, 0, none⟩), .agg #[.int .i64 x.k, .string x.t, .string x.v]] w fun e w' => e = .returned (.int .i64 (stepAE s x)) ∧ AnPo B w S a (stepAM s x) w' := by
  refine (astep_any w S a s x B h.lies h.inv hx h.lo h.sz h.std).mono ?_
  rintro e w' ⟨rfl, hA, ht⟩
  exact ⟨rfl, h.post hA (ainv_step h.inv _) ht⟩
theorem get_is {B : Nat} {w : World} {S : Nat → Prop} {a : Nat} {s : Am} (h : AIs B w S a s) (n : ByteArray) (hn : n.size ≤ 140737488355328) :
    Calls Tryz.prog 17 #[.pointer (some ⟨a, 0, none⟩), .string n] w fun e w' => ∃ lv, e = .returned (.tuple #[lv, .int .i64 (getE s n.data.toList)]) ∧ ERow w' w.heap.size lv (getL s n.data.toList) ∧ AIs B w' S a (getM s n.data.toList) ∧ TS S anyO w w' ∧ Below B w w' := by
  refine (aget_any w S a s n h.lies h.inv hn).mono ?_
  rintro e w' ⟨lv, rfl, hr, hA, ht⟩
  have hb := ht.below h.sz h.lo
  exact ⟨lv, rfl, hr, ⟨hA, ainv_get h.inv _, h.lo, Nat.le_trans h.sz ht.size, h.std.below hb⟩, ht, hb⟩
theorem size_is {B : Nat} {w : World} {S : Nat → Prop} {a : Nat} {s : Am} (h : AIs B w S a s) : Calls Tryz.prog 9 #[.pointer (some ⟨a, 0, none⟩)] w fun e w' => e = .returned (.int .i64 (sizeA s.m : Int)) ∧ w = w' := asize_any w S a s h.lies
theorem told_is {B : Nat} {w : World} {S : Nat → Prop} {a : Nat} {s : Am} (h : AIs B w S a s) : Calls Tryz.prog 11 #[.pointer (some ⟨a, 0, none⟩)] w fun e w' => e = .returned (.int .i64 (s.told : Int)) ∧ w = w' := atold_any w S a s h.lies
/-! Neither the size nor what was told ever falls. -/
theorem open_up (s : Am) (n : List UInt8) : sizeA s.m ≤ sizeA (openM s n).m ∧ (openM s n).told = s.told := by
  unfold openM
  split
  · exact ⟨by show _ ≤ sizeA (s.m ++ [(n, [])]); rw [sizeA_append]; omega, rfl⟩
  · exact ⟨Nat.le_refl _, rfl⟩
theorem step_up (s : Am) (x : Ev) : sizeA s.m ≤ sizeA (stepAM s x).m ∧ (stepAM s x).told = s.told := by
  unfold stepAM
  split
  · exact ⟨by show _ ≤ sizeA (s.m.map (pushA x)); rw [sizeA_push]; omega, rfl⟩
  · exact ⟨Nat.le_refl _, rfl⟩
theorem get_up (s : Am) (n : List UInt8) : sizeA (getM s n).m = sizeA s.m ∧ s.told ≤ (getM s n).told := by
  unfold getM
  split
  · exact ⟨rfl, Nat.le_add_right _ _⟩
  · exact ⟨rfl, Nat.le_refl _⟩

/-! One of three; the document's example. -/
def pick3 (c : Int) : Int := if c < 0 then (-(c + 1)) % 3 else c % 3
theorem pick3_range (c : Int) : pick3 c = 0 ∨ pick3 c = 1 ∨ pick3 c = 2 := by unfold pick3; split <;> omega
theorem pick3_any (c : Int) (w : World) (h0 : -9223372036854775808 ≤ c) (h1 : c ≤ 9223372036854775807) :
    Calls Tryz.prog 16 #[.int .i64 c, .int .i64 3] w fun e w' => e = .returned (.int .i64 (pick3 c)) ∧ w = w' := by
  unfold pick3
  by_cases hc : c < 0
  · rw [if_pos hc]
    have e1 : IntKind.i64.wrap (-(c + 1)) = -(c + 1) := IntWalk.i64_in _ (by omega)
    have e2 : (0 : Int) ≤ -(c + 1) := by omega
    have e3 : (-(c + 1)).tmod 3 = -(c + 1) % 3 := Int.tmod_eq_emod_of_nonneg e2
    go_enter Tryz.func16, Tryz.ntmps16
    go_wp2
    go_ret
    exact ⟨rfl, rfl⟩
  · rw [if_neg hc]
    have e2 : 0 ≤ c := by omega
    have e3 : c.tmod 3 = c % 3 := Int.tmod_eq_emod_of_nonneg e2
    go_enter Tryz.func16, Tryz.ntmps16
    go_wp2
    go_ret
    exact ⟨rfl, rfl⟩
def liveX : Ev := ⟨3, ⟨#[49]⟩, ⟨#[]⟩⟩
def live0 : Am := ⟨[], 0⟩
def live1 : Am := openM live0 [97]
def live2 : Am := stepAM live1 liveX
def live3 : Am := getM live2 [97]
theorem live_facts : openE live0 [97] = 0 ∧ stepAE live1 liveX = 0 ∧ getE live2 [97] = 0 ∧ getL live2 [97] = [liveX] ∧ sizeA live3.m = 3 ∧ live3.told = 1 := ⟨by kernel_rfl, by kernel_rfl, by kernel_rfl, by kernel_rfl, by kernel_rfl, by kernel_rfl⟩

set_option maxHeartbeats 4000000 in
theorem lives10_any (B : Nat) (w : World) (hB : B ≤ w.heap.size) (hw : SWB B w) : Calls Tryz.prog 12 #[] w fun e w' => e = .returned (.bool true) ∧ Below w.heap.size w w' := by
  obtain ⟨f1, f2, f3, f4, f5, f6⟩ := live_facts
  have hw' : SWB w.heap.size w := SWB.of hw.std
  have HN := Lib.hid (new_is w.heap.size w (Nat.le_refl _) hw')
  have HF := Lib.hid (And.intro f4 (And.intro f5 f6))
  clear hw hw' f4 f5 f6
  go_enter Tryz.func12, Tryz.ntmps12
  go_wp2_with fail
  refine HN.out.mono ?_
  rintro e w1 ⟨a, rfl, hb1, S1, hA1, _⟩
  have hO := open_is hA1 ⟨#[97]⟩ (by decide)
  have e0 : (⟨#[97]⟩ : ByteArray).data.toList = [97] := rfl
  rw [e0, show openE ⟨[], 0⟩ [97] = 0 from f1, show openM ⟨[], 0⟩ [97] = live1 from rfl] at hO
  have HO := Lib.hid hO
  have HB1 := Lib.hid hb1
  clear hO hA1 hb1 f1 HN e0
  go_wp2_with fail
  refine HO.out.mono ?_
  rintro e w2 ⟨rfl, S2, hA2, _, hb2, _⟩
  have hSt := step_is hA2 liveX ⟨by decide, by decide, by decide, by decide⟩
  rw [f2, show stepAM live1 liveX = live2 from rfl] at hSt
  have HSt := Lib.hid hSt
  have HB2 := Lib.hid (HB1.out.trans (hb2.mono (Nat.le_refl _)))
  unfold liveX at HSt
  clear hSt hA2 hb2 f2 HO
  go_wp2_with fail
  refine HSt.out.mono ?_
  rintro e w3 ⟨rfl, S3, hA3, _, hb3, _⟩
  have hG := get_is hA3 ⟨#[97]⟩ (by decide)
  rw [show (⟨#[97]⟩ : ByteArray).data.toList = [97] from rfl, f3, HF.out.1, show getM live2 [97] = live3 from rfl] at hG
  have HG := Lib.hid hG
  have HB3 := Lib.hid (HB2.out.trans hb3)
  clear hG hA3 hb3 f3 HSt
  go_wp2_with fail
  refine HG.out.mono ?_
  rintro e w4 ⟨lv, rfl, hr, hA4, _, hb4⟩
  obtain ⟨A, c, hlv⟩ := hr.shape
  have hlv' : lv = .slice A 1 c := hlv
  subst hlv'
  have hSz := size_is hA4
  have hTo := told_is hA4
  rw [HF.out.2.1] at hSz
  rw [HF.out.2.2] at hTo
  have HSz := Lib.hid hSz
  have HTo := Lib.hid hTo
  have HB4 := Lib.hid (HB3.out.trans hb4)
  clear hSz hTo hr hA4 hb4 hlv HG
  go_wp2_with (first
    | (go_at_call 9; refine HSz.out.mono ?_; rintro e w5 ⟨rfl, rfl⟩)
    | (go_at_call 11; refine HTo.out.mono ?_; rintro e w5 ⟨rfl, rfl⟩))
  go_ret
  exact ⟨rfl, HB4.out⟩
end Go.Proofs.YtkghdieakpipkaaGreatDoor

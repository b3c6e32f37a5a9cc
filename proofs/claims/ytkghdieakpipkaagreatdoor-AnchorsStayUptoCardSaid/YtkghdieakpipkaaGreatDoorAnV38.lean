/-
  The reference's Anchors: Step.
  What every row of this seat's laws shares: the variables that are listed, a world that holds them, what the walks lean on out of them; (stage 10).
-/
import Derived.Test.YtkghdieakpipkaaGreatDoorAnV37
import Derived.Deep.RegionLaw
import Derived.Test.YtkghdieakpipkaaGreatDoorRows
import Derived.Test.YtkghdieakpipkaaGreatDoorCards
import Derived.Test.YtkghdieakpipkaaGreatDoorTie
import Derived.Test.YtkghdieakpipkaaGreatDoorAnV13
import Derived.Deep.Slices
import Derived.Deep.Fields
import Derived.ChangeSame
import Derived.SizedLaws
import Derived.ProofKit
import Derived.OpenShut
import Derived.ShutString
import Derived.Deep.DeepHandedRow
import Derived.Lib.LaidTab
import Derived.Lay
import Derived.Stop.LaidErr
import Derived.SevenTiedAt
namespace Go.Proofs.YtkghdieakpipkaaGreatDoor
open Go.RowKit Go.Maps
set_option maxRecDepth 100000
set_option linter.unusedSimpArgs false
set_option linter.unusedVariables false

def RSP (w : World) (T : Nat → Prop) (r : Nat) (s : Am) (x : Ev) (e : Ending) (w' : World) : Prop :=
  e = .returned (.int .i64 (stepAE s x)) ∧ RAt w' (Ext T w w') r (stepAM s x) ∧ TS T anyO w w'
set_option maxHeartbeats 8000000 in
theorem rstepA_any (w : World) (T : Nat → Prop) (r : Nat) (s : Am) (x : Ev) (h : RAt w T r s) (hI : AInv s) (hs1 : x.t.size ≤ 1099511627776) (hs2 : x.v.size ≤ 1099511627776) :
    Calls Tryz.prog 20 #[.pointer (some ⟨r, 0, none⟩), .agg #[.int .i64 x.k, .string x.t, .string x.v]] w (RSP w T r s x) := by
  have hsame : ∀ w' E, stepAE s x = E → E ≠ 0 → Below w.heap.size w w' → RSP w T r s x (.returned (.int .i64 E)) w' := by
    intro w' E hE h0 hb
    refine ⟨by rw [hE], ?_, TS.of_below hb⟩
    unfold stepAM
    rw [if_neg (by rw [hE]; exact h0)]
    exact (h.below hb).mono (fun _ h => .inl h) (Ext.lt h.1 hb.size)
  have HS := Lib.hid hsame
  clear hsame
  obtain ⟨hlT, kv, K, hR, hK, h1, h2, h3⟩ := h
  have hsz : sizeA (K.map Kp.ent) ≤ 200 := by rw [hK]; exact hI.sz
  have hKl : K.length ≤ 200 := by
    have h5 := hI.ok
    rw [← hK] at h5
    have := sizeA_len fun r hr => (h5 r hr).2
    simp at this
    omega
  obtain ⟨A, c, hkv, hlc, hcm, hr⟩ := hR.row.form
  subst hkv
  have hcm2 : c ≤ 9223372036854775807 := by simpa [maxLen] using hcm
  have c0 : w.cell? ⟨r, 0, none⟩ = some (.slice A K.length c) := hR.blk.cell 0
  have c1 : w.cell? ⟨r, 1, none⟩ = some (.int .i64 (s.told : Int)) := hR.blk.cell 1
  have hrlt := hR.blk.lt
  have HR := Lib.hid (And.intro hR (And.intro hK (And.intro h1 (And.intro h2 (And.intro h3 hlT)))))
  have HI := Lib.hid hI
  have HZ := Lib.hid hsz
  clear hR hK h1 h2 h3 hlT hcm hI hsz
  have st : ∀ w1 : World, Below w.heap.size w w1 → Blk w1 w.heap.size 31 #[.int .i64 x.k, .string x.t, .string x.v] → Blk w1 (w.heap.size + 1) 28 #[.slice none 0 0, .int .i64 (s.told : Int)] →
      RIn w T w.heap.size (w.heap.size + 1) x s.told K (.slice none 0 0) [] 0 w1 := fun w1 hb hx hn =>
    ⟨hb, hx, Nat.le_refl _, Nat.le_succ _, ⟨hn, World.ownsRow_nil _ _ _ _, fun _ h => absurd h List.not_mem_nil⟩, by simp, fun g hg => (by cases hg), fun _ h => absurd h List.not_mem_nil, fun _ h => absurd h (by simp)⟩
  have start : Hid (∃ kv' K', RIn w T w.heap.size (w.heap.size + 1) x s.told K kv' K' 0 ((w.alloc (.cells #[.int .i64 x.k, .string x.t, .string x.v] 31)).alloc (.cells #[.slice none 0 0, .int .i64 (s.told : Int)] 28))) := by
    have e1 := Blk.new w 31 #[.int .i64 x.k, .string x.t, .string x.v]
    have e2 := Blk.new (w.alloc (.cells #[.int .i64 x.k, .string x.t, .string x.v] 31)) 28 #[.slice none 0 0, .int .i64 (s.told : Int)]
    have hsz1 : (w.alloc (.cells #[.int .i64 x.k, .string x.t, .string x.v] 31)).heap.size = w.heap.size + 1 := by simp
    rw [hsz1] at e2
    exact Lib.hid ⟨_, _, st _ (((Below.refl _ _).alloc (Nat.le_refl _) _).alloc (by simp) _) (e1.alloc _) e2⟩
  clear st
  go_enter Tryz.func20, Tryz.ntmps20
  go_wp2
  go_loopw [6] (fun u6 wr => ∃ i : Nat, i ≤ K.length ∧ u6 = .int .i64 (i : Int) ∧ Hid (∃ kv' K', RIn w T w.heap.size (w.heap.size + 1) x s.told K kv' K' i wr)) (fun u6 _ => K.length - (intOf u6).toNat)
  case atStart => exact ⟨0, Nat.zero_le _, rfl, start⟩
  case round =>
    obtain ⟨i, hi, rfl, HIn⟩ := hrel
    clear start
    obtain ⟨kv', K', hIn⟩ := HIn.out
    have d0 := (hIn.bel.cell (cell_lt c0)).trans c0
    by_cases hlt : i < K.length
    case neg =>
      have hie : i = K.length := by omega
      subst hie
      have hents : K'.map Kp.ent = s.m.map (pushA x) := by
        rw [hIn.ents, List.take_of_length_le (Nat.le_refl _), ← HR.out.2.1, List.map_map]
        rfl
      have hall : takesA s.m x = true := by
        unfold takesA
        rw [List.all_eq_true]
        intro q hq
        unfold pend at hq
        rw [List.mem_filter, ← HR.out.2.1] at hq
        obtain ⟨hq1, hq2⟩ := hq
        obtain ⟨k, hk, rfl⟩ := List.mem_map.1 hq1
        rw [decide_eq_true_iff]
        exact hIn.oks k (by rw [List.take_of_length_le (Nat.le_refl _)]; exact hk) (by simpa [Kp.ent] using hq2)
      have hpe : (pend s.m).length ≤ 200 := by
        have h5 : (pend s.m).length ≤ s.m.length := List.length_filter_le _ _
        have h6 : s.m.length = K.length := by rw [← HR.out.2.1]; simp
        omega
      have hz0 : sizeA s.m ≤ 200 := HI.out.sz
      have hev : evSz x ≤ 2199023255553 := by unfold evSz; omega
      have hmul : (pend s.m).length * evSz x ≤ 200 * evSz x := Nat.mul_le_mul_right _ hpe
      have hsize : sizeA (K'.map Kp.ent) = sizeA s.m + (pend s.m).length * evSz x := by rw [hents, sizeA_push]
      have hSz := rsize_any wr _ kv' K' s.told hIn.rep (by omega)
      obtain ⟨z, hz⟩ : ∃ z, sizeA s.m + (pend s.m).length * evSz x = z := ⟨_, rfl⟩
      have hAE : stepAE s x = if 200 < z then 12 else 0 := by
        unfold stepAE
        rw [if_neg (by rw [hall]; decide), hz]
      rw [hsize, hz] at hSz
      have HSz := Lib.hid hSz
      have HAE := Lib.hid hAE
      have HEn := Lib.hid hents
      have HIN := Lib.hid hIn
      have hrb := HR.out.1.blk.below hIn.bel HR.out.1.blk.lt
      have f0 := hrb.frozen 0
      have l0 := hrb.lt
      obtain ⟨A', c', hkv', _, _, _⟩ := hIn.rep.row.form
      obtain ⟨n', hn'⟩ : ∃ n', K'.length = n' := ⟨_, rfl⟩
      rw [hn'] at hkv'
      subst hkv'
      have m0 : wr.cell? ⟨w.heap.size + 1, 0, none⟩ = some (.slice A' n' c') := hIn.rep.blk.cell 0
      have HRB := Lib.hid hrb
      clear hr hlt hi hents hall hpe hz0 hev hmul hsize hSz hz hAE hIn HIn hn' hrb
      by_cases h200 : 200 < z
      · have e1 : decide ((200 : Int) < (z : Int)) = true := by rw [decide_eq_true_iff]; omega
        have HQ : Hid (stepAE s x = 12) := Lib.hid (by rw [HAE.out, if_pos h200])
        clear h200 m0 f0 l0
        go_wp2_with (first
          | (go_at_call 10; refine HSz.out.mono ?_; rintro e w' ⟨rfl, m2, rfl⟩))
        go_ret
        exact HS.out _ _ HQ.out (by decide) (below_drewN HIN.out.bel m2)
      · have e1 : decide ((200 : Int) < (z : Int)) = false := by rw [decide_eq_false_iff_not]; omega
        have HQ : Hid (stepAE s x = 0) := Lib.hid (by rw [HAE.out, if_neg h200])
        clear h200
        go_wp2_with (first
          | (go_at_call 10; refine HSz.out.mono ?_; rintro e w' ⟨rfl, m2, rfl⟩))
        go_ret
        obtain ⟨_, hK, q1, q2, q3, q4⟩ := HR.out
        have hIN := HIN.out
        obtain ⟨t1, t2⟩ := RRep.ts_set (U := T) (HRB.out.drewN m2) (hIN.rep.drewN m2).row (hIN.rep.drewN m2).evs q1
        have tT : TS T anyO w ((wr.drewN m2).setCell ⟨r, 0, none⟩ (.slice A' n' c')) := (TS.of_below (below_drewN hIN.bel m2)).trans t2.any
        have e2 : stepAM s x = { s with m := s.m.map (pushA x) } := by unfold stepAM; rw [if_pos HQ.out]
        refine ⟨by rw [HQ.out]; rfl, ?_, tT⟩
        rw [e2]
        exact RAt.mk' (s := { s with m := s.m.map (pushA x) }) q4 tT.size t1 HEn.out q1 (fun g hg => .inr (hIN.kvb g hg)) hIN.lvs
    case pos =>
      obtain ⟨b, o, rfl, hc⟩ := hr (by omega)
      obtain ⟨g0, g1⟩ := hc i hlt
      have k0 := (hIn.bel.cell (cell_lt g0)).trans g0
      have k1 := (hIn.bel.cell (cell_lt g1)).trans g1
      have hlti : (i : Int) < K.length := by omega
      have hmem : K[i] ∈ K := List.getElem_mem hlt
      have hment : (K[i].nm, K[i].evs) ∈ K.map Kp.ent := List.mem_map.2 ⟨_, hmem, rfl⟩
      obtain ⟨_, s2', s3'⟩ := ent_small hment HZ.out
      have s2 : K[i].evs.length ≤ 200 := s2'
      have s3 : ∀ y ∈ K[i].evs, y.t.size ≤ 200 ∧ y.v.size ≤ 200 := s3'
      have hok : allOk [topP] K[i].evs := (HI.out.ok _ (by rw [← HR.out.2.1]; exact hment)).1
      have hrow := HR.out.1.evs _ hmem
      have hTk := HR.out.2.2.2.2.1 _ hmem
      obtain ⟨Av, cv, hlv⟩ := hrow.shape
      have HQ : Hid (∃ lv es nL, K[i].lv = lv ∧ K[i].evs = es ∧ lv = .slice Av nL cv ∧ es.length = nL) := Lib.hid ⟨_, _, _, rfl, rfl, hlv, rfl⟩
      obtain ⟨lv, es, nL, hq1, hq2, hq3, hq4⟩ := HQ.out
      rw [hq2] at s2 s3 hok hrow
      rw [hq1, hq3] at hrow hTk k1
      obtain ⟨nm, hnm'⟩ : ∃ nm : ByteArray, (⟨K[i].nm.toArray⟩ : ByteArray) = nm := ⟨_, rfl⟩
      have hnm : strV K[i].nm = .string nm := by rw [← hnm']; rfl
      rw [hnm] at k0
      have HN := Lib.hid (And.intro hnm (And.intro hq1 (And.intro hq2 (And.intro hq3 hq4))))
      have HIs : Hid (∀ w', Below w.heap.size w w' → Calls Tryz.prog 13 #[.slice Av nL cv] w' fun e w'' => e = .returned (.bool (knownB es)) ∧ Below w'.heap.size w' w'') := Lib.hid (fun w' hb => by
        have := eis_any w' (.slice Av nL cv) es (hrow.below hb).read (fun y hy => ⟨by have := (s3 y hy).1; omega, by have := (s3 y hy).2; omega⟩) (by omega)
        rw [is_known hok] at this
        exact this)
      have HSt : Hid (∀ w', Below w.heap.size w w' → Calls Tryz.prog 34 #[.slice Av nL cv, .agg #[.int .i64 x.k, .string x.t, .string x.v]] w' fun e w'' => e = .returned (.int .i64 (stepE (runS [topP] es) x)) ∧ Below w'.heap.size w' w'') := Lib.hid (fun w' hb => by
        have hrel := rel_run es [] [topP] rel_start hok
        exact rstepV w' (.slice Av nL cv) es (runS [topP] es) _ x rfl (hrow.below hb).read (by omega) hs1 hs2 hrel (good_run good_start es))
      have Hrow := Lib.hid (And.intro hrow (And.intro hTk hmem))
      have HIN := Lib.hid hIn
      have hbr := Lib.hid hIn.bel
      clear hnm' hc g0 g1 hment s2' s3' s3 hok hrow hTk hlv HQ hq1 hq2 hq3 hq4 hnm hmem hr hIn HIn
      have hba : Below wr.heap.size wr (wr.alloc (.cells #[.string nm, .slice Av nL cv] 48)) := (Below.refl _ _).alloc (Nat.le_refl _) _
      have hya : Blk (wr.alloc (.cells #[.string nm, .slice Av nL cv] 48)) wr.heap.size 48 #[.string nm, .slice Av nL cv] := Blk.new wr _ _
      have HA := Lib.hid (And.intro hba hya)
      have hK'l : K'.length = i := HIN.out.len hi
      have h63 : K'.length + 1 ≤ maxLen := by simp only [maxLen]; omega
      have h40 : (K'.length + 1) * 40 ≤ 140737488355328 := by omega
      have HKl := Lib.hid hK'l
      obtain ⟨A', c', hkv', _, _, _⟩ := HIN.out.rep.row.form
      obtain ⟨n', hn'⟩ : ∃ n', K'.length = n' := ⟨_, rfl⟩
      rw [hn'] at hkv' h63 h40
      subst hkv'
      have HN' := Lib.hid hn'
      clear hba hya hK'l hn'
      go_wp2_with fail
      refine (HIs.out _ (hbr.out.trans (HA.out.1.mono hbr.out.size))).mono ?_
      rintro e w3 ⟨rfl, hb3⟩
      clear HIs d0 k0 k1
      have hb3' : Below wr.heap.size wr w3 := HA.out.1.trans (hb3.mono HA.out.1.size)
      have hy3 : Blk w3 wr.heap.size 48 #[.string nm, .slice Av nL cv] := HA.out.2.below hb3 HA.out.2.lt
      have y0 : w3.cell? ⟨wr.heap.size, 0, none⟩ = some (.string nm) := hy3.cell 0
      have y1 : w3.cell? ⟨wr.heap.size, 1, none⟩ = some (.slice Av nL cv) := hy3.cell 1
      have hr3 := HIN.out.rep.below hb3'
      have m0 : w3.cell? ⟨w.heap.size + 1, 0, none⟩ = some (.slice A' n' c') := hr3.blk.cell 0
      cases hkn : knownB es with
      | true =>
        have hrow3 : (w3.drew).ownsRow 0 48 2 (.slice A' n' c') n' (kpcs K') := by
          have h5 := hr3.row
          unfold RRow at h5
          rw [HN'.out] at h5
          exact h5
        have m0a : (w3.alloc (.cells #[.string nm, .slice Av nL cv] 48)).cell? ⟨w.heap.size + 1, 0, none⟩ = some (.slice A' n' c') := (hr3.blk.alloc _).cell 0
        have H : Hid (∀ v4 w4, w4.ownsRow 0 48 2 v4 (n' + 1) (kpcs K' ++ [.string nm, .slice Av nL cv]) → ((w3.drew).alloc (.cells #[.string nm, .slice Av nL cv] 48)).grownBy w4 (Value.slice A' n' c').ownBlock → NB ((w3.drew).alloc (.cells #[.string nm, .slice Av nL cv] 48)) (.slice A' n' c') v4 →
            w4.cell? ⟨w.heap.size + 1, 0, none⟩ = some (.slice A' n' c') ∧ w4.frozen? ⟨w.heap.size + 1, 0, none⟩ = false ∧ w.heap.size + 1 < w4.heap.size ∧ (∃ kv2 K2, RIn w T w.heap.size (w.heap.size + 1) x s.told K kv2 K2 (i + 1) (w4.setCell ⟨w.heap.size + 1, 0, none⟩ v4))) := by
          refine Lib.hid fun v4 w4 hown hg hnb => ?_
          obtain ⟨q1, q2, q3, q4, q5⟩ := HN.out
          rw [← HN'.out, ← q1] at hown
          obtain ⟨hB4, hI4⟩ := HIN.out.next hlt (below_drew hb3') ⟨K[i].nm, es, .slice Av nL cv⟩ ((Hrow.out.1.below hbr.out).below (below_drew hb3')) (by unfold pushA Kp.ent; rw [q3]; simp [hkn]) (fun g hg => .inl (Hrow.out.2.1 g hg)) (fun hf => by rw [q3, hkn] at hf; cases hf) hown hg hnb
          exact ⟨hB4.cell 0, hB4.frozen 0, hB4.lt, _, _, hI4⟩
        clear hkn hy3 hr3 HSt
        go_wp2
        go_region_law ((refine step_appX (by rfl) (.tmp 58) (.tmp 60) 26 (by rfl) 0 48 _ 2 40 Tryz.underlying26 Tryz.infoKp (by rfl) (by decide) (.slice A' n' c') n' (kpcs K') [.string nm, .slice Av nL cv] (by rfl) (by exact World.ownsRow.alloc hrow3 _) (by simp [Value.oneCell']) ⟨w3.heap.size, 0, none⟩ 1 1 (by rfl) (by rfl) (by exact cellsOf2 w3.drew _ _ _) h63 h40 (Nat.zero_le _) ?_; intro v4 w4 hown4 hg4 hnb4; obtain ⟨g4, c4, rfl⟩ := rowN_shape hown4 (Nat.succ_pos _); obtain ⟨e0, f0, l0, hI4⟩ := H.out _ w4 hown4 hg4 hnb4; have HI4 := Lib.hid hI4; clear hI4 hown4 hg4 hnb4))
        all_goals
          clear e0 f0 l0 hrow3 m0a m0 y0 y1 hb3 hb3' H
          go_wp2
          go_roundw
          case rel => exact ⟨i + 1, hlt, by go_num, HI4⟩
          case measure => first | (simp [intOf]; done) | (simp [intOf]; omega)
      | false =>
        have hx3 := HIN.out.xat.below hb3' HIN.out.xat.lt
        have x0 : w3.cell? ⟨w.heap.size, 0, none⟩ = some (.int .i64 x.k) := hx3.cell 0
        have x1 : w3.cell? ⟨w.heap.size, 1, none⟩ = some (.string x.t) := hx3.cell 1
        have x2 : w3.cell? ⟨w.heap.size, 2, none⟩ = some (.string x.v) := hx3.cell 2
        have hb3w : Below w.heap.size w w3 := hbr.out.trans (hb3'.mono hbr.out.size)
        have HSt3 := Lib.hid (HSt.out w3 hb3w)
        have HB3 := Lib.hid (And.intro hb3' (And.intro hb3w hy3))
        obtain ⟨E, hE⟩ : ∃ E, stepE (runS [topP] es) x = E := ⟨_, rfl⟩
        rw [hE] at HSt3
        have HE := Lib.hid hE
        have HKn := Lib.hid hkn
        clear hE hkn hx3 hr3 hy3 hb3 hb3' hb3w HSt m0
        by_cases hz : E = 0
        case neg =>
          have b0 := eq_ibne hz
          have hq : stepAE s x = 19 := by
            have ht : takesA s.m x = false := by
              rw [Bool.eq_false_iff]
              intro ht
              refine hz ?_
              rw [← HE.out]
              obtain ⟨q1, q2, q3, q4, q5⟩ := HN.out
              have h5 := takesA_of ht (r := K[i].ent) (by rw [← HR.out.2.1]; exact List.mem_map.2 ⟨_, Hrow.out.2.2, rfl⟩) (by show knownB K[i].evs = false; rw [q3]; exact HKn.out)
              have h6 : stepE (runS [topP] K[i].evs) x = 0 := h5
              rw [q3] at h6
              exact h6
            unfold stepAE
            rw [if_pos ht]
          have HQ := Lib.hid hq
          clear hz hq
          go_wp2_with (first
            | (go_at_call 34; refine HSt3.out.mono ?_; rintro e w5 ⟨rfl, hb5⟩; have HB5 := Lib.hid hb5; clear hb5 HSt3))
          go_ret
          exact HS.out _ _ HQ.out (by decide) (HB3.out.2.1.trans (HB5.out.mono HB3.out.2.1.size))
        case pos =>
          subst hz
          go_wp2_with fail
          refine HSt3.out.mono ?_
          rintro e w5 ⟨rfl, hb5⟩
          have hb5' : Below wr.heap.size wr w5 := HB3.out.1.trans (hb5.mono HB3.out.1.size)
          have hy5 : Blk w5 wr.heap.size 48 #[.string nm, .slice Av nL cv] := HB3.out.2.2.below hb5 HB3.out.2.2.lt
          have y1' : w5.cell? ⟨wr.heap.size, 1, none⟩ = some (.slice Av nL cv) := hy5.cell 1
          have y0' : w5.cell? ⟨wr.heap.size, 0, none⟩ = some (.string nm) := hy5.cell 0
          have hx5 := HIN.out.xat.below hb5' HIN.out.xat.lt
          have hb5w : Below w.heap.size w w5 := hbr.out.trans (hb5'.mono hbr.out.size)
          have hbs5 : wr.heap.size ≤ w5.heap.size := hb5'.size
          have hrow5 : ERow w5 0 (.slice Av nL cv) es := Hrow.out.1.below hb5w
          have HB5 := Lib.hid (And.intro hb5' (And.intro hy5 (And.intro hx5 hrow5)))
          have HE1 : Hid (ERead w5 (.slice Av nL cv) es) := Lib.hid hrow5.read
          have h63a : ([] : List Ev).length + es.length ≤ 1000000 := by simp; omega
          have H6 : Hid (∀ v6 w6, ERow w6 wr.heap.size v6 ([] ++ es) → w5.grownBy w6 (Value.slice none 0 0).ownBlock → 
              (∃ A6 c6, v6 = .slice A6 nL c6) ∧ ERow w6 wr.heap.size v6 es ∧ wr.heap.size ≤ w6.heap.size ∧ Below wr.heap.size wr w6 ∧ Blk w6 wr.heap.size 48 #[.string nm, .slice Av nL cv] ∧ Blk w6 w.heap.size 31 #[.int .i64 x.k, .string x.t, .string x.v]) := by
            refine Lib.hid fun v6 w6 hr6 hg6 => ?_
            have hb6 : Below w5.heap.size w5 w6 := ⟨hg6.os, hg6.tape, hg6.output, hg6.size, fun k hk => hg6.block k hk (by simp [Value.ownBlock])⟩
            rw [List.nil_append] at hr6
            obtain ⟨A6, c6, e6⟩ := hr6.shape
            rw [HN.out.2.2.2.2] at e6
            exact ⟨⟨A6, c6, e6⟩, hr6, Nat.le_trans HB5.out.1.size hb6.size, HB5.out.1.trans (hb6.mono HB5.out.1.size), HB5.out.2.1.below hb6 HB5.out.2.1.lt, HB5.out.2.2.1.below hb6 HB5.out.2.2.1.lt⟩
          clear x0 x1 x2 y0 y1 HSt3 hb5 hb5' hy5 hx5 hrow5 hb5w
          have H7 : Hid (∀ v6 w6 v7 w7, ERow w6 wr.heap.size v6 es → Below wr.heap.size wr w6 → Blk w6 wr.heap.size 48 #[.string nm, .slice Av nL cv] →
              w7.ownsRow wr.heap.size 31 3 v7 (nL + 1) (evcs es ++ [.int .i64 x.k, .string x.t, .string x.v]) → (w6.alloc (.cells #[.int .i64 x.k, .string x.t, .string x.v] 31)).grownBy w7 v6.ownBlock →
              ERow w7 wr.heap.size v7 (es ++ [x]) ∧ Below wr.heap.size wr w7 ∧ Blk w7 wr.heap.size 48 #[.string nm, .slice Av nL cv]) := by
            refine Lib.hid fun v6 w6 v7 w7 hr6 hb6 hy6 hown hg => ?_
            have hT : TS (fun k => wr.heap.size ≤ k) kE w6 w7 := (TS.alloc (TS.refl _ _ w6) _).trans (TS.of_row (World.ownsRow.alloc hr6 _) hg (fun g hg' => (World.ownsRow.lt hr6 g hg').1) (fun _ => rfl))
            refine ⟨?_, hb6.trans (hT.below hb6.size fun _ h => h), hy6.ts hT (.inr (by simp only [kE]; decide))⟩
            unfold ERow
            rw [evcs_snoc, List.length_append, List.length_singleton, HN.out.2.2.2.2]
            exact hown
          have h63b : nL + 1 ≤ maxLen := by have h9 := HN.out.2.2.2.2; simp only [maxLen]; omega
          have h40b : (nL + 1) * 40 ≤ 140737488355328 := by have h9 := HN.out.2.2.2.2; omega
          go_wp2_with (first
            | (at_builtin; refine wp_appE rfl _ _ rfl wr.heap.size (.slice none 0 0) (.slice Av nL cv) [] es rfl (ERow.nil _ _) rfl HE1.out h63a hbs5 ?_; intro v6 w6 hr6 hg6 hnb6; obtain ⟨⟨A6, c6, rfl⟩, hr6', hs6, hb6, hy6, hx6⟩ := H6.out _ w6 hr6 hg6; have x0 := hx6.cell 0; have x1 := hx6.cell 1; have x2 := hx6.cell 2; have hrr : w6.ownsRow wr.heap.size 31 3 (.slice A6 nL c6) nL (evcs es) := (by have h9 := hr6'; unfold ERow at h9; rw [HN.out.2.2.2.2] at h9; exact h9); have hss6 : wr.heap.size ≤ (w6.alloc (.cells #[.int .i64 x.k, .string x.t, .string x.v] 31)).heap.size := Nat.le_trans hs6 (by simp); have HR6 := Lib.hid (And.intro hr6' (And.intro hb6 hy6)); clear hr6 hg6 hnb6 H6 HE1 y0' y1' hr6' hb6 hy6 hx6)
            | (at_builtin; refine wp_appX rfl _ _ 37 rfl wr.heap.size 31 _ 3 40 Tryz.underlying37 Tryz.infoEv rfl (by decide) (.slice A6 nL c6) nL (evcs es) [.int .i64 x.k, .string x.t, .string x.v] rfl (by exact World.ownsRow.alloc hrr _) (by simp [Value.oneCell']) ⟨w6.heap.size, 0, none⟩ 1 1 rfl rfl (by exact cellsOf3 w6 _ _ _ _) h63b h40b hss6 ?_; intro v7 w7 hown7 hg7 _; obtain ⟨g7, c7, rfl⟩ := rowN_shape hown7 (Nat.succ_pos _); obtain ⟨hr7, hb7, hy7⟩ := H7.out _ w6 _ w7 HR6.out.1 HR6.out.2.1 HR6.out.2.2 hown7 hg7; have z1 : w7.cell? ⟨wr.heap.size, 1, none⟩ = some (.slice Av nL cv) := hy7.cell 1; have f1 := hy7.frozen 1; have l1 := hy7.lt; have HR7 := Lib.hid (And.intro hr7 (And.intro hb7 hy7)); clear hown7 hg7 hr7 hb7 hy7 H7 HR6 hrr x0 x1 x2))
          have hT8 : TS (fun k => wr.heap.size ≤ k) kK w7 (w7.setCell ⟨wr.heap.size, 1, none⟩ (.slice (some ⟨g7, 0, none⟩) (nL + 1) c7)) := (TS.refl _ _ _).set HR7.out.2.2 (Nat.le_refl _) (show kK (.cells _ _ _) from rfl) 1 _
          have hb8 : Below wr.heap.size wr (w7.setCell ⟨wr.heap.size, 1, none⟩ (.slice (some ⟨g7, 0, none⟩) (nL + 1) c7)) := HR7.out.2.1.trans (hT8.below HR7.out.2.1.size fun _ h => h)
          have hy8 : Blk (w7.setCell ⟨wr.heap.size, 1, none⟩ (.slice (some ⟨g7, 0, none⟩) (nL + 1) c7)) wr.heap.size 48 #[.string nm, .slice (some ⟨g7, 0, none⟩) (nL + 1) c7] := HR7.out.2.2.set_ 1 _
          have hr8 : ERow (w7.setCell ⟨wr.heap.size, 1, none⟩ (.slice (some ⟨g7, 0, none⟩) (nL + 1) c7)) 0 (.slice (some ⟨g7, 0, none⟩) (nL + 1) c7) (es ++ [x]) := erow_low (row_ts HR7.out.1 hT8 (.inr fun _ _ => by simp only [kK]; decide))
          have hg8 : ∀ g, (Value.slice (some ⟨g7, 0, none⟩) (nL + 1) c7).ownBlock = some g → Up T w g := fun g hg => .inr (Nat.le_trans hbr.out.size (World.ownsRow.lt HR7.out.1 g hg).1)
          generalize w7.setCell ⟨wr.heap.size, 1, none⟩ (.slice (some ⟨g7, 0, none⟩) (nL + 1) c7) = w8 at *
          generalize (some ⟨g7, 0, none⟩ : Option Addr) = A8 at *
          generalize nL + 1 = n8 at *
          have y0 : w8.cell? ⟨wr.heap.size, 0, none⟩ = some (.string nm) := hy8.cell 0
          have y1 : w8.cell? ⟨wr.heap.size, 1, none⟩ = some (.slice A8 n8 c7) := hy8.cell 1
          have hr3 := HIN.out.rep.below hb8
          have m0 : w8.cell? ⟨w.heap.size + 1, 0, none⟩ = some (.slice A' n' c') := hr3.blk.cell 0
          have hrow3 : (w8.drew).ownsRow 0 48 2 (.slice A' n' c') n' (kpcs K') := by
            have h5 := hr3.row
            unfold RRow at h5
            rw [HN'.out] at h5
            exact h5
          have m0a : (w8.alloc (.cells #[.string nm, .slice A8 n8 c7] 48)).cell? ⟨w.heap.size + 1, 0, none⟩ = some (.slice A' n' c') := (hr3.blk.alloc _).cell 0
          have H : Hid (∀ v4 w4, w4.ownsRow 0 48 2 v4 (n' + 1) (kpcs K' ++ [.string nm, .slice A8 n8 c7]) → ((w8.drew).alloc (.cells #[.string nm, .slice A8 n8 c7] 48)).grownBy w4 (Value.slice A' n' c').ownBlock → NB ((w8.drew).alloc (.cells #[.string nm, .slice A8 n8 c7] 48)) (.slice A' n' c') v4 →
              w4.cell? ⟨w.heap.size + 1, 0, none⟩ = some (.slice A' n' c') ∧ w4.frozen? ⟨w.heap.size + 1, 0, none⟩ = false ∧ w.heap.size + 1 < w4.heap.size ∧ (∃ kv2 K2, RIn w T w.heap.size (w.heap.size + 1) x s.told K kv2 K2 (i + 1) (w4.setCell ⟨w.heap.size + 1, 0, none⟩ v4))) := by
            refine Lib.hid fun v4 w4 hown hg hnb => ?_
            obtain ⟨q1, q2, q3, q4, q5⟩ := HN.out
            rw [← HN'.out, ← q1] at hown
            obtain ⟨hB4, hI4⟩ := HIN.out.next hlt (below_drew hb8) ⟨K[i].nm, es ++ [x], .slice A8 n8 c7⟩ (hr8.below (below_drew (Below.refl _ _))) (by unfold pushA Kp.ent; simp only; rw [q3, if_neg (by rw [HKn.out]; decide)]) hg8 (fun _ => by rw [q3]; exact HE.out) hown hg hnb
            exact ⟨hB4.cell 0, hB4.frozen 0, hB4.lt, _, _, hI4⟩
          have hs8 : wr.heap.size < w8.heap.size := hy8.lt
          clear hy8 hr3 hT8 hb8 hr8 hg8 HR7 z1 f1 l1
          go_wp2
          go_region_law ((refine step_appX (by rfl) (.tmp 58) (.tmp 60) 26 (by rfl) 0 48 _ 2 40 Tryz.underlying26 Tryz.infoKp (by rfl) (by decide) (.slice A' n' c') n' (kpcs K') [.string nm, .slice A8 n8 c7] (by rfl) (by exact World.ownsRow.alloc hrow3 _) (by simp [Value.oneCell']) ⟨w8.heap.size, 0, none⟩ 1 1 (by rfl) (by rfl) (by exact cellsOf2 w8.drew _ _ _) h63 h40 (Nat.zero_le _) ?_; intro v4 w4 hown4 hg4 hnb4; obtain ⟨g4, c4, rfl⟩ := rowN_shape hown4 (Nat.succ_pos _); obtain ⟨e0, f0, l0, hI4⟩ := H.out _ w4 hown4 hg4 hnb4; have HI4 := Lib.hid hI4; clear hI4 hown4 hg4 hnb4))
          all_goals
            clear e0 f0 l0 hrow3 m0a m0 y0 y1 H
            go_wp2
            go_roundw
            case rel => exact ⟨i + 1, hlt, by go_num, HI4⟩
            case measure => first | (simp [intOf]; done) | (simp [intOf]; omega)
end Go.Proofs.YtkghdieakpipkaaGreatDoor
namespace Go.Proofs.YtkghdieakpipkaaGreatDoor
open Go.RowKit Go.ChangeShapes Go.WideShapes Go.Deep
set_option maxRecDepth 100000

theorem own : ownKnob Tryz.prog.godebug = none := by kernel_rfl
theorem laidOut : laidOutB Tryz.prog = true := by kernel_rfl
def laidL : List (String × DataW Unit) := Rows.anchorsRoomRow.laid
theorem laidL_eq : laidL = [("math/bits.deBruijn32tab", Rows.laid_math_bits_deBruijn32tab), ("math/bits.deBruijn64tab", Rows.laid_math_bits_deBruijn64tab), ("internal/strconv.uint64pow10", Rows.laid_internal_strconv_uint64pow10), ("unicode/utf8.acceptRanges", Rows.laid_unicode_utf8_acceptRanges), ("strconv.ErrRange", Rows.laid_strconv_ErrRange), ("strconv.ErrSyntax", Rows.laid_strconv_ErrSyntax), ("unicode/utf8.first", Rows.laid_unicode_utf8_first)] := rfl

theorem laid_met (os : Os) (args : Array Value) : laidMetH Tryz.prog laidL ((World.laidAll Tryz.prog os laidL).forCall (fun _ _ => 0) ⟨#[], args, []⟩).memory := by
  rw [MakeChecks.laidMetH_plain _ _ _ (by kernel_rfl)]
  exact laidMet_laidAll _ (by kernel_rfl) (by kernel_rfl)
theorem shapedW (os : Os) (args : Array Value) : ((World.laidAll Tryz.prog os laidL).forCall (fun _ _ => 0) ⟨#[], args, []⟩).Shaped Tryz.prog :=
  World.shaped_of_ZipB (by kernel_rfl) (by kernel_rfl)

theorem pow_data : (Rows.laid_internal_strconv_uint64pow10 : DataW Unit) = Lib.tabData .u64 Lib.pow10Tab := by kernel_rfl
theorem tPow : (Tryz.prog.globals[5]?).map (·.type) = some 194 := by kernel_rfl
theorem tRange : (Tryz.prog.globals[2]?).map (·.type) = some 162 := by kernel_rfl
theorem star : "*" ++ "errors.errorString" = "*errors.errorString" := by decide
theorem row_err (u : TypeId) (h : Tryz.prog.typeName? 3 u = some "*errors.errorString") : u = 197 :=
  typeName_ptr_named (nm := "errors.errorString") (by rw [star]; kernel_rfl) (by kernel_rfl) (by decide) u (by rw [star]; exact h)
theorem std_of {W : World} (hL : laidMetH Tryz.prog laidL W) (hsh : W.ShapedOpen Tryz.prog) : Nm.StdW W := by
  rw [MakeChecks.laidMetH_plain _ _ _ (by kernel_rfl), laidL_eq] at hL
  refine ⟨Tryz.laysM145.s1_3 W hsh, ?_, ?_⟩
  · have h5 := hL.tail.tail.tail.tail
    unfold Rows.laid_strconv_ErrRange at h5
    obtain ⟨a, s, h, _⟩ := laid_sentinel h5 Nm.gRange tRange Tryz.underlying162 row_err Tryz.underlying197 Tryz.underlying199 rfl rfl Tryz.underlying9 (by kernel_rfl) (by kernel_rfl)
    exact ⟨_, _, h⟩
  · have h3 := hL.tail.tail
    rw [pow_data] at h3
    exact Lib.tabIs_of_head Nm.gPow tPow Tryz.underlying194 Tryz.underlying101 (by kernel_rfl) (by kernel_rfl) h3


end Go.Proofs.YtkghdieakpipkaaGreatDoor

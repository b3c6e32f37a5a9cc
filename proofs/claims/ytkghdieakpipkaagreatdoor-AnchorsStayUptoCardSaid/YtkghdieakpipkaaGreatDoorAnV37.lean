/-
  The reference's Is (hexaplaref05); the walk of AnchorsKeeps.
  The reference's Anchors: Get.
  The reference's Anchors: what a round of Step holds.
-/
import Derived.Test.YtkghdieakpipkaaGreatDoorAnV32
import Derived.Test.YtkghdieakpipkaaGreatDoorAnV33
import Derived.Test.YtkghdieakpipkaaGreatDoorAnV36
import Derived.Test.YtkghdieakpipkaaGreatDoorAnV18
import Derived.Deep.Upon
namespace Go.Proofs.YtkghdieakpipkaaGreatDoor
open Go.RowKit Go.Maps
set_option maxRecDepth 100000
set_option linter.unusedSimpArgs false
set_option linter.unusedVariables false

theorem eis_any (w : World) (v : Value) (xs : List Ev) (hv : ERead w v xs) (hx : ∀ x ∈ xs, x.t.size ≤ 1099511627776 ∧ x.v.size ≤ 1099511627776) (hn : xs.length ≤ 100000) :
    Calls Tryz.prog 13 #[v] w fun e w' => e = .returned (.bool (decide (wholeE xs = 0))) ∧ Below w.heap.size w w' := by
  have h := rwhole_any w v xs hv hx hn
  have h' : Calls Tryz.prog 22 #[v] w fun e w' => e = .returned (.tuple #[.int .i64 (wholeN xs), .int .i64 (wholeE xs)]) ∧ Below w.heap.size w w' := h
  have H := Lib.hid h'
  obtain ⟨A, c, rfl, _⟩ := hv
  clear hx hn h h'
  generalize wholeE xs = E at *
  generalize wholeN xs = N at *
  by_cases h0 : E = 0
  · subst h0
    go_enter Tryz.func13, Tryz.ntmps13
    go_wp2_with fail
    refine H.out.mono ?_
    rintro e w1 ⟨rfl, hb⟩
    have HB := Lib.hid hb
    clear hb H
    go_wp2
    go_ret
    exact ⟨rfl, HB.out⟩
  · have z1 := eq_ibeq h0
    rw [decide_eq_false h0]
    clear h0
    go_enter Tryz.func13, Tryz.ntmps13
    go_wp2_with fail
    refine H.out.mono ?_
    rintro e w1 ⟨rfl, hb⟩
    have HB := Lib.hid hb
    clear hb H
    go_wp2
    go_ret
    exact ⟨rfl, HB.out⟩

theorem esame_self (w : World) (va vb : Value) (xs : List Ev) (ha : ERead w va xs) (hb : ERead w vb xs) :
    Calls Tryz.prog 18 #[va, vb] w fun e w' => e = .returned (.bool true) ∧ Below w.heap.size w w' := by
  have h := esame_any w va vb xs xs ha hb
  rw [decide_eq_true (rfl : xs = xs)] at h
  exact h

/-! One name, one value: pure. -/
def oneA (n : List UInt8) (l : List Ev) (t : Nat) : Am := ⟨[(n, l)], t⟩
theorem open_one {n : List UInt8} (h : openE ⟨[], 0⟩ n = 0) : openM ⟨[], 0⟩ n = oneA n [] 0 := by
  unfold openM
  rw [if_pos h]
  rfl
theorem allOk_take {l : List Ev} (h : allOk [topP] l) {k : Nat} (hk : k < l.length) : allOk [topP] (l.take k) ∧ stepE (runS [topP] (l.take k)) l[k] = 0 := by
  have key : ∀ (a b : List Ev) (x : Ev) (st : List Pt), allOk st (a ++ x :: b) → allOk st a ∧ stepE (runS st a) x = 0 := by
    intro a
    induction a with
    | nil => intro b x st h; exact ⟨trivial, h.1⟩
    | cons y a ih => intro b x st h; exact ⟨⟨h.1, (ih b x _ h.2).1⟩, (ih b x _ h.2).2⟩
  refine key _ (l.drop (k + 1)) _ _ ?_
  rw [← List.drop_eq_getElem_cons hk, List.take_append_drop]
  exact h
theorem take_open {l : List Ev} (h : wholeE l = 0) {k : Nat} (hk : k < l.length) : knownB (l.take k) = false := by
  have h1 := allOk_take (whole_ok h).1 hk
  unfold knownB
  rw [Bool.eq_false_iff]
  intro hd
  rw [done_stop hd (good_run good_start _)] at h1
  exact absurd h1.2 (by decide)
theorem one_step {n : List UInt8} {l : List Ev} (h : wholeE l = 0) {k : Nat} (hk : k < l.length) :
    (stepAE (oneA n (l.take k) 0) l[k] = 12 ∨ stepAE (oneA n (l.take k) 0) l[k] = 0) ∧ (stepAE (oneA n (l.take k) 0) l[k] = 0 → stepAM (oneA n (l.take k) 0) l[k] = oneA n (l.take (k + 1)) 0) := by
  have h1 := allOk_take (whole_ok h).1 hk
  have h2 := take_open h hk
  have ht : takesA (oneA n (l.take k) 0).m l[k] = true := by
    unfold takesA pend oneA
    simp [h2, h1.2]
  constructor
  · unfold stepAE
    rw [if_neg (by rw [ht]; decide)]
    split
    · exact .inl rfl
    · exact .inr rfl
  · intro h0
    unfold stepAM
    rw [if_pos h0]
    unfold oneA pushA
    simp [h2]
theorem one_get {n : List UInt8} {l : List Ev} (h : wholeE l = 0) (t : Nat) :
    (40 < t + l.length → getE (oneA n l t) n = 13 ∧ getL (oneA n l t) n = [] ∧ getM (oneA n l t) n = oneA n l t) ∧
    (t + l.length ≤ 40 → getE (oneA n l t) n = 0 ∧ getL (oneA n l t) n = l ∧ getM (oneA n l t) n = oneA n l (t + l.length)) := by
  have hk : knownB l = true := (whole_ok h).2
  have hl : lookA n (oneA n l t).m = some l := by unfold oneA lookA; simp
  have e : getE (oneA n l t) n = if 40 < t + l.length then 13 else 0 := by
    unfold getE
    rw [hl]
    simp only [hk]
    rfl
  constructor
  · intro hc
    rw [if_pos hc] at e
    have e1 : getL (oneA n l t) n = [] := by unfold getL; rw [if_neg (by rw [e]; decide)]
    exact ⟨e, e1, by unfold getM; rw [if_neg (by rw [e]; decide)]⟩
  · intro hc
    rw [if_neg (by omega)] at e
    have e1 : getL (oneA n l t) n = l := by unfold getL; rw [if_pos e, hl]; rfl
    refine ⟨e, e1, ?_⟩
    unfold getM
    rw [if_pos e, e1]
    rfl
def pickN (c : Int) (n : Int) : Int := if c < 0 then (-(c + 1)) % n else c % n
theorem pickN_range (c : Int) (n : Int) (hn : 0 < n) : 0 ≤ pickN c n ∧ pickN c n < n := by
  unfold pickN
  split
  · exact ⟨Int.emod_nonneg _ (by omega), Int.emod_lt_of_pos _ hn⟩
  · exact ⟨Int.emod_nonneg _ (by omega), Int.emod_lt_of_pos _ hn⟩
theorem pick50_any (c : Int) (w : World) (h0 : -9223372036854775808 ≤ c) (h1 : c ≤ 9223372036854775807) :
    Calls Tryz.prog 16 #[.int .i64 c, .int .i64 50] w fun e w' => e = .returned (.int .i64 (pickN c 50)) ∧ w = w' := by
  unfold pickN
  by_cases hc : c < 0
  · rw [if_pos hc]
    have e1 : IntKind.i64.wrap (-(c + 1)) = -(c + 1) := IntWalk.i64_in _ (by omega)
    have e2 : (0 : Int) ≤ -(c + 1) := by omega
    have e3 : (-(c + 1)).tmod 50 = -(c + 1) % 50 := Int.tmod_eq_emod_of_nonneg e2
    go_enter Tryz.func16, Tryz.ntmps16
    go_wp2
    go_ret
    exact ⟨rfl, rfl⟩
  · rw [if_neg hc]
    have e2 : 0 ≤ c := by omega
    have e3 : c.tmod 50 = c % 50 := Int.tmod_eq_emod_of_nonneg e2
    go_enter Tryz.func16, Tryz.ntmps16
    go_wp2
    go_ret
    exact ⟨rfl, rfl⟩
end Go.Proofs.YtkghdieakpipkaaGreatDoor
namespace Go.Proofs.YtkghdieakpipkaaGreatDoor
open Go.RowKit Go.Maps
set_option maxRecDepth 100000
set_option linter.unusedSimpArgs false
set_option linter.unusedVariables false

theorem is_known {l : List Ev} (h : allOk [topP] l) : decide (wholeE l = 0) = knownB l := by
  have h1 := whole_of h
  unfold wholeE
  rw [h1]
  unfold knownB
  cases doneB (runS [topP] l) <;> rfl
theorem look_first {K : List Kp} {n : List UInt8} {i : Nat} (hi : i < K.length) (hT : ∀ k ∈ K.take i, k.nm ≠ n) (he : K[i].nm = n) : lookA n (K.map Kp.ent) = some K[i].evs := by
  induction K generalizing i with
  | nil => exact absurd hi (by simp)
  | cons q K ih =>
    rw [List.map_cons]
    unfold lookA
    cases i with
    | zero =>
      have he' : (q.ent).1 = n := he
      rw [if_pos he']
      rfl
    | succ i =>
      have h1 : q.nm ≠ n := hT q (by simp)
      have h2 : ¬ (q.ent).1 = n := h1
      rw [if_neg h2]
      exact ih (by simpa using hi) (fun k hk => hT k (by simp [hk])) he
theorem look_none {K : List Kp} {n : List UInt8} (hT : ∀ k ∈ K, k.nm ≠ n) : lookA n (K.map Kp.ent) = none := by
  induction K with
  | nil => rfl
  | cons q K ih =>
    rw [List.map_cons]
    unfold lookA
    have h2 : ¬ (q.ent).1 = n := hT q (by simp)
    rw [if_neg h2]
    exact ih fun k hk => hT k (by simp [hk])
theorem RRep.below {w w' : World} {r : Nat} {kv : Value} {K : List Kp} {t : Nat} (h : RRep w r kv K t) (hb : Below w.heap.size w w') : RRep w' r kv K t :=
  ⟨h.blk.below hb h.blk.lt, row_ts h.row (TS.of_below hb (S := fun _ => False) (p := anyO)) (.inl fun _ _ h => h), fun k hk => row_ts (h.evs k hk) (TS.of_below hb (S := fun _ => False) (p := anyO)) (.inl fun _ _ h => h)⟩
theorem RRep.setTold {w : World} {U : Nat → Prop} {r : Nat} {kv : Value} {K : List Kp} {t : Nat} (h : RRep w r kv K t) (hr : U r) (t' : Nat) :
    RRep (w.setCell ⟨r, 1, none⟩ (.int .i64 (t' : Int))) r kv K t' ∧ TS U kR w (w.setCell ⟨r, 1, none⟩ (.int .i64 (t' : Int))) := by
  have ht : TS U kR w (w.setCell ⟨r, 1, none⟩ (.int .i64 (t' : Int))) := (TS.refl _ _ _).set h.blk hr (show kR (.cells _ _ _) from rfl) 1 _
  exact ⟨⟨h.blk.set_ 1 _, row_ts h.row ht (.inr fun _ _ => by simp only [kR]; decide), fun k hk => row_ts (h.evs k hk) ht (.inr fun _ _ => by simp only [kR]; decide)⟩, ht⟩
/-- What an entry of few bytes is: sizes. -/
theorem ent_small {m : List AEnt} {r : AEnt} (h : r ∈ m) {z : Nat} (hz : sizeA m ≤ z) : r.1.length ≤ z ∧ r.2.length ≤ z ∧ ∀ x ∈ r.2, x.t.size ≤ z ∧ x.v.size ≤ z := by
  have h1 := entSz_le h
  unfold entSz at h1
  have h2 := evsSz_len r.2
  refine ⟨by omega, by omega, fun x hx => ?_⟩
  have h3 := evSz_le hx
  unfold evSz at h3
  omega

def GetPo (w : World) (T : Nat → Prop) (r : Nat) (s : Am) (n : ByteArray) (e : Ending) (w' : World) : Prop :=
  ∃ lv, e = .returned (.tuple #[lv, .int .i64 (getE s n.data.toList)]) ∧ ERow w' 0 lv (getL s n.data.toList) ∧ (∀ g, lv.ownBlock = some g → T g) ∧ RAt w' T r (getM s n.data.toList) ∧ TS T anyO w w'
set_option maxHeartbeats 4000000 in
theorem rget_any (w : World) (T : Nat → Prop) (r : Nat) (s : Am) (n : ByteArray) (h : RAt w T r s) (hI : AInv s) (hn : n.size ≤ 140737488355328) :
    Calls Tryz.prog 21 #[.pointer (some ⟨r, 0, none⟩), .string n] w (GetPo w T r s n) := by
  have hsame : ∀ w' E, getE s n.data.toList = E → E ≠ 0 → Below w.heap.size w w' → GetPo w T r s n (.returned (.tuple #[.slice none 0 0, .int .i64 E])) w' := by
    intro w' E hE h0 hb
    refine ⟨.slice none 0 0, by rw [hE], ?_, fun g hg => (by cases hg), ?_, TS.of_below hb⟩
    · unfold getL; rw [if_neg (by rw [hE]; exact h0)]; exact ERow.nil _ _
    · unfold getM; rw [if_neg (by rw [hE]; exact h0)]; exact h.below hb
  have HS := Lib.hid hsame
  clear hsame
  obtain ⟨hlT, kv, K, hR, hK, h1, h2, h3⟩ := h
  have hsz : sizeA (K.map Kp.ent) ≤ 200 := by rw [hK]; exact hI.sz
  obtain ⟨A, c, hkv, hlc, hcm, hr⟩ := hR.row.form
  subst hkv
  have hcm2 : c ≤ 9223372036854775807 := by simpa [maxLen] using hcm
  have c0 : w.cell? ⟨r, 0, none⟩ = some (.slice A K.length c) := hR.blk.cell 0
  have c1 : w.cell? ⟨r, 1, none⟩ = some (.int .i64 (s.told : Int)) := hR.blk.cell 1
  have HR := Lib.hid (And.intro hR (And.intro hK (And.intro h1 (And.intro h2 (And.intro h3 hlT)))))
  have HI := Lib.hid hI
  have HZ := Lib.hid hsz
  clear hR hK h1 h2 h3 hlT hcm hI hsz
  go_enter Tryz.func21, Tryz.ntmps21
  go_wp2
  go_loopw [6] (fun u6 wr => ∃ i m : Nat, i ≤ K.length ∧ u6 = .int .i64 (i : Int) ∧ Hid (∀ k ∈ K.take i, k.nm ≠ n.data.toList) ∧ wr = w.drewN m) (fun u6 _ => K.length - (intOf u6).toNat)
  case atStart => exact ⟨0, 0, Nat.zero_le _, rfl, Lib.hid (by simp), rfl⟩
  case round =>
    obtain ⟨i, m, hi, rfl, HT, rfl⟩ := hrel
    by_cases hlt : i < K.length
    case neg =>
      have hie : i = K.length := by omega
      subst hie
      have hT := HT.out
      rw [List.take_of_length_le (Nat.le_refl _)] at hT
      have hE : getE s n.data.toList = 11 := by unfold getE; rw [← HR.out.2.1, look_none hT]
      have HE := Lib.hid hE
      clear hr hlt hi hT HT hE
      go_wp2
      go_ret2
      exact HS.out _ _ HE.out (by decide) (below_drewN (Below.refl _ _) m)
    case pos =>
      obtain ⟨b, o, rfl, hc⟩ := hr (by omega)
      obtain ⟨g0, g1⟩ := hc i hlt
      have hlti : (i : Int) < K.length := by omega
      by_cases he : K[i].nm = n.data.toList
      case neg =>
        have HT2 : Hid (∀ k ∈ K.take (i + 1), k.nm ≠ n.data.toList) := Lib.hid (by
          intro k hk
          rw [List.take_succ_eq_append_getElem hlt, List.mem_append] at hk
          rcases hk with hk | hk
          · exact HT.out k hk
          · rw [List.mem_singleton] at hk
            subst hk
            exact he)
        obtain ⟨n1, n2⟩ := str_neq he
        have n1' : ((⟨K[i].nm.toArray⟩ : ByteArray).toList == n.toList) = false := n1
        have n2' : ¬ (⟨K[i].nm.toArray⟩ : ByteArray).toList = n.toList := n2
        unfold strV at g0
        clear n1 n2 he hc hr HT g1
        generalize (⟨K[i].nm.toArray⟩ : ByteArray) = sb at *
        go_wp2
        go_roundw
        case rel => exact ⟨i + 1, m, hlt, by go_num, HT2, rfl⟩
        case measure => first | (simp [intOf]; done) | (simp [intOf]; omega)
      case pos =>
        have hla : lookA n.data.toList s.m = some K[i].evs := by rw [← HR.out.2.1]; exact look_first hlt HT.out he
        unfold strV at g0
        rw [he] at g0
        have g0' : w.cell? ⟨b, o + i * 2, none⟩ = some (.string n) := g0
        have hmem : K[i] ∈ K := List.getElem_mem hlt
        have hment : (K[i].nm, K[i].evs) ∈ K.map Kp.ent := List.mem_map.2 ⟨_, hmem, rfl⟩
        obtain ⟨_, s2', s3⟩ := ent_small hment HZ.out
        have s2 : K[i].evs.length ≤ 200 := s2'
        have hok := (HI.out.ok _ (by rw [← HR.out.2.1]; exact hment)).1
        have hrow := HR.out.1.evs _ hmem
        have hTk := HR.out.2.2.2.2.1 _ hmem
        have hIs := eis_any (w.drewN m) K[i].lv K[i].evs (hrow.below (below_drewN (Below.refl _ _) m)).read (fun x hx => ⟨by have := (s3 x hx).1; omega, by have := (s3 x hx).2; omega⟩) (by omega)
        rw [is_known hok] at hIs
        have HIs := Lib.hid hIs
        obtain ⟨Av, cv, hlv⟩ := hrow.shape
        have hL : getL s n.data.toList = if getE s n.data.toList = 0 then K[i].evs else [] := by unfold getL; rw [hla]; rfl
        have hgE : getE s n.data.toList = if knownB K[i].evs = false then 11 else if 40 < s.told + K[i].evs.length then 13 else 0 := by unfold getE; rw [hla]
        have HL := Lib.hid hL
        have HRow := Lib.hid (And.intro hrow hTk)
        clear hla hment s3 hok hrow hTk hIs hL g0 hc hr HT he hmem
        obtain ⟨lv, hlvq⟩ : ∃ lv, K[i].lv = lv := ⟨_, rfl⟩
        have HLv := Lib.hid hlvq
        rw [hlvq] at g1 hlv HRow HIs
        clear hlvq
        generalize K[i].evs = es at *
        have hti := HI.out.told
        obtain ⟨t, ht⟩ : ∃ t, s.told = t := ⟨_, rfl⟩
        have HTt := Lib.hid ht
        rw [ht] at c1 hgE hti
        obtain ⟨nL, hnL⟩ : ∃ nL, es.length = nL := ⟨_, rfl⟩
        have HnL := Lib.hid hnL
        rw [hnL] at hlv hgE s2
        rw [hlv] at g1 HRow HIs HLv
        clear ht hnL s2' hlv
        cases hkn : knownB es with
        | false =>
          rw [hkn] at HIs
          rw [if_pos hkn] at hgE
          have HE := Lib.hid hgE
          clear hgE hkn HRow HL HTt HnL c1
          go_wp2_with (first
            | (go_at_call 13; refine HIs.out.mono ?_; rintro e w2 ⟨rfl, hb2⟩; have HB2 := Lib.hid hb2; clear hb2 HIs))
          go_ret2
          exact HS.out _ _ HE.out (by decide) ((below_drewN (Below.refl w.heap.size w) m).trans HB2.out)
        | true =>
          rw [hkn] at HIs
          rw [if_neg (by rw [hkn]; decide)] at hgE
          have hw1 : wrap64 ((t : Int) + (nL : Int)) = (t : Int) + nL := by rw [IntWalk.wrap64_in _ (by omega)]
          by_cases h40 : 40 < t + nL
          · rw [if_pos h40] at hgE
            have HE := Lib.hid hgE
            have z : decide ((40 : Int) < (t : Int) + (nL : Int)) = true := by rw [decide_eq_true_iff]; omega
            clear hgE hkn HRow HL HTt HnL h40
            go_wp2_with (first
              | (go_at_call 13; refine HIs.out.mono ?_; rintro e w2 ⟨rfl, hb2⟩; have b0 := (hb2.cell (cell_lt (p := ⟨r, 0, none⟩) c0)).trans c0; have b1 := (hb2.cell (cell_lt (p := ⟨r, 1, none⟩) c1)).trans c1; have k1 := (hb2.cell (cell_lt (p := ⟨b, o + i * 2 + 1, none⟩) g1)).trans g1; have HB2 := Lib.hid hb2; clear hb2 HIs c0 c1 g0' g1))
            go_quiet (fail)
            go_wp2
            go_ret2
            exact HS.out _ _ HE.out (by decide) ((below_drewN (Below.refl w.heap.size w) m).trans (below_drewN HB2.out nq))
          · rw [if_neg h40] at hgE
            have HE := Lib.hid hgE
            have z : decide ((40 : Int) < (t : Int) + (nL : Int)) = false := by rw [decide_eq_false_iff_not]; omega
            clear hgE hkn h40
            go_wp2_with (first
              | (go_at_call 13; refine HIs.out.mono ?_; rintro e w2 ⟨rfl, hb2⟩; have b0 := (hb2.cell (cell_lt (p := ⟨r, 0, none⟩) c0)).trans c0; have b1 := (hb2.cell (cell_lt (p := ⟨r, 1, none⟩) c1)).trans c1; have k1 := (hb2.cell (cell_lt (p := ⟨b, o + i * 2 + 1, none⟩) g1)).trans g1; have hR2 := HR.out.1.below (Below.trans (below_drewN (Below.refl w.heap.size w) m) hb2); have f1 := hR2.blk.frozen 1; have l1 := hR2.blk.lt; have HB2 := Lib.hid hb2; clear hb2 hR2 HIs c0 c1 g0' g1))
            go_quiet (fail)
            go_wp2
            go_region
            have hwt : (t : Int) + (nL : Int) = ((t + nL : Nat) : Int) := by omega
            rw [hwt]
            have hb2 : Below w.heap.size w (w2.drewN (nq + 1)) := below_drewN (Below.trans (below_drewN (Below.refl w.heap.size w) m) HB2.out) (nq + 1)
            obtain ⟨hR3, hT3⟩ := (HR.out.1.below hb2).setTold (U := T) HR.out.2.2.1 (t + nL)
            have hrow3 : ERow ((w2.drewN (nq + 1)).setCell ⟨r, 1, none⟩ (.int .i64 ((t + nL : Nat) : Int))) 0 (.slice Av nL cv) es := row_ts (HRow.out.1.below hb2) hT3 (.inr fun _ _ => by simp only [kR]; decide)
            have d0 : ((w2.drewN (nq + 1)).setCell ⟨r, 1, none⟩ (.int .i64 ((t + nL : Nat) : Int))).cell? ⟨r, 0, none⟩ = some (.slice (some ⟨b, o, none⟩) K.length c) := hR3.blk.cell 0
            obtain ⟨A9, c9, hv9, _, _, hr9⟩ := hR3.row.form
            injection hv9 with e1 _ _
            subst e1
            obtain ⟨b9, o9, e9, hc9⟩ := hr9 (by omega)
            injection e9 with e9
            injection e9 with e91 e92 _
            subst e91 e92
            obtain ⟨_, d1⟩ := hc9 i hlt
            rw [HLv.out] at d1
            have HF := Lib.hid (And.intro hR3 (And.intro hrow3 ((TS.of_below (S := T) (p := anyO) hb2).trans hT3.any)))
            clear hr9 hc9 hR3 hT3 hrow3 hb2 b0 b1 k1 f1 l1 hwt hw1
            generalize (w2.drewN (nq + 1)).setCell ⟨r, 1, none⟩ (.int .i64 ((t + nL : Nat) : Int)) = w3 at *
            go_wp2
            go_ret2
            refine ⟨.slice Av nL cv, ?_, ?_, HRow.out.2, ?_, HF.out.2.2⟩
            · rw [HE.out]; rfl
            · rw [HL.out, if_pos HE.out]; exact HF.out.2.1
            · have e : getM s n.data.toList = { s with told := t + nL } := by
                unfold getM
                rw [if_pos HE.out, HL.out, if_pos HE.out, HTt.out, HnL.out]
              rw [e]
              obtain ⟨_, hK, q1, q2, q3, q4⟩ := HR.out
              exact ⟨fun k hk => Nat.lt_of_lt_of_le (q4 k hk) HF.out.2.2.size, _, K, HF.out.1, hK, q1, q2, q3⟩
end Go.Proofs.YtkghdieakpipkaaGreatDoor
namespace Go.Proofs.YtkghdieakpipkaaGreatDoor
open Go.RowKit Go.Maps
set_option maxRecDepth 100000
set_option linter.unusedSimpArgs false
set_option linter.unusedVariables false

section
variable {w : World}
theorem addr_addN2 (b o n : Nat) : (⟨b, o, none⟩ : Addr).add n = ⟨b, o + n, none⟩ := by unfold Addr.add; split <;> simp_all
theorem src_none2 (P : Program) (size : Nat) (tx e : TypeId) (ht : P.underlying tx = some (.slice e)) (c : Nat) : Src P size tx (.slice none 0 c) 0 [] w :=
  ⟨.inl ⟨e, ht⟩, fun w' => by simp [Builtin.lenOf], by simp [Builtin.firstCells], by simp [Builtin.firstCells], by simp, by simp⟩
theorem evcs_one (l : List Ev) : ∀ u ∈ evcs l, u.oneCell' = true := by
  intro u hu
  unfold evcs at hu
  obtain ⟨x, _, hx⟩ := List.mem_flatMap.1 hu
  unfold evc at hx
  simp at hx
  rcases hx with rfl | rfl | rfl <;> rfl
theorem evcs_at {A : Addr} {l : List Ev} {b o : Nat} (hA : A = ⟨b, o, none⟩) (h : ∀ j (h : j < l.length), w.cell? ⟨b, o + j * 3, none⟩ = some (.int .i64 l[j].k) ∧ w.cell? ⟨b, o + j * 3 + 1, none⟩ = some (.string l[j].t) ∧ w.cell? ⟨b, o + j * 3 + 2, none⟩ = some (.string l[j].v)) :
    ∀ j u, (evcs l)[j]? = some u → w.cell? (A.add j) = some u := by
  intro j u hj
  subst hA
  have hl : j < l.length * 3 := by have := (List.getElem?_eq_some_iff.1 hj).1; rw [evcs_len] at this; exact this
  have hd : j / 3 < l.length := by omega
  have he : j = j / 3 * 3 + j % 3 := by omega
  obtain ⟨h0, h1, h2⟩ := h (j / 3) hd
  rw [he, evcs_get l (j / 3) hd (j % 3) (by omega)] at hj
  have hadd : (⟨b, o, none⟩ : Addr).add j = ⟨b, o + j / 3 * 3 + j % 3, none⟩ := by
    rw [addr_addN2]
    congr 1
    omega
  rw [hadd]
  have h3 : j % 3 = 0 ∨ j % 3 = 1 ∨ j % 3 = 2 := by omega
  rcases h3 with h3 | h3 | h3
  · rw [h3] at hj ⊢; simp [evc] at hj; rw [← hj]; exact h0
  · rw [h3] at hj ⊢; simp [evc] at hj; rw [← hj]; exact h1
  · rw [h3] at hj ⊢; simp [evc] at hj; rw [← hj]; exact h2
/-- Events appended that can be read. -/
theorem wp_appE {ops : Array Oper} {rest : List Oper} {o : Oper} {a : Act} {Q : Exit → Act → World → Prop} (hgd : o.guard = none) (s x : Operand)
    (ho : o.op = .call { callee := .builtin .append, args := #[s, x], argTypes := #[37, 37] })
    (base : Nat) (v vx : Value) (l es : List Ev) (hs : a.eval s = v) (hown : ERow w base v l) (hx : a.eval x = vx) (hr : ERead w vx es)
    (h63 : l.length + es.length ≤ 1000000) (hbase : base ≤ w.heap.size)
    (h : ∀ v' w', ERow w' base v' (l ++ es) → w.grownBy w' v.ownBlock → NB w v v' → wpList Tryz.prog ops Q rest (a.put o.dst v') w') :
    wpList Tryz.prog ops Q (o :: rest) a w := by
  obtain ⟨A, c, rfl, hlc, hcm, hc⟩ := hr
  have key : ∀ ad : Addr, A = some ad → (∀ j u, (evcs es)[j]? = some u → w.cell? (ad.add j) = some u) → wpList Tryz.prog ops Q (o :: rest) a w := by
    rintro ad rfl hcell
    refine wp_appX hgd s x 37 ho base 31 _ 3 40 Tryz.underlying37 Tryz.infoEv rfl (by decide) v l.length (evcs l) (evcs es) hs hown (evcs_one es) ad es.length c (evcs_len es) hx hcell (by simp only [maxLen]; omega) (by omega) hbase fun v' w' h1 h2 h3 => h v' w' ?_ h2 h3
    unfold ERow
    rw [List.length_append, show evcs (l ++ es) = evcs l ++ evcs es by simp [evcs]]
    exact h1
  by_cases hb : 0 < es.length
  · obtain ⟨b, o', rfl, hcell⟩ := hc hb
    exact key _ rfl (evcs_at rfl hcell)
  · obtain rfl : es = [] := List.eq_nil_of_length_eq_zero (by omega)
    cases A with
    | some ad => exact key ad rfl (fun j u hj => by simp [evcs] at hj)
    | none =>
      obtain ⟨i, hi, hz, hsize, hby⟩ := info_parts Tryz.infoEv
      refine wpList_plain hgd fun K hK => ?_
      have hform : ∃ A' cap, v = .slice A' l.length cap ∧ l.length ≤ cap := by
        have h1 := hown
        unfold ERow at h1
        rcases h1.2 with ⟨rfl, h0⟩ | ⟨r, c', cur, rfl, _, _, hle, _⟩
        · exact ⟨none, 0, by rw [h0], by omega⟩
        · exact ⟨_, _, rfl, hle⟩
      obtain ⟨A', cap, rfl, hle⟩ := hform
      have hrun := run_append_nothing (P := Tryz.prog) w 37 37 o.type 31 i Tryz.underlying37 hi A' l.length cap hle (.slice none 0 c) (src_none2 _ _ _ _ Tryz.underlying37 c)
      unfold Oper.wp execOp
      simp only [ho, resolve, invoke, builtin, Sem.run_bind, Sem.run_pure, Result.andThen_ok, List.map_toArray, List.map_cons, List.map_nil, hs, hx, List.length_nil, hrun]
      exact hK _ _ (h _ _ (by simpa using hown) (World.grownBy.refl _ _) (.inl rfl))
end

theorem erow_low {w : World} {base : Nat} {v : Value} {l : List Ev} (h : ERow w base v l) : ERow w 0 v l := by
  unfold ERow at h ⊢
  refine ⟨h.1, ?_⟩
  rcases h.2 with hn | ⟨g, cap, cur, hv, _, r⟩
  · exact .inl hn
  · exact .inr ⟨g, cap, cur, hv, Nat.zero_le _, r⟩

/-! A round of Step. -/
structure RIn (w : World) (T : Nat → Prop) (xb nb : Nat) (x : Ev) (told : Nat) (K : List Kp) (kv : Value) (K' : List Kp) (i : Nat) (wr : World) : Prop where
  bel : Below w.heap.size w wr
  xat : Blk wr xb 31 #[.int .i64 x.k, .string x.t, .string x.v]
  lx : w.heap.size ≤ xb
  lo : w.heap.size ≤ nb
  rep : RRep wr nb kv K' told
  ents : K'.map Kp.ent = (K.take i).map fun k => pushA x k.ent
  kvb : ∀ g, kv.ownBlock = some g → w.heap.size ≤ g
  lvs : ∀ k ∈ K', ∀ g, k.lv.ownBlock = some g → Up T w g
  oks : ∀ k ∈ K.take i, knownB k.evs = false → stepE (runS [topP] k.evs) x = 0
theorem RIn.len {w : World} {T : Nat → Prop} {xb nb : Nat} {x : Ev} {told : Nat} {K : List Kp} {kv : Value} {K' : List Kp} {i : Nat} {wr : World} (h : RIn w T xb nb x told K kv K' i wr) (hi : i ≤ K.length) : K'.length = i := by
  have := congrArg List.length h.ents
  simp at this
  omega
theorem RIn.next {w : World} {T : Nat → Prop} {xb nb : Nat} {x : Ev} {told : Nat} {K : List Kp} {kv : Value} {K' : List Kp} {i : Nat} {wr wq : World} (h : RIn w T xb nb x told K kv K' i wr) (hi : i < K.length) (hb : Below wr.heap.size wr wq)
    (y : Kp) (hy : ERow wq 0 y.lv y.evs) (he : y.ent = pushA x K[i].ent) (hu : ∀ g, y.lv.ownBlock = some g → Up T w g) (hs : knownB K[i].evs = false → stepE (runS [topP] K[i].evs) x = 0) {o : Obj} {v4 : Value} {w4 : World}
    (hown : w4.ownsRow 0 48 2 v4 (K'.length + 1) (kpcs K' ++ [strV y.nm, y.lv])) (hg : (wq.alloc o).grownBy w4 kv.ownBlock) (hnb : NB (wq.alloc o) kv v4) :
    Blk w4 nb 28 #[kv, .int .i64 (told : Int)] ∧ RIn w T xb nb x told K v4 (K' ++ [y]) (i + 1) (w4.setCell ⟨nb, 0, none⟩ v4) := by
  have hwq : w.heap.size ≤ wq.heap.size := Nat.le_trans h.bel.size hb.size
  obtain ⟨h1, h2, h3⟩ := rpush (U := fun k => w.heap.size ≤ k) (x := y) (h.rep.below hb) h.lo h.kvb hg hown hy
  refine ⟨h1, ?_, ?_, h.lx, h.lo, h2, ?_, ?_, ?_, ?_⟩
  · exact (h.bel.trans (hb.mono h.bel.size)).trans (h3.below hwq fun _ h => h)
  · exact (h.xat.below hb h.xat.lt).ts h3 (.inr (by rintro (h | h) <;> simp only [kK, kR] at h <;> exact absurd h (by decide)))
  · rw [List.map_append, h.ents, List.take_succ_eq_append_getElem hi, List.map_append]
    simp [he]
  · intro g hg'
    rcases hnb with e | ⟨k, e, hk⟩
    · rw [e] at hg'; exact h.kvb g hg'
    · rw [e] at hg'
      injection hg' with hg'
      subst hg'
      exact Nat.le_trans (Nat.le_trans hwq (by simp)) hk
  · intro k hk g hg'
    rcases List.mem_append.1 hk with hk | hk
    · exact h.lvs k hk g hg'
    · rw [List.mem_singleton] at hk
      subst hk
      exact hu g hg'
  · intro k hk
    rw [List.take_succ_eq_append_getElem hi, List.mem_append] at hk
    rcases hk with hk | hk
    · exact h.oks k hk
    · rw [List.mem_singleton] at hk
      subst hk
      exact hs
end Go.Proofs.YtkghdieakpipkaaGreatDoor

/-
  anchors: an event apart; New, Size, Told; whether a name's events are a document.
  anchors: an event put behind those of a name; what is open then.
-/
import Derived.Test.YtalkjgijmceifaaGreatDoorOwA16
import Derived.Deep.RegionHeld3
namespace Go.Proofs.YtalkjgijmceifaaGreatDoor
open Go.RowKit Go.Maps
set_option maxRecDepth 100000
set_option linter.unusedSimpArgs false
set_option linter.unusedVariables false

set_option linter.unusedSectionVars false
variable [Tab]
theorem two_blk {w : World} {c1 c2 : Array Value} {t1 t2 : TypeId} : Blk ((w.alloc (.cells c1 t1)).alloc (.cells c2 t2)) w.heap.size t1 c1 ∧ Blk ((w.alloc (.cells c1 t1)).alloc (.cells c2 t2)) (w.heap.size + 1) t2 c2 :=
  ⟨(Blk.new w t1 c1).alloc _, by have := Blk.new (w.alloc (.cells c1 t1)) t2 c2; rw [show (w.alloc (.cells c1 t1)).heap.size = w.heap.size + 1 by simp] at this; exact this⟩
set_option maxHeartbeats 4000000 in
theorem apart_any (w : World) (x : Ev) (h1 : x.t.size ≤ 140737488355328) (h2 : x.v.size ≤ 140737488355328) :
    Calls Tryz.prog 46 #[evV x] w fun e w' => e = .returned (evV x) ∧ Below w.heap.size w w' := by
  obtain ⟨k, t, v⟩ := x
  simp only at h1 h2
  unfold evV
  go_enter Tryz.func46, Tryz.ntmps46
  go_wp2
  obtain ⟨B1, B2⟩ := two_blk (w := w) (c1 := #[.int .i64 k, .string t, .string v]) (c2 := #[.int .i64 0, .string ⟨#[]⟩, .string ⟨#[]⟩]) (t1 := 38) (t2 := 38)
  have hb : Below w.heap.size w ((w.alloc (.cells #[.int .i64 k, .string t, .string v] 38)).alloc (.cells #[.int .i64 0, .string ⟨#[]⟩, .string ⟨#[]⟩] 38)) := ((Below.refl _ _).alloc (Nat.le_refl _) _).alloc (by simp) _
  generalize hW : (w.alloc (.cells #[.int .i64 k, .string t, .string v] 38)).alloc (.cells #[.int .i64 0, .string ⟨#[]⟩, .string ⟨#[]⟩] 38) = W at *
  have hsz : w.heap.size + 2 = W.heap.size := by rw [← hW]; simp
  clear hW
  have x0 : W.cell? ⟨w.heap.size, 0, none⟩ = some (.int .i64 k) := B1.cell 0
  have x1 : W.cell? ⟨w.heap.size, 1, none⟩ = some (.string t) := B1.cell 1
  have x2 : W.cell? ⟨w.heap.size, 2, none⟩ = some (.string v) := B1.cell 2
  have HC : Hid (∀ (s : ByteArray) (w' : World), s.size ≤ 140737488355328 → Calls Tryz.prog 44 #[.string s] w' fun e w'' => e = .returned (.string s) ∧ Below w'.heap.size w' w'') := Lib.hid fun s w' h => clone_any s w' h
  have HB := Lib.hid hb
  have HS := Lib.hid hsz
  have HX := Lib.hid (And.intro x0 (And.intro x1 x2))
  have HB2 := Lib.hid B2
  have HL := Lib.hid (below_drew (Below.refl W.heap.size W))
  clear hsz B1 B2 hb x0 x1 x2
  go_region_held3 (fun w' => w'.cell? ⟨w.heap.size, 0, none⟩ = some (.int .i64 k) ∧ w'.cell? ⟨w.heap.size, 1, none⟩ = some (.string t) ∧ w'.cell? ⟨w.heap.size, 2, none⟩ = some (.string v))
    (first
      | exact ⟨(HL.out.cell (cell_lt HX.out.1)).trans HX.out.1, (HL.out.cell (cell_lt HX.out.2.1)).trans HX.out.2.1, (HL.out.cell (cell_lt HX.out.2.2)).trans HX.out.2.2⟩
      | go_keep)
    (first
      | (go_at_call 44; refine (HC.out t _ h1).mono ?_; rintro e w2 ⟨rfl, hb2⟩; replace HL := Lib.hid (HL.out.trans (hb2.mono HL.out.size)); clear hb2; (try clear s0 s1 s2 f0 f1 f2 bl); have b2 : Blk w2 (w.heap.size + 1) 38 #[.int .i64 0, .string ⟨#[]⟩, .string ⟨#[]⟩] := (HL.out.block _ HB2.out.lt).trans HB2.out; have s0 := b2.cell 0; have s1 := b2.cell 1; have s2 := b2.cell 2; have f0 := b2.frozen 0; have f1 := b2.frozen 1; have f2 := b2.frozen 2; have bl := b2.lt; clear b2)
      | (go_at_call 44; refine (HC.out v _ h2).mono ?_; rintro e w2 ⟨rfl, hb2⟩; replace HL := Lib.hid (HL.out.trans (hb2.mono HL.out.size)); clear hb2; (try clear s0 s1 s2 f0 f1 f2 bl); have b2 : Blk w2 (w.heap.size + 1) 38 #[.int .i64 0, .string ⟨#[]⟩, .string ⟨#[]⟩] := (HL.out.block _ HB2.out.lt).trans HB2.out; have s0 := b2.cell 0; have s1 := b2.cell 1; have s2 := b2.cell 2; have f0 := b2.frozen 0; have f1 := b2.frozen 1; have f2 := b2.frozen 2; have bl := b2.lt; clear b2))
  have b2 : Blk w2 (w.heap.size + 1) 38 #[.int .i64 0, .string ⟨#[]⟩, .string ⟨#[]⟩] := (HL.out.block _ HB2.out.lt).trans HB2.out
  have b3 := ((b2.set_ 0 (.int .i64 k)).set_ 1 (.string t)).set_ 2 (.string v)
  have r0 := b3.cell 0
  have r1 := b3.cell 1
  have r2 := b3.cell 2
  have hbF : Below w.heap.size w (((w2.setCell ⟨w.heap.size + 1, 0, none⟩ (.int .i64 k)).setCell ⟨w.heap.size + 1, 1, none⟩ (.string t)).setCell ⟨w.heap.size + 1, 2, none⟩ (.string v)) :=
    (((HB.out.trans (HL.out.mono HB.out.size)).setCell (p := ⟨w.heap.size + 1, 0, none⟩) (by simp) _).setCell (p := ⟨w.heap.size + 1, 1, none⟩) (by simp) _).setCell (p := ⟨w.heap.size + 1, 2, none⟩) (by simp) _
  have HF := Lib.hid hbF
  clear b2 b3 hbF s0 s1 s2 f0 f1 f2 bl HL HB HX HC
  go_wp2
  refine bodyPost_ret (v := .agg #[.int .i64 k, .string t, .string v]) ?_ rfl ⟨rfl, HF.out⟩
  simp [results, Tryz.results46, go_sem, r0, r1, r2]
end Go.Proofs.YtalkjgijmceifaaGreatDoor
namespace Go.Proofs.YtalkjgijmceifaaGreatDoor
open Go.RowKit Go.Maps
set_option maxRecDepth 100000
set_option linter.unusedSimpArgs false
set_option linter.unusedVariables false

set_option linter.unusedSectionVars false
variable [Tab]
theorem ap_names {K : List ARec} (h : K.Pairwise apartR) : (K.map (·.nm)).Nodup := by
  unfold List.Nodup
  rw [List.pairwise_map]
  exact h.imp fun h => h.1
theorem ap_same {K : List ARec} (h : K.Pairwise apartR) {r q : ARec} (hr : r ∈ K) (hq : q ∈ K) (e : r.nm = q.nm) : r = q := by
  induction K with
  | nil => cases hr
  | cons y K ih =>
    rw [List.pairwise_cons] at h
    rcases List.mem_cons.1 hr with h1 | h1
    · rcases List.mem_cons.1 hq with h2 | h2
      · rw [h1, h2]
      · exact absurd (by rw [← h1]; exact e) (h.1 q h2).1
    · rcases List.mem_cons.1 hq with h2 | h2
      · exact absurd (by rw [← h2]; exact e.symm) (h.1 r h1).1
      · exact ih h.2 h1 h2
theorem apart_of {K : List ARec} (h : K.Pairwise apartR) {r q : ARec} (hr : r ∈ K) (hq : q ∈ K) (e : r.nm ≠ q.nm) : r.p ≠ q.p ∧ ∀ g, r.lv.ownBlock = some g → q.lv.ownBlock ≠ some g := by
  induction K with
  | nil => cases hr
  | cons y K ih =>
    rw [List.pairwise_cons] at h
    rcases List.mem_cons.1 hr with h1 | h1
    · rcases List.mem_cons.1 hq with h2 | h2
      · exact absurd (by rw [h1, h2]) e
      · rw [h1]; exact (h.1 q h2).2
    · rcases List.mem_cons.1 hq with h2 | h2
      · rw [h2]
        obtain ⟨_, h3, h4⟩ := h.1 r h1
        exact ⟨fun e => h3 e.symm, fun g hg hc => h4 g hc hg⟩
      · exact ih h.2 h1 h2
/-- The record of a name, with an event more. -/
def putR (nm : List UInt8) (x : Ev) (lv : Value) (q : ARec) : ARec := if q.nm = nm then { q with evs := q.evs ++ [x], lv := lv } else q
theorem putR_nm (nm : List UInt8) (x : Ev) (lv : Value) (q : ARec) : (putR nm x lv q).nm = q.nm ∧ (putR nm x lv q).p = q.p := by
  unfold putR; split <;> exact ⟨rfl, rfl⟩
theorem lookK_put (nm : List UInt8) (x : Ev) (lv : Value) (n : List UInt8) (K : List ARec) : lookK n (K.map (putR nm x lv)) = lookK n K := by
  induction K with
  | nil => rfl
  | cons q K ih =>
    rw [List.map_cons]
    simp only [lookK]
    rw [(putR_nm nm x lv q).1, (putR_nm nm x lv q).2, ih]
/-- An anchor's slice appended to, and stored. -/
theorem ARest.push {w1 w2 : World} {S : Nat → Prop} {a : Nat} {K : List ARec} {size told mb : Nat} {ov : Value} (h : ARest w1 S a K size told mb ov) {r : ARec} (hr : r ∈ K) {x : Ev} {lv' : Value}
    (hg : w1.grownBy w2 r.lv.ownBlock) (hrow : ERow w2 0 lv' (r.evs ++ [x])) (hnb : NB w1 r.lv lv') (hup : ∀ k, w1.heap.size ≤ k → S k) :
    ARest (w2.setCell ⟨r.p, 0, none⟩ lv') S a (K.map (putR r.nm x lv')) size told mb ov ∧ TS S anyO w1 (w2.setCell ⟨r.p, 0, none⟩ lv') ∧ Blk w2 r.p 97 #[r.lv] ∧ (∀ ov' op, ORow w1 0 9 ov' op → ORow (w2.setCell ⟨r.p, 0, none⟩ lv') 0 9 ov' op) := by
  have hrR := h.recs r hr
  have hT2 : TS S kE w1 w2 := TS.of_row hrR.row hg hrR.sr (fun _ => rfl)
  have hB2 : Blk w2 r.p 97 #[r.lv] := hrR.blk.ts hT2 (.inr (by simp only [kE]; decide))
  have hT3 : TS S kP w2 (w2.setCell ⟨r.p, 0, none⟩ lv') := (TS.refl _ _ _).set hB2 hrR.sp (show kP (.cells _ _ _) from rfl) 0 lv'
  have hown : ∀ g, lv'.ownBlock = some g → S g := fun g hg' => by
    rcases hnb with e | ⟨k, e, hk⟩
    · exact hrR.sr g (by rw [← e]; exact hg')
    · rw [e] at hg'; injection hg' with hg'; subst hg'; exact hup _ hk
  refine ⟨⟨(h.blk.ts hT2 (.inr (by simp only [kE]; decide))).ts hT3 (.inr (by simp only [kP]; decide)), h.sa, h.sm, ?_, ?_, ?_⟩, hT2.any.trans hT3.any, hB2, fun ov' op ho => row_ts (row_ts ho hT2 (.inr fun _ _ => by simp only [kE]; decide)) hT3 (.inr fun _ _ => by simp only [kP]; decide)⟩
  · exact ((h.map.ts hT2 (.inr fun _ _ h => h)).ts hT3 (.inr fun _ _ h => h)).congr (by simp) (fun n => lookK_put _ _ _ _ _)
  · intro q' hq'
    obtain ⟨q, hq, rfl⟩ := List.mem_map.1 hq'
    by_cases e : q.nm = r.nm
    · have : q = r := ap_same h.ap hq hr e
      subst this
      have e2 : putR q.nm x lv' q = { q with evs := q.evs ++ [x], lv := lv' } := by unfold putR; rw [if_pos rfl]
      rw [e2]
      exact ⟨hB2.set_ 0 lv', row_ts hrow hT3 (.inr fun _ _ => by simp only [kP]; decide), hrR.sp, hown⟩
    · have e2 : putR r.nm x lv' q = q := by unfold putR; rw [if_neg e]
      rw [e2]
      have hqR := h.recs q hq
      obtain ⟨hp, ho⟩ := apart_of h.ap hq hr e
      refine ⟨(hqR.blk.ts hT2 (.inr (by simp only [kE]; decide))).far (p := ⟨r.p, 0, none⟩) hp lv', ?_, hqR.sp, hqR.sr⟩
      have hk : ERow w2 0 q.lv q.evs := by
        refine World.ownsRow.kept hqR.row hg ?_
        cases hq2 : q.lv.ownBlock with
        | none => exact .inl rfl
        | some g => exact .inr fun hc => ho g hq2 hc.symm
      exact row_ts hk hT3 (.inr fun _ _ => by simp only [kP]; decide)
  · rw [List.pairwise_map]
    refine (List.Pairwise.imp_of_mem ?_ h.ap)
    intro q1 q2 hq1 hq2 h12
    refine ⟨by rw [(putR_nm _ _ _ _).1, (putR_nm _ _ _ _).1]; exact h12.1, by rw [(putR_nm _ _ _ _).2, (putR_nm _ _ _ _).2]; exact h12.2.1, ?_⟩
    have hlvr : ∀ q ∈ K, q.nm ≠ r.nm → ∀ g, lv'.ownBlock = some g → q.lv.ownBlock ≠ some g := by
      intro q hq e g hg' hc
      rcases hnb with e1 | ⟨k, e1, hk⟩
      · exact (apart_of h.ap hq hr e).2 g hc (by rw [← e1]; exact hg')
      · rw [e1] at hg'; injection hg' with hg'; subst hg'
        have := row_lt (h.recs q hq).row _ hc
        omega
    intro g hg1
    unfold putR at hg1 ⊢
    by_cases e1 : q1.nm = r.nm
    · rw [if_pos e1] at hg1
      have e2 : q2.nm ≠ r.nm := fun e => h12.1 (e1.trans e.symm)
      rw [if_neg e2]
      exact hlvr q2 hq2 e2 g hg1
    · rw [if_neg e1] at hg1
      by_cases e2 : q2.nm = r.nm
      · rw [if_pos e2]
        intro hc
        exact hlvr q1 hq1 e1 g hc hg1
      · rw [if_neg e2]
        exact h12.2.2 g hg1
/-! What is open, behind a step. -/
theorem lookA_mem {m : List AEnt} (hn : (namesA m).Nodup) {e : AEnt} (he : e ∈ m) : lookA e.1 m = some e.2 := by
  induction m with
  | nil => cases he
  | cons q m ih =>
    unfold namesA at hn
    rw [List.map_cons, List.nodup_cons] at hn
    simp only [lookA]
    rcases List.mem_cons.1 he with rfl | he
    · rw [if_pos rfl]
    · have : q.1 ≠ e.1 := fun h => hn.1 (by rw [h]; exact List.mem_map_of_mem he)
      rw [if_neg this]
      exact ih hn.2 he
def qd (m : List AEnt) (n : List UInt8) : Bool := match lookA n m with | some l => knownB l | none => false
theorem pend_push {m : List AEnt} (hn : (namesA m).Nodup) (x : Ev) : namesA (pend (m.map (pushA x))) = (namesA (pend m)).filter fun n => !qd (m.map (pushA x)) n := by
  have hn' : (namesA (m.map (pushA x))).Nodup := by rw [names_push]; exact hn
  have key : ∀ l : List AEnt, (∀ e ∈ l, e ∈ m) → namesA (pend (l.map (pushA x))) = (namesA (pend l)).filter fun n => !qd (m.map (pushA x)) n := by
    intro l
    induction l with
    | nil => intro _; rfl
    | cons e l ih =>
      intro hl
      have ih2 := ih fun q hq => hl q (List.mem_cons_of_mem _ hq)
      have hem := hl e List.mem_cons_self
      have hq : qd (m.map (pushA x)) e.1 = knownB (pushA x e).2 := by
        have h1 : (pushA x e).1 = e.1 := by unfold pushA; split <;> rfl
        have := lookA_mem hn' (List.mem_map_of_mem hem)
        rw [h1] at this
        unfold qd
        rw [this]
      unfold pend namesA at ih2 ⊢
      rw [List.map_cons, List.filter_cons, List.filter_cons]
      cases hk : knownB e.2 with
      | true =>
        have hp : pushA x e = e := by unfold pushA; rw [if_pos hk]
        rw [hp, hk]
        simp only [Bool.not_true, Bool.false_eq_true, if_false]
        exact ih2
      | false =>
        have h1 : (pushA x e).1 = e.1 := by unfold pushA; split <;> rfl
        simp only [Bool.not_false, if_true, List.map_cons, List.filter_cons]
        rw [hq]
        cases hk2 : knownB (pushA x e).2 with
        | true =>
          simp only [Bool.not_true, Bool.false_eq_true, if_false]
          exact ih2
        | false =>
          simp only [Bool.not_false, if_true, List.map_cons, h1]
          rw [ih2]
  exact key m fun _ h => h
theorem mem_pend {K : List ARec} {m : List AEnt} (hK : K.map ARec.ent = m) {op : List (List UInt8)} (hO : op.Perm (namesA (pend m))) {n : List UInt8} (hn : n ∈ op) : ∃ r ∈ K, r.nm = n ∧ knownB r.evs = false := by
  have h1 := hO.mem_iff.1 hn
  unfold namesA pend at h1
  obtain ⟨e, he, rfl⟩ := List.mem_map.1 h1
  rw [List.mem_filter] at he
  rw [← hK] at he
  obtain ⟨r, hr, rfl⟩ := List.mem_map.1 he.1
  exact ⟨r, hr, rfl, by simpa [ARec.ent] using he.2⟩
theorem pend_nodup {m : List AEnt} (hn : (namesA m).Nodup) : (namesA (pend m)).Nodup := by
  unfold namesA pend at *
  exact hn.sublist (List.Sublist.map _ List.filter_sublist)
/-- What a Check takes has a kind that there is, and is not long. -/
theorem kind_of {st : List Pt} {x : Ev} (h : stepE st x = 0) : 1 ≤ x.k ∧ x.k ≤ 12 := by
  have hf : formedB x = true := by
    cases st with
    | nil => simp only [stepE] at h; exact absurd h (by decide)
    | cons p r => exact (cont_of h).1
  unfold formedB at hf
  by_cases h1 : bareK x.k = true
  · unfold bareK at h1; rw [decide_eq_true_iff] at h1; omega
  · rw [if_neg h1] at hf
    by_cases h2 : x.k = 2
    · omega
    · rw [if_neg h2] at hf
      by_cases h3 : x.k = 3
      · omega
      · rw [if_neg h3] at hf
        by_cases h4 : x.k = 4 ∨ x.k = 8
        · omega
        · rw [if_neg h4] at hf
          by_cases h5 : x.k = 10
          · omega
          · rw [if_neg h5] at hf
            by_cases h6 : x.k = 11
            · omega
            · rw [if_neg h6] at hf; cases hf
theorem all_kinds : ∀ (l : List Ev) (st : List Pt), allOk st l → ∀ x ∈ l, 1 ≤ x.k ∧ x.k ≤ 12
  | [], _, _, x, hx => by cases hx
  | y :: l, st, h, x, hx => by
    rcases List.mem_cons.1 hx with rfl | hx
    · exact kind_of h.1
    · exact all_kinds l _ h.2 x hx
theorem ainv_okE {s : Am} (h : AInv s) {e : AEnt} (he : e ∈ s.m) : (∀ x ∈ e.2, okE x) ∧ e.2.length ≤ 200 := by
  have h1 := entSz_le he
  have h2 := h.sz
  have h3 : evsSz e.2 ≤ 200 := by unfold entSz at h1; omega
  refine ⟨fun x hx => ?_, by have := evsSz_len e.2; omega⟩
  have hk := all_kinds _ _ (h.ok e he).1 x hx
  have h4 := evSz_le hx
  unfold evSz at h4
  exact ⟨by omega, by omega, by omega, by omega⟩
end Go.Proofs.YtalkjgijmceifaaGreatDoor

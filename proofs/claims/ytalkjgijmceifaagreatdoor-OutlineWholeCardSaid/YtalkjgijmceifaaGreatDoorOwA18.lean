/-
  anchors: whether a name's events are a document, as the closure asks it; the first pass of Step.
-/
import Derived.Test.YtalkjgijmceifaaGreatDoorOwA17
import Derived.Test.YtalkjgijmceifaaGreatDoorOwA11
namespace Go.Proofs.YtalkjgijmceifaaGreatDoor
open Go.RowKit Go.Maps
set_option maxRecDepth 100000
set_option linter.unusedSimpArgs false
set_option linter.unusedVariables false

set_option linter.unusedSectionVars false
variable [Tab]
theorem run_good (l : List Ev) : Good (runS [topP] l) := good_run good_start l
theorem good_ne {st : List Pt} (h : Good st) : st ≠ [] := by obtain ⟨p, r, rfl⟩ := h.ne; simp
/-- A record's events, as a Check goes through them. -/
structure OkR (r : ARec) : Prop where
  ev : ∀ x ∈ r.evs, okE x
  n : r.evs.length ≤ 1000
  nm : r.nm.length ≤ 16
theorem strOf_l (n : List UInt8) : (⟨n.toArray⟩ : ByteArray).data.toList = n := by simp
theorem str_size (n : List UInt8) : (⟨n.toArray⟩ : ByteArray).size = n.length := by show n.toArray.size = _; simp

set_option maxHeartbeats 4000000 in
theorem clo_any (w : World) (S : Nat → Prop) (a box : Nat) (K : List ARec) (sz told mb : Nat) (ov : Value) (h : ARest w S a K sz told mb ov) (hbx : w.cell? ⟨box, 0, none⟩ = some (.pointer (some ⟨a, 0, none⟩))) (r : ARec) (hr : r ∈ K) (ho : OkR r) (hw : Nm.StdW w) :
    Calls Tryz.prog 48 #[.string ⟨r.nm.toArray⟩, .pointer (some ⟨box, 0, none⟩)] w fun e w' => e = .returned (.bool (knownB r.evs)) ∧ Below w.heap.size w w' := by
  have hrR := h.recs r hr
  have hlk := lookK_mem (ap_names h.ap) hr
  rw [← strOf_l r.nm] at hlk
  have hrun := h.map.look (n := ⟨r.nm.toArray⟩) (by rw [str_size]; have := ho.nm; omega) hlk
  have c0 := h.cells.1
  have HC := Lib.hid (check_any w r.p r.lv r.evs hrR.blk hrR.row ho.ev hw (by have := ho.n; omega))
  unfold knownB
  clear hrR hlk h ho hw
  generalize (⟨r.nm.toArray⟩ : ByteArray) = nn at *
  go_enter Tryz.func48, Tryz.ntmps48
  go_wp2_with fail
  refine HC.out.mono ?_
  rintro e w1 ⟨q, rfl, hq, hC1, hb1⟩
  have hG := run_good r.evs
  have HD := Lib.hid (done_any w1 w.heap.size q (runS [topP] r.evs) hC1 hG.2 (good_ne hG))
  have HB := Lib.hid hb1
  clear hC1 hb1 hG HC
  go_wp2_with fail
  refine HD.out.mono ?_
  rintro e w2 ⟨rfl, rfl⟩
  go_wp2
  go_ret
  exact ⟨rfl, HB.out⟩

theorem box2 (w : World) (a : Nat) (x : Ev) (tA : TypeId) : Below w.heap.size w ((w.alloc (.cells #[.pointer (some ⟨a, 0, none⟩)] tA)).alloc (.cells #[.int .i64 x.k, .string x.t, .string x.v] 38)) ∧
    Blk ((w.alloc (.cells #[.pointer (some ⟨a, 0, none⟩)] tA)).alloc (.cells #[.int .i64 x.k, .string x.t, .string x.v] 38)) w.heap.size tA #[.pointer (some ⟨a, 0, none⟩)] ∧
    Blk ((w.alloc (.cells #[.pointer (some ⟨a, 0, none⟩)] tA)).alloc (.cells #[.int .i64 x.k, .string x.t, .string x.v] 38)) (w.heap.size + 1) 38 #[.int .i64 x.k, .string x.t, .string x.v] :=
  ⟨((Below.refl _ _).alloc (Nat.le_refl _) _).alloc (by simp) _, two_blk.1, two_blk.2⟩
/-- All that Step knows when it begins. -/
structure StepIn (w : World) (S : Nat → Prop) (a : Nat) (s : Am) (K : List ARec) (op : List (List UInt8)) (mb : Nat) (ov : Value) : Prop where
  rep : ARep w S a K op (sizeA s.m) s.told mb ov
  ent : K.map ARec.ent = s.m
  perm : op.Perm (namesA (pend s.m))
  ok : ∀ r ∈ K, OkR r
  len : op.length ≤ 200
theorem stepIn (w : World) (S : Nat → Prop) (a : Nat) (s : Am) (K : List ARec) (op : List (List UInt8)) (mb : Nat) (ov : Value) (hR : ARep w S a K op (sizeA s.m) s.told mb ov) (hK : K.map ARec.ent = s.m) (hO : op.Perm (namesA (pend s.m))) (hI : AInv s) : StepIn w S a s K op mb ov := by
  refine ⟨hR, hK, hO, fun r hr => ?_, ?_⟩
  · have he : r.ent ∈ s.m := by rw [← hK]; exact List.mem_map_of_mem hr
    obtain ⟨h1, h2⟩ := ainv_okE hI he
    have h3 := (hI.ok _ he).2
    have h4 : r.nm.length ≤ 16 := by
      have := local_size (n := ⟨r.nm.toArray⟩) (by rw [strOf_l]; exact h3)
      rwa [str_size] at this
    exact ⟨h1, by have : r.evs.length ≤ 200 := h2; omega, h4⟩
  · have h1 := hO.length_eq
    have h2 : (namesA (pend s.m)).length ≤ s.m.length := by unfold namesA pend; rw [List.length_map]; exact List.length_filter_le _ _
    have h3 := sizeA_len (fun r hr => (hI.ok r hr).2)
    have h4 := hI.sz
    omega
theorem StepIn.back {w w' : World} {S : Nat → Prop} {a : Nat} {s : Am} {K : List ARec} {op : List (List UInt8)} {mb : Nat} {ov : Value} (h : StepIn w S a s K op mb ov) (hl : ∀ k, S k → k < w.heap.size) (hb : Below w.heap.size w w') : AAt w' (Ext S w w') a s :=
  AAt.mk' hl hb.size ((h.rep.below hb).mono fun _ _ hk => .inl hk) h.ent h.perm
theorem takes_no {m : List AEnt} {K : List ARec} (hK : K.map ARec.ent = m) {r : ARec} (hr : r ∈ K) (hu : knownB r.evs = false) {x : Ev} (hz : stepE (runS [topP] r.evs) x ≠ 0) : takesA m x = false := by
  unfold takesA
  rw [← Bool.not_eq_true, List.all_eq_true]
  intro h
  have := h r.ent (by unfold pend; rw [List.mem_filter]; exact ⟨by rw [← hK]; exact List.mem_map_of_mem hr, by show (!knownB r.evs) = true; rw [hu]; rfl⟩)
  exact hz (of_decide_eq_true this)
theorem takes_yes {m : List AEnt} {K : List ARec} (hK : K.map ARec.ent = m) {op : List (List UInt8)} (hO : op.Perm (namesA (pend m))) {x : Ev} (h : ∀ n ∈ op, ∀ r ∈ K, r.nm = n → stepE (runS [topP] r.evs) x = 0) : takesA m x = true := by
  unfold takesA
  rw [List.all_eq_true]
  intro e he
  have h1 : e.1 ∈ op := hO.mem_iff.2 (List.mem_map_of_mem he)
  unfold pend at he
  rw [List.mem_filter, ← hK] at he
  obtain ⟨r, hr, rfl⟩ := List.mem_map.1 he.1
  exact decide_eq_true (h _ h1 r hr rfl)
theorem pend_len {m : List AEnt} {op : List (List UInt8)} (hO : op.Perm (namesA (pend m))) : (pend m).length = op.length := by
  rw [hO.length_eq]; unfold namesA; rw [List.length_map]
/-- The records when the first names have taken the event. -/
def pushL (done : List (List UInt8)) (x : Ev) (r : ARec) : AEnt := if r.nm ∈ done then (r.nm, r.evs ++ [x]) else r.ent
theorem pushL_at {K K2 : List ARec} {done : List (List UInt8)} {x : Ev} (h : K2.map ARec.ent = K.map (pushL done x)) {r : ARec} (hr : r ∈ K) (hn : r.nm ∉ done) : ∃ r2 ∈ K2, r2.nm = r.nm ∧ r2.evs = r.evs := by
  have h1 : pushL done x r ∈ K2.map ARec.ent := by rw [h]; exact List.mem_map_of_mem hr
  have h2 : pushL done x r = r.ent := by unfold pushL; rw [if_neg hn]
  rw [h2] at h1
  obtain ⟨r2, h3, h4⟩ := List.mem_map.1 h1
  unfold ARec.ent at h4
  injection h4 with h5 h6
  exact ⟨r2, h3, h5, h6⟩
theorem pushL_next {K K2 : List ARec} {done : List (List UInt8)} {x : Ev} {n : List UInt8} {lv : Value} (h : K2.map ARec.ent = K.map (pushL done x)) (hn : n ∉ done) : (K2.map (putR n x lv)).map ARec.ent = K.map (pushL (done ++ [n]) x) := by
  have hnm : ∀ r : ARec, (pushL done x r).1 = r.nm := fun r => by unfold pushL; split <;> rfl
  induction K generalizing K2 with
  | nil =>
    rw [List.map_nil] at h
    have : K2 = [] := by cases K2 with | nil => rfl | cons _ _ => cases h
    subst this
    rfl
  | cons r K ih =>
    cases K2 with
    | nil => cases h
    | cons q K2 =>
      rw [List.map_cons, List.map_cons] at h
      injection h with h1 h2
      rw [List.map_cons, List.map_cons, List.map_cons, ih h2]
      congr 1
      have hq : q.nm = r.nm := by have := congrArg Prod.fst h1; rw [hnm] at this; exact this
      unfold putR
      by_cases e : q.nm = n
      · rw [if_pos e]
        have he : r.nm = n := by rw [← hq]; exact e
        have hl : pushL (done ++ [n]) x r = (r.nm, r.evs ++ [x]) := by unfold pushL; rw [if_pos (by rw [he]; simp)]
        have hl0 : pushL done x r = r.ent := by unfold pushL; rw [if_neg (by rw [he]; exact hn)]
        rw [hl0] at h1
        unfold ARec.ent at h1 ⊢
        injection h1 with h3 h4
        rw [hl]
        simp only
        rw [h3, h4]
      · rw [if_neg e, h1]
        have he : r.nm ≠ n := by rw [← hq]; exact e
        unfold pushL
        by_cases hd : r.nm ∈ done
        · rw [if_pos hd, if_pos (by simp [hd])]
        · rw [if_neg hd, if_neg (by simp [hd, he])]
theorem pushL_all {K : List ARec} {m : List AEnt} (hK : K.map ARec.ent = m) (hn : (namesA m).Nodup) {op : List (List UInt8)} (hO : op.Perm (namesA (pend m))) (x : Ev) : K.map (pushL op x) = m.map (pushA x) := by
  rw [← hK, List.map_map]
  refine List.map_congr_left fun r hr => ?_
  show pushL op x r = pushA x r.ent
  have hm : r.ent ∈ m := by rw [← hK]; exact List.mem_map_of_mem hr
  unfold pushL pushA
  cases hk : knownB r.evs with
  | true =>
    rw [if_pos (show knownB r.ent.2 = true from hk), if_neg]
    intro ho
    have h1 := hO.mem_iff.1 ho
    unfold namesA pend at h1
    obtain ⟨e, he, hen⟩ := List.mem_map.1 h1
    rw [List.mem_filter] at he
    have h2 := lookA_mem hn hm
    have h3 := lookA_mem hn he.1
    rw [hen] at h3
    have h4 : lookA r.nm m = some r.evs := h2
    rw [h4] at h3
    injection h3 with h3
    have h5 := he.2
    rw [← h3, hk] at h5
    cases h5
  | false =>
    rw [if_neg (show ¬ knownB r.ent.2 = true by show ¬ knownB r.evs = true; rw [hk]; decide), if_pos]
    · rfl
    · refine hO.mem_iff.2 ?_
      unfold namesA pend
      refine List.mem_map.2 ⟨r.ent, ?_, rfl⟩
      rw [List.mem_filter]
      exact ⟨hm, by show (!knownB r.evs) = true; rw [hk]; rfl⟩
/-- No name refuses the event. -/
def accB (K : List ARec) (x : Ev) (n : List UInt8) : Prop := ∀ r ∈ K, r.nm = n → stepE (runS [topP] r.evs) x = 0

set_option maxHeartbeats 8000000 in
theorem astep_any (w : World) (S : Nat → Prop) (a : Nat) (s : Am) (x : Ev) (B : Nat) (h : AAt w S a s) (hI : AInv s) (hx : okE x) (hS : ∀ k, S k → B ≤ k) (hB : B ≤ w.heap.size) (hw : SWB B w) :
    Calls Tryz.prog 34 #[.pointer (some ⟨a, 0, none⟩), evV x] w fun e w' => e = .returned (.int .i64 (stepAE s x)) ∧ AAt w' (Ext S w w') a (stepAM s x) ∧ TS S anyO w w' := by
  obtain ⟨hlt, K, op, mb, ov, hR, hK, hO⟩ := h
  have HI := Lib.hid (stepIn w S a s K op mb ov hR hK hO hI)
  have HInv := Lib.hid hI
  obtain ⟨E, hE⟩ : ∃ E, stepAE s x = E := ⟨_, rfl⟩
  have HE := Lib.hid hE
  rw [hE]
  obtain ⟨_, _, hxs, hxv⟩ := hx
  obtain ⟨Ao, co, hov⟩ := hR.opn.shape
  obtain ⟨nO, hnO⟩ : ∃ nO, op.length = nO := ⟨_, rfl⟩
  rw [List.length_map, hnO] at hov
  subst hov
  have hn200 := HI.out.len
  have hnO2 : nO ≤ 200 := by omega
  have hrd := hR.opn.sread
  obtain ⟨A', c', hv', hrd2⟩ := hrd
  injection hv' with e1 e2 e3
  subst e1 e3
  clear e2
  have HO := Lib.hid hnO
  have HRd := Lib.hid hrd2
  have HS := Lib.hid (And.intro hlt (And.intro hS (And.intro hB hw)))
  obtain ⟨b0, bA, bX⟩ := box2 w a x 66
  have HBx := Lib.hid b0
  have HbA := Lib.hid bA
  have HbX := Lib.hid bX
  have d0 : w.cell? ⟨a, 1, none⟩ = some (.slice Ao nO co) := hR.rest.cells.2.1
  have d1 := hR.rest.blk.lt
  have c1 : ((w.alloc (.cells #[.pointer (some ⟨a, 0, none⟩)] 66)).alloc (.cells #[.int .i64 x.k, .string x.t, .string x.v] 38)).cell? ⟨a, 1, none⟩ = some (.slice Ao nO co) := (b0.cell (p := ⟨a, 1, none⟩) d1).trans d0
  have cA := bA.cell 0
  have start : Hid (Below ((w.alloc (.cells #[.pointer (some ⟨a, 0, none⟩)] 66)).alloc (.cells #[.int .i64 x.k, .string x.t, .string x.v] 38)).heap.size ((w.alloc (.cells #[.pointer (some ⟨a, 0, none⟩)] 66)).alloc (.cells #[.int .i64 x.k, .string x.t, .string x.v] 38)) ((w.alloc (.cells #[.pointer (some ⟨a, 0, none⟩)] 66)).alloc (.cells #[.int .i64 x.k, .string x.t, .string x.v] 38))) := Lib.hid (Below.refl _ _)
  clear hR hK hO hI hE hrd2 hn200 hlt hS hB hw b0 bA bX hnO d0
  unfold evV
  go_enter Tryz.func34, Tryz.ntmps34
  go_wp2
  generalize hW : (w.alloc (.cells #[.pointer (some ⟨a, 0, none⟩)] 66)).alloc (.cells #[.int .i64 x.k, .string x.t, .string x.v] 38) = W at *
  clear hW
  go_loopw [16] (fun i wr => ∃ k : Nat, k ≤ nO ∧ i = .int .i64 k ∧ Hid (∀ n ∈ op.take k, accB K x n) ∧ Hid (Below W.heap.size W wr)) (fun i _ => nO - (intOf i).toNat)
  case atStart => exact ⟨0, Nat.zero_le _, rfl, Lib.hid (by simp), start⟩
  case round =>
    obtain ⟨k, hk, rfl, HA, HB⟩ := hrel
    by_cases hlk : k < nO
    case pos =>
      have hkl : k < op.length := by rw [HO.out]; exact hlk
      obtain ⟨ad, rfl, hcc⟩ := HRd.out (by omega)
      have hck0 := hcc k hkl
      have hbw := HBx.out.trans (HB.out.mono HBx.out.size)
      have hck : wr.cell? (ad.add k) = some (.string ⟨op[k].toArray⟩) := (hbw.cell (cell_lt hck0)).trans hck0
      obtain ⟨r, hrK, hrn, hru⟩ := mem_pend HI.out.ent HI.out.perm (List.getElem_mem hkl)
      obtain ⟨nk, hnk⟩ : ∃ nk, op[k] = nk := ⟨_, rfl⟩
      have hTk := List.take_succ_eq_append_getElem hkl
      rw [hnk] at hrn hck hTk
      have HTk := Lib.hid hTk
      have hRw := (HI.out.rep.below hbw)
      have hrR := hRw.rest.recs r hrK
      have hlkn := lookK_mem (ap_names hRw.rest.ap) hrK
      rw [← strOf_l r.nm] at hlkn
      have hok := HI.out.ok r hrK
      have hrun := (hRw.below (below_drew (Below.refl wr.heap.size wr))).rest.map.look (n := ⟨r.nm.toArray⟩) (by rw [str_size]; have := hok.nm; omega) hlkn
      rw [hrn] at hrun
      have HCk : Hid (∀ w', Below wr.heap.size wr w' → Calls Tryz.prog 45 #[.pointer (some ⟨r.p, 0, none⟩)] w' fun e w'' => ∃ q, e = .returned (.pointer (some ⟨q, 0, none⟩)) ∧ w'.heap.size ≤ q ∧ CAt w'' w'.heap.size q (runS [topP] r.evs) ∧ Below w'.heap.size w' w'') :=
        Lib.hid fun w' hb => check_any w' r.p r.lv r.evs ((hb.block _ hrR.blk.lt).trans hrR.blk) (hrR.row.below hb) hok.ev (((HS.out.2.2.2.below (hbw.mono HS.out.2.2.1)).below (hb.mono (Nat.le_trans HS.out.2.2.1 hbw.size))).std) (by have := hok.n; omega)
      obtain ⟨e1, hE1⟩ : ∃ e1, stepE (runS [topP] r.evs) x = e1 := ⟨_, rfl⟩
      have HE1 := Lib.hid hE1
      have HSt : Hid (∀ w' base q, CAt w' base q (runS [topP] r.evs) → Below wr.heap.size wr w' → Calls Tryz.prog 19 #[.pointer (some ⟨q, 0, none⟩), .agg #[.int .i64 x.k, .string x.t, .string x.v]] w' (SPost w' base q (runS [topP] r.evs) x)) :=
        Lib.hid fun w' base q hC hb => estep_any w' base q _ x hC (run_good _) (NumW.of (((HS.out.2.2.2.below (hbw.mono HS.out.2.2.1)).below (hb.mono (Nat.le_trans HS.out.2.2.1 hbw.size))).std)) hxs
      unfold SPost at HSt
      rw [hE1] at HSt
      have x0 : wr.cell? ⟨w.heap.size + 1, 0, none⟩ = some (.int .i64 x.k) := (HB.out.cell (p := ⟨w.heap.size + 1, 0, none⟩) HbX.out.lt).trans (HbX.out.cell 0)
      have x1 : wr.cell? ⟨w.heap.size + 1, 1, none⟩ = some (.string x.t) := (HB.out.cell (p := ⟨w.heap.size + 1, 1, none⟩) HbX.out.lt).trans (HbX.out.cell 1)
      have x2 : wr.cell? ⟨w.heap.size + 1, 2, none⟩ = some (.string x.v) := (HB.out.cell (p := ⟨w.heap.size + 1, 2, none⟩) HbX.out.lt).trans (HbX.out.cell 2)
      have y0 : wr.cell? ⟨w.heap.size, 0, none⟩ = some (.pointer (some ⟨a, 0, none⟩)) := (HB.out.cell (p := ⟨w.heap.size, 0, none⟩) HbA.out.lt).trans (HbA.out.cell 0)
      have y1 : wr.cell? ⟨a, 0, none⟩ = some (.map (some mb)) := hRw.rest.cells.1
      have HX := Lib.hid (And.intro y0 (And.intro y1 (And.intro x0 (And.intro x1 x2))))
      have HRun := Lib.hid (And.intro hrK (And.intro hrn hru))
      have HBw := Lib.hid hbw
      have HHL := Lib.hid (below_drew (Below.refl wr.heap.size wr))
      clear hcc hck0 hRw hrR hlkn hok hrK hru hbw hE1 hTk hrn hnk hkl
      generalize (⟨nk.toArray⟩ : ByteArray) = nn at hck hrun
      by_cases hz : e1 = 0
      case neg =>
        have zn : (e1 != 0) = true := by simp [bne, hz]
        have zn2 : (e1 == 0) = false := by rw [beq_eq_false_iff_ne]; exact hz
        have HZ := Lib.hid hz
        clear hz
        go_wp2
        go_region_held3 (fun w' => w'.cell? ⟨w.heap.size, 0, none⟩ = some (.pointer (some ⟨a, 0, none⟩)) ∧ w'.cell? ⟨a, 0, none⟩ = some (.map (some mb)) ∧ w'.cell? ⟨w.heap.size + 1, 0, none⟩ = some (.int .i64 x.k) ∧ w'.cell? ⟨w.heap.size + 1, 1, none⟩ = some (.string x.t) ∧ w'.cell? ⟨w.heap.size + 1, 2, none⟩ = some (.string x.v))
          (first
            | exact ⟨(HL.out.cell (cell_lt HX.out.1)).trans HX.out.1, (HL.out.cell (cell_lt HX.out.2.1)).trans HX.out.2.1, (HL.out.cell (cell_lt HX.out.2.2.1)).trans HX.out.2.2.1, (HL.out.cell (cell_lt HX.out.2.2.2.1)).trans HX.out.2.2.2.1, (HL.out.cell (cell_lt HX.out.2.2.2.2)).trans HX.out.2.2.2.2⟩
            | go_keep)
          (first
            | (go_at_call 45; refine (HCk.out _ HHL.out).mono ?_; rintro e w2 ⟨q, rfl, hq, hC1, hb1⟩; have HL := Lib.hid (HHL.out.trans (hb1.mono HHL.out.size)); have HC1 := Lib.hid (And.intro hC1 hq); clear hC1 hb1 hq)
            | (go_at_call 19; refine (HSt.out _ _ _ HC1.out.1 HL.out).mono ?_; rintro e w3 ⟨rfl, hC3, hT3⟩; replace HL := Lib.hid (HL.out.trans (hT3.below HL.out.size)); clear hC3 hT3))
        have hBF := HBw.out.trans (HL.out.mono HBw.out.size)
        have hEq : E = 19 := by
          rw [← HE.out]
          unfold stepAE
          rw [if_pos (takes_no HI.out.ent HRun.out.1 HRun.out.2.2 (by rw [HE1.out]; exact HZ.out))]
        have hM : stepAM s x = s := by unfold stepAM; rw [if_neg (by rw [HE.out, hEq]; decide)]
        have HF := Lib.hid (And.intro hEq (And.intro hM hBF))
        clear hEq hM hBF
        go_wp2
        go_ret
        exact ⟨by rw [HF.out.1]; rfl, by rw [HF.out.2.1]; exact HI.out.back HS.out.1 HF.out.2.2, TS.of_below HF.out.2.2⟩
      case pos =>
        have zn : (e1 != 0) = false := by simp [bne, hz]
        have zn2 : (e1 == 0) = true := by rw [beq_iff_eq]; exact hz
        have HZ := Lib.hid hz
        clear hz
        go_wp2
        go_region_held3 (fun w' => w'.cell? ⟨w.heap.size, 0, none⟩ = some (.pointer (some ⟨a, 0, none⟩)) ∧ w'.cell? ⟨a, 0, none⟩ = some (.map (some mb)) ∧ w'.cell? ⟨w.heap.size + 1, 0, none⟩ = some (.int .i64 x.k) ∧ w'.cell? ⟨w.heap.size + 1, 1, none⟩ = some (.string x.t) ∧ w'.cell? ⟨w.heap.size + 1, 2, none⟩ = some (.string x.v))
          (first
            | exact ⟨(HL.out.cell (cell_lt HX.out.1)).trans HX.out.1, (HL.out.cell (cell_lt HX.out.2.1)).trans HX.out.2.1, (HL.out.cell (cell_lt HX.out.2.2.1)).trans HX.out.2.2.1, (HL.out.cell (cell_lt HX.out.2.2.2.1)).trans HX.out.2.2.2.1, (HL.out.cell (cell_lt HX.out.2.2.2.2)).trans HX.out.2.2.2.2⟩
            | go_keep)
          (first
            | (go_at_call 45; refine (HCk.out _ HHL.out).mono ?_; rintro e w2 ⟨q, rfl, hq, hC1, hb1⟩; have HL := Lib.hid (HHL.out.trans (hb1.mono HHL.out.size)); have HC1 := Lib.hid (And.intro hC1 hq); clear hC1 hb1 hq)
            | (go_at_call 19; refine (HSt.out _ _ _ HC1.out.1 HL.out).mono ?_; rintro e w3 ⟨rfl, hC3, hT3⟩; replace HL := Lib.hid (HL.out.trans (hT3.below HL.out.size)); clear hC3 hT3))
        have HB2 := Lib.hid (HB.out.trans (HL.out.mono HB.out.size))
        have HA2 : Hid (∀ n ∈ op.take (k + 1), accB K x n) := Lib.hid (by
          intro n hn
          rw [HTk.out, List.mem_append] at hn
          rcases hn with hn | hn
          · exact HA.out n hn
          · rw [List.mem_singleton] at hn
            intro q hq hqn
            have : q = r := ap_same HI.out.rep.rest.ap hq HRun.out.1 (by rw [hqn, hn, HRun.out.2.1])
            rw [this, HE1.out]
            exact HZ.out)
        go_wp2
        go_roundw
        case rel => exact ⟨k + 1, hlk, by go_num, HA2, HB2⟩
        case measure => first | (simp [intOf]; done) | (simp [intOf]; omega)
    case neg =>
      have hke : k = nO := by omega
      subst hke
      have hall : ∀ n ∈ op, accB K x n := by
        have := HA.out
        rwa [List.take_of_length_le (by rw [HO.out]; exact Nat.le_refl _)] at this
      have HAll := Lib.hid hall
      have hbw := HBx.out.trans (HB.out.mono HBx.out.size)
      have HBw := Lib.hid hbw
      obtain ⟨sz, hsz⟩ : ∃ sz, sizeA s.m = sz := ⟨_, rfl⟩
      have hsz200 : sz ≤ 200 := by rw [← hsz]; exact HInv.out.sz
      have hRw := (HI.out.rep.below hbw)
      rw [hsz] at hRw
      obtain ⟨y0', y1', y2', _⟩ := hRw.rest.cells
      have x1 : wr.cell? ⟨w.heap.size + 1, 1, none⟩ = some (.string x.t) := (HB.out.cell (p := ⟨w.heap.size + 1, 1, none⟩) HbX.out.lt).trans (HbX.out.cell 1)
      have x2 : wr.cell? ⟨w.heap.size + 1, 2, none⟩ = some (.string x.v) := (HB.out.cell (p := ⟨w.heap.size + 1, 2, none⟩) HbX.out.lt).trans (HbX.out.cell 2)
      have y0 : wr.cell? ⟨w.heap.size, 0, none⟩ = some (.pointer (some ⟨a, 0, none⟩)) := (HB.out.cell (p := ⟨w.heap.size, 0, none⟩) HbA.out.lt).trans (HbA.out.cell 0)
      obtain ⟨N1, hN1⟩ : ∃ N1, x.t.size + x.v.size = N1 := ⟨_, rfl⟩
      obtain ⟨N2, hN2⟩ : ∃ N2, N1 + 1 = N2 := ⟨_, rfl⟩
      obtain ⟨Q, hQ⟩ : ∃ Q, k * N2 = Q := ⟨_, rfl⟩
      obtain ⟨N4, hN4⟩ : ∃ N4, sz + Q = N4 := ⟨_, rfl⟩
      have hQb : Q ≤ 200 * N2 := by rw [← hQ]; exact Nat.mul_le_mul_right _ hnO2
      have w1 : IntKind.i64.wrap ((x.t.size : Int) + (x.v.size : Int)) = (N1 : Int) := by rw [IntWalk.i64_in _ (by omega)]; omega
      have w2 : IntKind.i64.wrap ((N1 : Int) + 1) = (N2 : Int) := by rw [IntWalk.i64_in _ (by omega)]; omega
      have w3 : IntKind.i64.wrap ((k : Int) * (N2 : Int)) = (Q : Int) := by
        have e : (k : Int) * (N2 : Int) = (Q : Int) := by rw [← hQ]; exact (Int.natCast_mul k N2).symm
        rw [e, IntWalk.i64_in _ (by omega)]
      have w4 : IntKind.i64.wrap ((sz : Int) + (Q : Int)) = (N4 : Int) := by rw [IntWalk.i64_in _ (by omega)]; omega
      have hN4b : N4 ≤ 9000000000000000000 := by omega
      have hNE : Hid (sizeA s.m + (pend s.m).length * evSz x = N4) := Lib.hid (by rw [pend_len HI.out.perm, HO.out, hsz]; unfold evSz; rw [hN1, hN2, hQ, hN4])
      have hTk := takes_yes HI.out.ent HI.out.perm hall
      have HTk := Lib.hid hTk
      clear hTk hall hbw hRw hsz hN1 hN2 hQ hN4 hQb hsz200 c1
      go_wp2
      go_quiet (fail)
      clear w1 w2 w3 w4
      have hbq : Below W.heap.size W (wr.drewN nq) := below_drewN HB.out nq
      have HBq := Lib.hid hbq
      have hRq := ((HI.out.rep.below (HBw.out.trans (below_drewN (Below.refl _ _) nq |>.mono HBw.out.size))))
      have HRq := Lib.hid hRq
      generalize wr.drewN nq = wq at *
      clear hbq hRq HBw HB HA y0' y1' y2' x1 x2 y0
      have hcE : Hid (Below w.heap.size w wq) := Lib.hid (HBx.out.trans (HBq.out.mono HBx.out.size))
      by_cases h200 : 200 < N4
      · have z : decide ((200 : Int) < (N4 : Int)) = true := by rw [decide_eq_true_iff]; omega
        have hEq : E = 12 := by
          rw [← HE.out]
          unfold stepAE
          rw [if_neg (by rw [HTk.out]; decide), if_pos (by rw [hNE.out]; exact h200)]
        have hM : stepAM s x = s := by unfold stepAM; rw [if_neg (by rw [HE.out, hEq]; decide)]
        have HF := Lib.hid (And.intro hEq hM)
        clear hEq hM h200
        go_wp2
        go_ret
        exact ⟨by rw [HF.out.1]; rfl, by rw [HF.out.2]; exact HI.out.back HS.out.1 hcE.out, TS.of_below hcE.out⟩
      · have z : decide ((200 : Int) < (N4 : Int)) = false := by rw [decide_eq_false_iff_not]; omega
        have hEq : E = 0 := by
          rw [← HE.out]
          unfold stepAE
          rw [if_neg (by rw [HTk.out]; decide), if_neg (by rw [hNE.out]; exact h200)]
        have hM : stepAM s x = { s with m := s.m.map (pushA x) } := by unfold stepAM; rw [if_pos (by rw [HE.out, hEq])]
        have HEM := Lib.hid (And.intro hEq hM)
        have hRU : ARep wq (Up S W) a K op (sizeA s.m) s.told mb (.slice Ao k co) := HRq.out.mono fun _ _ h => .inl h
        obtain ⟨hR1, hT1⟩ := hRU.rest.setA 2 (.int .i64 (N4 : Int)) (ov' := .slice Ao k co) (size' := N4) (told' := s.told) rfl
        have ho1 : ORow (wq.setCell ⟨a, 2, none⟩ (.int .i64 (N4 : Int))) 0 9 (.slice Ao k co) (op.map strV) := row_ts HRq.out.opn hT1 (.inr fun _ _ => by simp only [kA]; decide)
        have u2 := HRq.out.rest.cells.2.2.1
        have f2 := HRq.out.rest.blk.frozen 2
        have l2 := HRq.out.rest.blk.lt
        have y0 : wq.cell? ⟨w.heap.size, 0, none⟩ = some (.pointer (some ⟨a, 0, none⟩)) := (HBq.out.cell (p := ⟨w.heap.size, 0, none⟩) HbA.out.lt).trans (HbA.out.cell 0)
        have y1 : (wq.setCell ⟨a, 2, none⟩ (.int .i64 (N4 : Int))).cell? ⟨a, 1, none⟩ = some (.slice Ao k co) := hR1.cells.2.1
        have hTW : TS (Up S W) anyO W (wq.setCell ⟨a, 2, none⟩ (.int .i64 (N4 : Int))) := (TS.of_below HBq.out).trans hT1.any
        have y2 : (wq.setCell ⟨a, 2, none⟩ (.int .i64 (N4 : Int))).cell? ⟨w.heap.size, 0, none⟩ = some (.pointer (some ⟨a, 0, none⟩)) := (HbA.out.ts hTW (.inl (by
          have h1 := HS.out.1; have h2 := HbA.out.lt
          rintro (h | h)
          · have := h1 _ h; omega
          · omega))).cell 0
        have HRl := Lib.hid (And.intro hR1 (And.intro ho1 (And.intro hTW (show K.map ARec.ent = K.map (pushL (op.take 0) x) from by congr 1))))
        have HAw := Lib.hid d1
        clear hEq hM h200 hRU hR1 hT1 ho1 hTW d1
        go_wp2
        go_loopw [61] (fun i wr2 => ∃ (k2 : Nat) (K2 : List ARec), k2 ≤ k ∧ i = .int .i64 (k2 : Int) ∧ Hid (ARest wr2 (Up S W) a K2 N4 s.told mb (.slice Ao k co) ∧ ORow wr2 0 9 (.slice Ao k co) (op.map strV) ∧ TS (Up S W) anyO W wr2 ∧ K2.map ARec.ent = K.map (pushL (op.take k2) x))) (fun i _ => k - (intOf i).toNat)
        case atStart => exact ⟨0, K, Nat.zero_le _, rfl, HRl⟩
        case round =>
          obtain ⟨k2, K2, hk2, rfl, HR⟩ := hrel
          have hnS : ¬ Up S W w.heap.size ∧ ¬ Up S W (w.heap.size + 1) := by
            have h1 := HS.out.1; have h2 := HbA.out.lt; have h3 := HbX.out.lt
            constructor
            · rintro (h | h)
              · have := h1 _ h; omega
              · omega
            · rintro (h | h)
              · have := h1 _ h; omega
              · omega
          have HbA2 := Lib.hid (HbA.out.ts HR.out.2.2.1 (.inl hnS.1))
          have HbX2 := Lib.hid (HbX.out.ts HR.out.2.2.1 (.inl hnS.2))
          have HnS := Lib.hid hnS
          clear y0 y1 y2 u2 f2 l2 hnS
          have y0 : wr.cell? ⟨w.heap.size, 0, none⟩ = some (.pointer (some ⟨a, 0, none⟩)) := HbA2.out.cell 0
          by_cases hl2 : k2 < k
          case pos =>
            have hkl : k2 < op.length := by rw [HO.out]; exact hl2
            obtain ⟨A9, c9, hv9, hr9⟩ := HR.out.2.1.sread
            injection hv9 with e1 e2 e3
            subst e1 e3
            clear e2
            obtain ⟨ad, rfl, hcc⟩ := hr9 (by omega)
            have hck := hcc k2 hkl
            obtain ⟨r, hrK, hrn, hru⟩ := mem_pend HI.out.ent HI.out.perm (List.getElem_mem hkl)
            obtain ⟨nk, hnk⟩ : ∃ nk, op[k2] = nk := ⟨_, rfl⟩
            have hTk := List.take_succ_eq_append_getElem hkl
            have hnd : op[k2] ∉ op.take k2 := by
              have h1 : op.Nodup := HI.out.perm.nodup_iff.2 (pend_nodup HInv.out.nd)
              have h2 := h1.sublist (List.take_sublist (k2 + 1) op)
              rw [hTk, List.nodup_append] at h2
              exact fun hm => h2.2.2 _ hm _ (List.mem_singleton.2 rfl) rfl
            rw [hnk] at hrn hck hTk hnd
            obtain ⟨r2, hr2K, hr2n, hr2e⟩ := pushL_at HR.out.2.2.2 hrK (by rw [hrn]; exact hnd)
            have hok := HI.out.ok r hrK
            have hr2R := HR.out.1.recs r2 hr2K
            have hlkn := lookK_mem (ap_names HR.out.1.ap) hr2K
            rw [← strOf_l r2.nm] at hlkn
            have hrun := HR.out.1.map.look (n := ⟨r2.nm.toArray⟩) (by rw [str_size, hr2n]; have := hok.nm; omega) hlkn
            rw [hr2n, hrn] at hrun
            have y1 : wr.cell? ⟨a, 0, none⟩ = some (.map (some mb)) := HR.out.1.cells.1
            obtain ⟨Av, cv, hlv⟩ := hr2R.row.shape
            obtain ⟨nL, hnL⟩ : ∃ nL, r2.evs.length = nL := ⟨_, rfl⟩
            rw [hnL] at hlv
            have hnL2 : nL ≤ 1000 := by rw [← hnL, hr2e]; exact hok.n
            have b0 : wr.cell? ⟨r2.p, 0, none⟩ = some (.slice Av nL cv) := by rw [← hlv]; exact hr2R.blk.cell 0
            have x0 : wr.cell? ⟨w.heap.size + 1, 0, none⟩ = some (.int .i64 x.k) := HbX2.out.cell 0
            have x1 : wr.cell? ⟨w.heap.size + 1, 1, none⟩ = some (.string x.t) := HbX2.out.cell 1
            have x2 : wr.cell? ⟨w.heap.size + 1, 2, none⟩ = some (.string x.v) := HbX2.out.cell 2
            have HQ := Lib.hid (And.intro hr2K (And.intro hr2n (And.intro hr2e (And.intro hrn (And.intro hTk (And.intro hnd (And.intro hlv (And.intro hnL hr2R))))))))
            have HAp := Lib.hid (fun (w' : World) => apart_any w' x hxs hxv)
            unfold evV at HAp
            clear hcc hrK hrn hru hTk hnd hr2K hr2n hr2e hok hlkn hlv hnL hr2R hnk hkl hr9
            generalize (⟨nk.toArray⟩ : ByteArray) = nn at hck hrun
            go_wp2
            refine region_g [11] (S := (fun W' => W'.cell? ⟨r2.p, 0, none⟩ = some (.slice Av nL cv) ∧ W'.cell? ⟨w.heap.size + 1, 0, none⟩ = some (.int .i64 x.k) ∧ W'.cell? ⟨w.heap.size + 1, 1, none⟩ = some (.string x.t) ∧ W'.cell? ⟨w.heap.size + 1, 2, none⟩ = some (.string x.v))) (by kernel_rfl) ⟨b0, x0, x1, x2⟩ (fun hH => ?_)
            refine g_take (i := 0) (v := .pointer (some ⟨r2.p, 0, none⟩)) (by rfl) (by kernel_rfl) (by kernel_rfl) (by kernel_rfl) (by kernel_rfl) (fun _ _ _ h => (by cases h.1)) (Or.inl ⟨by rfl, fun W' hS => (by obtain ⟨s0, s1, s2, s3⟩ := hS; go_simp)⟩) hH ?_
            simp only [Act.put, List.setIfInBounds_toArray, List.set_cons_zero, List.set_cons_succ]
            refine g_take (i := 1) (v := .pointer (some ⟨r2.p, 0, none⟩)) (by rfl) (by kernel_rfl) (by kernel_rfl) (by kernel_rfl) (by kernel_rfl) (fun _ _ _ h => (by cases h.1)) (Or.inl ⟨by rfl, fun W' hS => (by obtain ⟨s0, s1, s2, s3⟩ := hS; go_simp)⟩) hH ?_
            simp only [Act.put, List.setIfInBounds_toArray, List.set_cons_zero, List.set_cons_succ]
            refine g_take (i := 2) (v := .pointer (some ⟨r2.p, 0, none⟩)) (by rfl) (by kernel_rfl) (by kernel_rfl) (by kernel_rfl) (by kernel_rfl) (fun _ _ _ h => (by cases h.1)) (Or.inl ⟨by rfl, fun W' hS => (by obtain ⟨s0, s1, s2, s3⟩ := hS; go_simp)⟩) hH ?_
            simp only [Act.put, List.setIfInBounds_toArray, List.set_cons_zero, List.set_cons_succ]
            refine g_take (i := 3) (v := .pointer (some ⟨r2.p, 0, none⟩)) (by rfl) (by kernel_rfl) (by kernel_rfl) (by kernel_rfl) (by kernel_rfl) (fun _ _ _ h => (by cases h.1)) (Or.inl ⟨by rfl, fun W' hS => (by obtain ⟨s0, s1, s2, s3⟩ := hS; go_simp)⟩) hH ?_
            simp only [Act.put, List.setIfInBounds_toArray, List.set_cons_zero, List.set_cons_succ]
            refine g_take (i := 4) (v := .slice Av nL cv) (by rfl) (by kernel_rfl) (by kernel_rfl) (by kernel_rfl) (by kernel_rfl) (fun _ _ _ h => (by cases h.1)) (Or.inl ⟨by rfl, fun W' hS => (by obtain ⟨s0, s1, s2, s3⟩ := hS; go_simp)⟩) hH ?_
            simp only [Act.put, List.setIfInBounds_toArray, List.set_cons_zero, List.set_cons_succ]
            refine g_take (i := 5) (v := .agg #[.int .i64 x.k, .string x.t, .string x.v]) (by rfl) (by kernel_rfl) (by kernel_rfl) (by kernel_rfl) (by kernel_rfl) (fun _ _ _ h => (by cases h.1)) (Or.inl ⟨by rfl, fun W' hS => (by obtain ⟨s0, s1, s2, s3⟩ := hS; go_simp)⟩) hH ?_
            simp only [Act.put, List.setIfInBounds_toArray, List.set_cons_zero, List.set_cons_succ]
            refine g_one (i := 6) (by kernel_rfl) (by rfl) (fun K' hK' => ?_)
            go_simp
            refine (HAp.out _).mono ?_
            rintro e w3 ⟨rfl, hb3⟩
            have hbr : Below wr.heap.size wr w3 := (below_drew (Below.refl wr.heap.size wr)).trans hb3
            refine hK'.out _ _ (fun _ => ⟨(hbr.cell (cell_lt b0)).trans b0, (hbr.cell (cell_lt x0)).trans x0, (hbr.cell (cell_lt x1)).trans x1, (hbr.cell (cell_lt x2)).trans x2⟩) (fun _ => ?_)
            clear hK' K'
            try simp only [Act.put, List.setIfInBounds_toArray, List.set_cons_zero, List.set_cons_succ]
            have hba : Below wr.heap.size wr (w3.alloc (.cells #[.int .i64 x.k, .string x.t, .string x.v] 38)) := hbr.alloc hbr.size _
            refine g_one (i := 7) (by kernel_rfl) (by rfl) (fun K' hK' => ?_)
            go_simp
            refine hK'.out _ _ (fun _ => ⟨(hba.cell (cell_lt b0)).trans b0, (hba.cell (cell_lt x0)).trans x0, (hba.cell (cell_lt x1)).trans x1, (hba.cell (cell_lt x2)).trans x2⟩) (fun _ => ?_)
            clear hK' K' hH
            have hrow4 : (w3.alloc (.cells #[.int .i64 x.k, .string x.t, .string x.v] 38)).ownsRow 0 38 3 (.slice Av nL cv) nL (evcs r2.evs) := by
              obtain ⟨_, _, _, _, _, _, q7, q8, q9⟩ := HQ.out
              have := q9.row.below hba
              unfold ERow at this
              rw [q7, q8] at this
              exact this
            have h63 : nL + 1 ≤ maxLen := by simp only [maxLen]; omega
            have h40 : (nL + 1) * 40 ≤ 140737488355328 := by omega
            refine g_one (i := 8) (by kernel_rfl) (by rfl) (fun K' hK' => ?_)
            refine step_appX (by rfl) (.tmp 75) (.tmp 78) 24 (by rfl) 0 38 _ 3 40 Tryz.underlying24 Tryz.infoEv (by rfl) (by decide) (.slice Av nL cv) nL (evcs r2.evs) [.int .i64 x.k, .string x.t, .string x.v] (by rfl) hrow4 (by simp [Value.oneCell']) ⟨w3.heap.size, 0, none⟩ 1 1 (by rfl) (by rfl) (by exact cellsOf3 w3 _ _ _ _) h63 h40 (Nat.zero_le _) ?_
            intro v4 w4 hown4 hg4 hnb4
            obtain ⟨g4, c4, rfl⟩ := rowN_shape hown4 (Nat.succ_pos _)
            obtain ⟨q1, q2, q3, q4, q5, q6, q7, q8, q9⟩ := HQ.out
            have hup : ∀ k, (w3.alloc (.cells #[.int .i64 x.k, .string x.t, .string x.v] 38)).heap.size ≤ k → Up S W k := fun k hk => .inr (by have h1 := HR.out.2.2.1.size; have h2 := hba.size; omega)
            have hrow5 : ERow w4 0 (.slice (some ⟨g4, 0, none⟩) (nL + 1) c4) (r2.evs ++ [x]) := by
              unfold ERow
              rw [evcs_snoc, List.length_append, List.length_singleton, q8]
              exact hown4
            obtain ⟨hR5, hT5, hB4, hO5⟩ := (HR.out.1.below hba).push q1 (x := x) (lv' := .slice (some ⟨g4, 0, none⟩) (nL + 1) c4) (by rw [q7]; exact hg4) hrow5 (by rw [q7]; exact hnb4) hup
            have hT6 : TS (Up S W) anyO W _ := (HR.out.2.2.1.trans (TS.of_below hba)).trans hT5
            have hO6 := hO5 _ _ (HR.out.2.1.below hba (row_lt HR.out.2.1))
            have HN := Lib.hid (And.intro hR5 (And.intro hT6 hO6))
            have hX4 : Blk w4 (w.heap.size + 1) 38 #[.int .i64 x.k, .string x.t, .string x.v] := by
              have h1 := (HbX2.out.ts (TS.of_below (S := Up S W) (p := anyO) hba) (.inl HnS.out.2)).ts (TS.of_row (p := anyO) hrow4 hg4 (fun g hg => q9.sr g (by rw [q7]; exact hg)) (fun _ => trivial)) (.inl HnS.out.2)
              exact h1
            rw [q7] at hB4
            have hH : w4.cell? ⟨r2.p, 0, none⟩ = some (.slice Av nL cv) ∧ w4.cell? ⟨w.heap.size + 1, 0, none⟩ = some (.int .i64 x.k) ∧ w4.cell? ⟨w.heap.size + 1, 1, none⟩ = some (.string x.t) ∧ w4.cell? ⟨w.heap.size + 1, 2, none⟩ = some (.string x.v) := ⟨hB4.cell 0, hX4.cell 0, hX4.cell 1, hX4.cell 2⟩
            refine hK'.out _ _ (fun _ => hH) (fun _ => ?_)
            clear hK' K' hR5 hT5 hT6 hO6 hO5 hrow5 hup hX4 hown4 hg4 hnb4 hrow4
            simp only [Act.put, List.setIfInBounds_toArray, List.set_cons_zero, List.set_cons_succ]
            refine g_one (i := 9) (by kernel_rfl) (by rfl) (fun K' hK' => ?_)
            go_simp
            refine hK'.out _ _ (fun _ => hH) (fun _ => ?_)
            clear hK' K'
            refine g_one (i := 10) (by kernel_rfl) (by rfl) (fun K' hK' => ?_)
            go_simp
            refine hK'.out _ _ (fun _ => hH) (fun _ => ?_)
            clear hK' K'
            have d1 := hB4.cell 0
            have f1 := hB4.frozen 0
            have dl := hB4.lt
            refine g_one (i := 11) (by kernel_rfl) (by rfl) (fun K' hK' => ?_)
            go_simp
            refine hK'.out _ _ (fun h => absurd (List.mem_singleton.2 rfl) h) (fun _ => ?_)
            clear hK' K'
            refine g_done (by kernel_rfl) ⟨by first | rfl | trivial, ?_⟩ _
            have HR2 : Hid (ARest (w4.setCell ⟨r2.p, 0, none⟩ (.slice (some ⟨g4, 0, none⟩) (nL + 1) c4)) (Up S W) a (K2.map (putR r2.nm x (.slice (some ⟨g4, 0, none⟩) (nL + 1) c4))) N4 s.told mb (.slice (some ad) k co) ∧ ORow (w4.setCell ⟨r2.p, 0, none⟩ (.slice (some ⟨g4, 0, none⟩) (nL + 1) c4)) 0 9 (.slice (some ad) k co) (op.map strV) ∧ TS (Up S W) anyO W (w4.setCell ⟨r2.p, 0, none⟩ (.slice (some ⟨g4, 0, none⟩) (nL + 1) c4)) ∧ (K2.map (putR r2.nm x (.slice (some ⟨g4, 0, none⟩) (nL + 1) c4))).map ARec.ent = K.map (pushL (op.take (k2 + 1)) x)) :=
              Lib.hid ⟨HN.out.1, HN.out.2.2, HN.out.2.1, by rw [q5, q2, q4]; exact pushL_next HR.out.2.2.2 q6⟩
            clear q1 q2 q3 q4 q5 q6 q7 q8 q9 hH hB4 d1 f1 dl HN hba hbr hb3 y0 y1 b0 x0 x1 x2 hrun hck
            go_wp2
            go_roundw
            case rel => exact ⟨k2 + 1, _, hl2, by go_num, HR2⟩
            case measure => first | (simp [intOf]; done) | (simp [intOf]; omega)
          case neg =>
            have hke2 : k2 = k := by omega
            have hpush : K2.map ARec.ent = s.m.map (pushA x) := by
              rw [HR.out.2.2.2, List.take_of_length_le (by rw [HO.out]; omega)]
              exact pushL_all HI.out.ent HInv.out.nd HI.out.perm x
            have hI2 : AInv { s with m := s.m.map (pushA x) } := by
              have := ainv_step HInv.out x
              rwa [HEM.out.2] at this
            have hnd2 : (namesA (s.m.map (pushA x))).Nodup := hI2.nd
            have hso : ∀ g, (Value.slice Ao k co).ownBlock = some g → Up S W g := fun g hg => .inl (HI.out.rep.so g hg)
            have hPd : PdOk wr.drew (fun g => (Value.slice Ao k co).ownBlock = some g) w.heap.size op (qd (s.m.map (pushA x))) := by
              intro w' hT n hn
              obtain ⟨r, hrK, hrn, _⟩ := mem_pend HI.out.ent HI.out.perm hn
              have h1 : n ∈ K2.map (·.nm) := by
                rw [open_names hpush, names_push, ← open_names HI.out.ent]
                exact List.mem_map.2 ⟨r, hrK, hrn⟩
              obtain ⟨r2, hr2, rfl⟩ := List.mem_map.1 h1
              have he2 : r2.ent ∈ s.m.map (pushA x) := by rw [← hpush]; exact List.mem_map_of_mem hr2
              have hq : qd (s.m.map (pushA x)) r2.nm = knownB r2.evs := by
                have h2 := lookA_mem hnd2 he2
                have h4 : lookA r2.nm (s.m.map (pushA x)) = some r2.evs := h2
                unfold qd
                rw [h4]
              obtain ⟨o1, o2⟩ := ainv_okE hI2 he2
              have o3 : localL r2.nm = true := (hI2.ok _ he2).2
              have hT2 : TS (Up S W) kO wr w' := ((TS.refl _ _ wr).drew).trans (hT.mono hso)
              have hbx : w'.cell? ⟨w.heap.size, 0, none⟩ = some (.pointer (some ⟨a, 0, none⟩)) := (HbA2.out.ts hT2 (.inl HnS.out.1)).cell 0
              have hB' : ∀ k, Up S W k → B ≤ k := by
                rintro k (h | h)
                · exact HS.out.2.1 k h
                · have h1 := HS.out.2.2.1; have h2 := HBx.out.size; omega
              have hW1 : SWB B W := HS.out.2.2.2.below (HBx.out.mono HS.out.2.2.1)
              have hW2 : SWB B w' := (hW1.ts HR.out.2.2.1 (Nat.le_trans HS.out.2.2.1 HBx.out.size) hB').ts hT2 (Nat.le_trans (Nat.le_trans HS.out.2.2.1 HBx.out.size) HR.out.2.2.1.size) hB'
              rw [hq]
              refine clo_any w' (Up S W) a w.heap.size K2 N4 s.told mb (.slice Ao k co) (HR.out.1.kO hT2) hbx r2 hr2 ⟨o1, by have : r2.evs.length ≤ 200 := o2; omega, ?_⟩ hW2.std
              have := local_size (n := ⟨r2.nm.toArray⟩) (by rw [strOf_l]; exact o3)
              rwa [str_size] at this
            have hD := del_any wr.drew w.heap.size (.slice Ao k co) op _ HR.out.2.1.drew (by rw [HO.out]; omega) hPd
            unfold fvD at hD
            have HD := Lib.hid hD
            have HP := Lib.hid (And.intro hpush (And.intro hnd2 hso))
            have y1 : wr.cell? ⟨a, 1, none⟩ = some (.slice Ao k co) := HR.out.1.cells.2.1
            clear hD hPd hpush hI2 hnd2 hso
            go_wp2
            refine region_g [9] (S := (fun W' => W'.cell? ⟨w.heap.size, 0, none⟩ = some (.pointer (some ⟨a, 0, none⟩)) ∧ W'.cell? ⟨a, 1, none⟩ = some (.slice Ao k co))) (by kernel_rfl) ⟨y0, y1⟩ (fun hH => ?_)
            refine g_take (i := 0) (v := .pointer (some ⟨a, 0, none⟩)) (by rfl) (by kernel_rfl) (by kernel_rfl) (by kernel_rfl) (by kernel_rfl) (fun _ _ _ h => (by cases h.1)) (Or.inl ⟨by rfl, fun W' hS => (by obtain ⟨s0, s1⟩ := hS; go_simp)⟩) hH ?_
            simp only [Act.put, List.setIfInBounds_toArray, List.set_cons_zero, List.set_cons_succ]
            refine g_take (i := 1) (v := .pointer (some ⟨a, 0, none⟩)) (by rfl) (by kernel_rfl) (by kernel_rfl) (by kernel_rfl) (by kernel_rfl) (fun _ _ _ h => (by cases h.1)) (Or.inl ⟨by rfl, fun W' hS => (by obtain ⟨s0, s1⟩ := hS; go_simp)⟩) hH ?_
            simp only [Act.put, List.setIfInBounds_toArray, List.set_cons_zero, List.set_cons_succ]
            refine g_take (i := 2) (v := .pointer (some ⟨a, 0, none⟩)) (by rfl) (by kernel_rfl) (by kernel_rfl) (by kernel_rfl) (by kernel_rfl) (fun _ _ _ h => (by cases h.1)) (Or.inl ⟨by rfl, fun W' hS => (by obtain ⟨s0, s1⟩ := hS; go_simp)⟩) hH ?_
            simp only [Act.put, List.setIfInBounds_toArray, List.set_cons_zero, List.set_cons_succ]
            refine g_take (i := 3) (v := .pointer (some ⟨a, 1, none⟩)) (by rfl) (by kernel_rfl) (by kernel_rfl) (by kernel_rfl) (by kernel_rfl) (fun _ _ _ h => (by cases h.1)) (Or.inl ⟨by rfl, fun W' hS => (by obtain ⟨s0, s1⟩ := hS; go_simp)⟩) hH ?_
            simp only [Act.put, List.setIfInBounds_toArray, List.set_cons_zero, List.set_cons_succ]
            refine g_take (i := 4) (v := .slice Ao k co) (by rfl) (by kernel_rfl) (by kernel_rfl) (by kernel_rfl) (by kernel_rfl) (fun _ _ _ h => (by cases h.1)) (Or.inl ⟨by rfl, fun W' hS => (by obtain ⟨s0, s1⟩ := hS; go_simp)⟩) hH ?_
            simp only [Act.put, List.setIfInBounds_toArray, List.set_cons_zero, List.set_cons_succ]
            refine g_take (i := 5) (v := .func (.func 48) #[] #[.pointer (some ⟨w.heap.size, 0, none⟩)]) (by rfl) (by kernel_rfl) (by kernel_rfl) (by kernel_rfl) (by kernel_rfl) (fun _ _ _ h => (by cases h.1)) (Or.inl ⟨by rfl, fun W' hS => (by obtain ⟨s0, s1⟩ := hS; go_simp)⟩) hH ?_
            simp only [Act.put, List.setIfInBounds_toArray, List.set_cons_zero, List.set_cons_succ]
            refine g_one (i := 6) (by kernel_rfl) (by rfl) (fun K' hK' => ?_)
            go_simp
            refine HD.out.mono ?_
            rintro e w3 ⟨v3, rfl, ho3, hv3, hT3⟩
            have hT3u : TS (Up S W) kO wr w3 := ((TS.refl _ _ wr).drew).trans (hT3.mono HP.out.2.2)
            have hR3 := HR.out.1.kO hT3u
            have hB3 := HbA2.out.ts hT3u (.inl HnS.out.1)
            obtain ⟨A3, c3, hv⟩ := ho3.shape
            obtain ⟨n3, hn3⟩ : ∃ n3, ((op.filter fun n => !qd (s.m.map (pushA x)) n).map strV).length = n3 := ⟨_, rfl⟩
            rw [hn3] at hv
            subst hv
            obtain ⟨hR5, hT5⟩ := hR3.setA 1 (.slice A3 n3 c3) (ov' := .slice A3 n3 c3) (size' := N4) (told' := s.told) rfl
            have ho5 : ORow (w3.setCell ⟨a, 1, none⟩ (.slice A3 n3 c3)) 0 9 (.slice A3 n3 c3) ((op.filter fun n => !qd (s.m.map (pushA x)) n).map strV) := row_ts ho3 hT5 (.inr fun _ _ => by simp only [kA]; decide)
            have hTT : TS (Up S W) anyO W (w3.setCell ⟨a, 1, none⟩ (.slice A3 n3 c3)) := (HR.out.2.2.1.trans hT3u.any).trans hT5.any
            have HN := Lib.hid (And.intro hR5 (And.intro ho5 (And.intro hTT (fun g hg => HP.out.2.2 g (hv3 g hg)))))
            have hH : w3.cell? ⟨w.heap.size, 0, none⟩ = some (.pointer (some ⟨a, 0, none⟩)) ∧ w3.cell? ⟨a, 1, none⟩ = some (.slice Ao k co) := ⟨hB3.cell 0, hR3.cells.2.1⟩
            refine hK'.out _ _ (fun _ => hH) (fun _ => ?_)
            clear hK' K'
            try simp only [Act.put, List.setIfInBounds_toArray, List.set_cons_zero, List.set_cons_succ]
            have d1 := hR3.cells.2.1
            have f1 := hR3.blk.frozen 1
            have dl := hR3.blk.lt
            clear hn3 hR5 ho5 hTT ho3 hv3 hT3 hT3u hR3 hB3 hT5
            refine g_one (i := 7) (by kernel_rfl) (by rfl) (fun K' hK' => ?_)
            go_simp
            refine hK'.out _ _ (fun _ => hH) (fun _ => ?_)
            clear hK' K'
            refine g_one (i := 8) (by kernel_rfl) (by rfl) (fun K' hK' => ?_)
            go_simp
            refine hK'.out _ _ (fun _ => hH) (fun _ => ?_)
            clear hK' K'
            refine g_one (i := 9) (by kernel_rfl) (by rfl) (fun K' hK' => ?_)
            go_simp
            refine hK'.out _ _ (fun h => absurd (List.mem_singleton.2 rfl) h) (fun _ => ?_)
            clear hK' K'
            refine g_done (by kernel_rfl) ⟨by first | rfl | trivial, ?_⟩ _
            clear hH d1 f1 dl y0 y1
            go_wp2
            go_ret
            have hTw : TS S anyO w (w3.setCell ⟨a, 1, none⟩ (.slice A3 n3 c3)) := by
              have h1 : TS (Up S w) anyO w (w3.setCell ⟨a, 1, none⟩ (.slice A3 n3 c3)) := (TS.of_below HBx.out).trans (HN.out.2.2.1.mono fun k hk => hk.imp id fun h => Nat.le_trans HBx.out.size h)
              exact h1.cut
            refine ⟨by rw [HEM.out.1]; rfl, ?_, hTw⟩
            rw [HEM.out.2]
            refine AAt.mk' HS.out.1 hTw.size (ov := .slice A3 n3 c3) (K := K2) (op := op.filter fun n => !qd (s.m.map (pushA x)) n) (mb := mb) ?_ HP.out.1 ?_
            · have h1 : ARep (w3.setCell ⟨a, 1, none⟩ (.slice A3 n3 c3)) (Up S W) a K2 (op.filter fun n => !qd (s.m.map (pushA x)) n) N4 s.told mb (.slice A3 n3 c3) := ⟨HN.out.1, HN.out.2.2.2, HN.out.2.1⟩
              have h2 : sizeA (s.m.map (pushA x)) = N4 := by rw [sizeA_push]; exact hNE.out
              show ARep _ (Up S w) a K2 _ (sizeA (s.m.map (pushA x))) s.told mb _
              rw [h2]
              exact h1.mono fun k _ hk => hk.imp id fun h => Nat.le_trans HBx.out.size h
            · show (op.filter _).Perm (namesA (pend (s.m.map (pushA x))))
              rw [pend_push HInv.out.nd]
              exact HI.out.perm.filter _
end Go.Proofs.YtalkjgijmceifaaGreatDoor

/-
  paren: its machine as one that a Stream drives; Decode.
  Words for the laws of decoders: bytes appended that came in; bytes as a string; rows that are written over.
  The laws of paren: lives, few.
  The walk of ParenWhole.
-/
import Derived.Test.YtmimadkepflmlaaGreatDoorPaZ31
import Derived.Test.YtmimadkepflmlaaGreatDoorPaZ32
import Derived.Test.YtmimadkepflmlaaGreatDoorPaZ33
import Derived.Test.YtmimadkepflmlaaGreatDoorPaZ20
import Derived.Test.YtmimadkepflmlaaGreatDoorPaZ18
import Derived.Deep.Upon
import Derived.Lib.BufferRead
import Derived.Lib.SlBytesConst
namespace Go.Proofs.YtmimadkepflmlaaGreatDoor
open Go.RowKit Go.Maps
set_option maxRecDepth 100000
set_option linter.unusedSimpArgs false
set_option linter.unusedVariables false
set_option linter.unusedSectionVars false
variable [Tab] [fo : Fo]

/-- The machine with all that it holds. -/
def PAt (w : World) (base m o ck : Nat) (s : Ps) : Prop := ∃ b2 U qp av A, PX w base b2 U m o ck s qp av A
theorem row_down {w : World} {b b' : Nat} {e : TypeId} {size n : Nat} {v : Value} {xs : List Value} (hR : w.ownsRow b' e size v n xs) (hb : b ≤ b') : w.ownsRow b e size v n xs := by
  refine ⟨hR.1, ?_⟩
  rcases hR.2 with hn | ⟨g', cap', cur, hv, hg', hh, q⟩
  · exact .inl hn
  · exact .inr ⟨g', cap', cur, hv, Nat.le_trans hb hg', hh, q⟩
theorem OutA.plain {w : World} {base b o ck : Nat} {st : List Pt} {l : List Ev} {A : Nat → Prop} (h : OutA fo w b o ck st l A) (hb : base ≤ b) : OAt w base o ck st l := by
  obtain ⟨n, hn, ⟨lv, hB, hR, hf⟩, ⟨rb, cap, qs, hq, hC⟩, hbo, ho⟩ := h
  have hl := crep_lim (Fo.plus fo A n hn) hC
  have hnf := crep_nf (Fo.plus fo A n hn) hC
  have hC' : CRep w b ck rb cap qs := crep_plus (Fo.plus fo A n hn) fo hC (fun k hk hF => hnf k hk (.inl hF)) (Nat.le_trans (Nat.le_max_left _ _) hl)
  exact ⟨⟨lv, hB, row_down hR hb, fun g hg hF => hf g hg (.inl hF)⟩, ⟨rb, cap, qs, hq, hC'.mono hb⟩, Nat.le_trans hb hbo, fun hF => ho (.inl hF)⟩
theorem OAt.outA {w : World} {b o ck : Nat} {st : List Pt} {l : List Ev} (h : OAt w b o ck st l) : OutA fo w b o ck st l (fun _ => False) := by
  obtain ⟨⟨lv, hB, hR, hf⟩, ⟨rb, cap, qs, hq, hC⟩, hbo, ho⟩ := h
  have hl := crep_lim fo hC
  have hnf := crep_nf fo hC
  refine ⟨0, fun _ h => h.elim, @OAt.mk (Fo.plus fo (fun _ => False) 0 (fun _ h => h.elim)) w b o ck st l ⟨lv, hB, hR, fun g hg hF => ?_⟩ ⟨rb, cap, qs, hq, crep_plus fo _ hC (fun k hk hF => ?_) (Nat.max_le.2 ⟨hl, Nat.zero_le _⟩)⟩ hbo (fun hF => ?_)⟩
  · exact hf g hg (hF.resolve_right id)
  · exact hnf k hk (hF.resolve_right id)
  · exact ho (hF.resolve_right id)
theorem PAt.ss {w w' : World} {base m o ck : Nat} {s : Ps} (h : PAt w base m o ck s) (ht : Tch base ssObj w w') : PAt w' base m o ck s := by
  obtain ⟨b2, U, qp, av, A, h⟩ := h
  have n2 : ∀ es c, ¬ ssObj (.map es c) := fun _ _ hc => hc
  refine ⟨b2, U, qp, av, A, h.mc.tch ht (fun cs t fr hh hc => by simp only [ssObj] at hc; rcases hh with rfl | rfl <;> exact absurd hc (by decide)), h.us.tch ht n2, h.att.tch ht (fun cs t fr hh hc => by simp only [ssObj] at hc; rcases hh with rfl | rfl <;> exact absurd hc (by decide)) n2, h.out.tch ht (fun cs t fr hh hc => by simp only [ssObj] at hc; rcases hh with rfl | rfl | rfl | rfl <;> exact absurd hc (by decide)) n2, ⟨h.b2.1, Nat.le_trans h.b2.2 ht.size⟩, fun h4 => ?_⟩
  obtain ⟨g, e, hQ, hg⟩ := h.qa h4
  exact ⟨g, e, qat_tch hQ ht (fun cs t fr hh hc => by simp only [ssObj] at hc; rcases hh with rfl | rfl <;> exact absurd hc (by decide)), hg⟩
theorem PPo.fr {w w' : World} {base b2 U B m o ck : Nat} {r : Pr} {e : Ending} (h : PPo w base b2 U m o ck r e w') (hb : base ≤ w.heap.size) : e = .returned (.int .i64 r.e) ∧ PAt w' base m o ck r.b ∧ FrG pObj base B w w' := by
  obtain ⟨h1, ⟨qp, av, A, h2⟩, h3⟩ := h
  exact ⟨h1, ⟨b2, U, qp, av, A, h2⟩, FrG.of_tch h3 hb⟩
theorem PIn.op8 {s : Ps} {n : Nat} (h : PIn s n) : s.m.op.length ≤ 100 := by
  have h1 := h.dep
  have h2 := h.good.2
  have h3 : pd s.m.du ≤ 1 := by unfold pd; split <;> omega
  omega
/-- Step, whatever the state. -/
theorem pstep_any (w : World) (base B m o ck : Nat) (s : Ps) (b : UInt8) (n : Nat) (h : PAt w base m o ck s) (hi : PIn s n) (hn : n ≤ 100000) (hw : SW base w) (hb : base ≤ w.heap.size) :
    Calls Tryz.prog 163 #[.pointer (some ⟨m, 0, none⟩), .int .u8 (b.toNat : Int), .pointer (some ⟨o, 0, none⟩)] w fun e w' => e = .returned (.int .i64 (stepP s b).e) ∧ PAt w' base m o ck (stepP s b).b ∧ FrG pObj base B w w' := by
  obtain ⟨b2, U, qp, av, A, h⟩ := h
  refine Calls.mono (R := PPo w base b2 U m o ck (stepP s b)) ?_ (fun e w' hp => PPo.fr (B := B) hp hb)
  have hl := hi.ln
  have hop := hi.op8
  have hnm := hi.mc.nml
  have hwi := hi.mc.wi
  unfold stepP
  by_cases h1 : s.m.wi = 1
  · rw [if_pos h1]
    by_cases hB : b.toNat = 10
    · rw [if_pos hB]; exact pstep_1n w base b2 U m o ck s qp av A b h h1 hB
    · rw [if_neg hB]; exact pstep_1o w base b2 U m o ck s qp av A b h h1 hB
  · rw [if_neg h1]
    by_cases h2 : s.m.wi = 2
    · rw [if_pos h2]; exact pstep_2 w base b2 U m o ck s qp av A b h h2 hi.mc.ne (by omega) hi.good (by omega) hw
    · rw [if_neg h2]
      by_cases h4 : s.m.wi = 4
      · rw [if_pos h4]
        have huf := uses_facts (hi.mc.str h4)
        refine pstep_4 w base b2 U m o ck s qp av A b h h4 hi.mc.qi (by omega) (fun h0 => ?_) hi.mc.ne hi.mc.atl hi.good (by omega) hw
        have hsa := hi.mc.sae (by omega)
        exact ⟨hsa, hi.mc.sag.resolve_left hsa⟩
      · rw [if_neg h4]
        by_cases h3 : s.m.wi = 3
        · rw [if_pos h3]
          cases hm : mayB1 s.m.nm b with
          | true => rw [if_pos rfl]; exact pstep_3d w base b2 U m o ck s qp av A b h h3 (by omega) hm
          | false =>
            rw [if_neg (by decide)]
            exact pstep_3e w base b2 U m o ck s qp av A b h h3 hm hi.mc.ne2 (by omega) hi.mc.kind hi.mc.du hi.mc.ne (by omega) (by omega) hi.good (by omega) hw
        · rw [if_neg h3]
          exact pstep_p w base b2 U m o ck s qp av A b h (by omega) hi.mc.kind hi.mc.du hi.mc.ne (fun hE => hi.mc.ne2.resolve_right (end_du hE).2) (by omega) (by omega) hi.good (by omega) hw
theorem pend_any (w : World) (base B m o ck : Nat) (s : Ps) (n : Nat) (h : PAt w base m o ck s) (hi : PIn s n) (hn : n ≤ 100000) (hw : SW base w) (hb : base ≤ w.heap.size) :
    Calls Tryz.prog 162 #[.pointer (some ⟨m, 0, none⟩), .pointer (some ⟨o, 0, none⟩)] w fun e w' => e = .returned (.int .i64 (finP s).e) ∧ OAt w' base o ck (finP s).b.st (finP s).b.l ∧ FrG pObj base B w w' := by
  obtain ⟨b2, U, qp, av, A, h⟩ := h
  have hl := hi.ln
  have hnm := hi.mc.nml
  have hC : Calls Tryz.prog 162 #[.pointer (some ⟨m, 0, none⟩), .pointer (some ⟨o, 0, none⟩)] w (PPo w base b2 U m o ck (finP s)) := by
    by_cases h3 : s.m.wi = 3
    · exact pend_3 w base b2 U m o ck s qp av A h h3 (by omega) hi.mc.ne hi.good (by omega) hw
    · exact pend_n w base b2 U m o ck s qp av A h h3
  refine hC.mono ?_
  rintro e w' ⟨h1, ⟨qp', av', A', h2⟩, h3⟩
  exact ⟨h1, h2.out.plain h2.b2.1, FrG.of_tch h3 hb⟩
def paM : Mach where
  σ := Ps
  T := 45
  fs := 163
  fe := 162
  hms := fun a w => by kernel_rfl
  hme := fun a w => by kernel_rfl
  efs := fun args w => enters_of Tryz.func163 (by kernel_rfl) rfl args w
  efe := fun args w => enters_of Tryz.func162 (by kernel_rfl) rfl args w
  x0 := ps0
  stp := fun s b => (stepP s b).b
  ste := fun s b => (stepP s b).e
  fin := fun s => (finP s).b
  fne := fun s => (finP s).e
  st := fun s => s.st
  l := fun s => s.l
  Inv := PIn
  raw := praw
  At := fun w base _ m o ck s => PAt w base m o ck s
  obj := pObj
  nss := fun cs t fr h hc => by
    simp only [pObj, tObj, pmObj, Qt.qObj] at hc
    rcases h with rfl | rfl <;> exact absurd hc (by decide)
  inv0 := pin0
  inv_step := fun b h he => (po2_step h b).2.2 he
  len_step := fun b h => (po2_step h b).2.1
  inv_mono := fun h hk => pin_mono h hk
  inv_len := fun h => h.ln
  raw_below := fun h hb => h.below hb
  raw_lim := fun h => by obtain ⟨_, _, h1, _⟩ := h; exact h1.lim
  start := fun h hb0 hb h1 h2 ho => by
    obtain ⟨U, hi, k1, k2, k3⟩ := h
    exact ⟨_, U, _, _, fun _ => False, k1.below hb, (k2.low (hb.mono k3)).wide (Nat.le_refl _) (Nat.le_trans k3 h1), .inl ⟨rfl, rfl, fun _ h => h⟩, ho.outA, ⟨Nat.le_trans hb0 h1, h2⟩, fun h4 => absurd h4 (by simp [ps0, pm0])⟩
  out := fun h => by obtain ⟨_, _, _, _, _, h⟩ := h; exact h.out.plain h.b2.1
  ss := fun h ht _ => h.ss ht
  step_any := fun w base B m o ck s b n h hi hn _ hw hb => pstep_any w base B m o ck s b n h hi hn hw hb
  end_any := fun w base B m o ck s n h hi hn hw hb => pend_any w base B m o ck s n h hi hn hw hb
def paW : MachW paM where
  PI := fun s => TkQ s
  tk := fun h => ⟨h.ok, h.run, h.sz⟩
  pi0 := ⟨trivial, rfl, fun x h => by cases h⟩
  step := fun b _ hi => by
    have := (po2_step hi b).1
    exact ⟨⟨this.ok, this.run, this.sz⟩, fun _ => this⟩
  fin := fun _ hi => by
    have := po2_fin hi
    exact ⟨⟨this.1.ok, this.1.run, this.1.sz⟩, this.2.2⟩
  len := fun hi => (po2_fin hi).2.1

/-- What paren.Decode tells: the events, the error, how many bytes were read. -/
def pEv (bs : List UInt8) : List Ev := (closeBs (feedG (ss0 paM) bs)).l
def pEr (bs : List UInt8) : Int := closeE (feedG (ss0 paM) bs)
def pRd (bs : List UInt8) : Nat := (feedG (ss0 paM) bs).rd

set_option maxHeartbeats 4000000 in
theorem pdecode_any (w : World) (v : Value) (bs : List UInt8) (hn : bs.length ≤ 50000) (hv : BRead w v bs) (hw : Nm.StdW w) (hfl : Fo.lim ≤ w.heap.size) :
    Calls Tryz.prog 10 #[v] w fun e w' => ∃ lv, e = .returned (.tuple #[lv, .int .i64 (pEr bs), .int .i64 (pRd bs : Int)]) ∧ ERow w' w.heap.size lv (pEv bs) ∧ Below w.heap.size w w' := by
  have hC : ∀ w1 m, praw w1 w.heap.size m → Below w.heap.size w w1 → Calls Tryz.prog 12 #[.iface 45 (.pointer (some ⟨m, 0, none⟩)), v] w1 fun e w' => ∃ lv, e = .returned (.tuple #[lv, .int .i64 (pEr bs), .int .i64 (pRd bs : Int)]) ∧ ERow w' w.heap.size lv (pEv bs) ∧ Below w.heap.size w1 w' := fun w1 m hM hb =>
    sdecode_any (M := paM) w1 w.heap.size m v bs hM hb.size hn (fun w' h => hv.below (hb.trans h)) ⟨w, hw, Nat.le_refl _, hb⟩
  have hP := pnew_any w hfl
  generalize pEr bs = E at *
  obtain ⟨R, hR⟩ : ∃ R, (pRd bs : Int) = R := ⟨_, rfl⟩
  rw [hR] at hC ⊢
  generalize pEv bs = L at *
  have HC := Lib.hid hC
  clear hC hv hR
  go_enter Tryz.func10, Tryz.ntmps10
  go_wp2_with fail
  refine hP.mono ?_
  rintro e w0 ⟨m, rfl, hM, hb0⟩
  have HD := Lib.hid (HC.out w0 m hM hb0)
  have HB0 := Lib.hid hb0
  clear hM hb0 HC hP
  go_wp2_with fail
  refine HD.out.mono ?_
  rintro e w1 ⟨lv, rfl, hRow, hb1⟩
  have HR := Lib.hid hRow
  have HB := Lib.hid (HB0.out.trans hb1)
  clear hRow hb1 HD HB0
  go_wp2
  go_ret3
  exact ⟨lv, rfl, HR.out, HB.out⟩
end Go.Proofs.YtmimadkepflmlaaGreatDoor
namespace Go.Proofs.YtmimadkepflmlaaGreatDoor
open Go.RowKit Go.Maps
set_option maxRecDepth 100000
set_option linter.unusedSimpArgs false
set_option linter.unusedVariables false
set_option linter.unusedSectionVars false
variable [Tab] [Fo]

section
variable {P : Program} {w : World}
theorem src_none (size : Nat) (tx e : TypeId) (ht : P.underlying tx = some (.slice e)) (c : Nat) : Src P size tx (.slice none 0 c) 0 [] w :=
  ⟨.inl ⟨e, ht⟩, fun w' => by simp [Builtin.lenOf], by simp [Builtin.firstCells], by simp [Builtin.firstCells], by simp, by simp⟩
/-- Bytes appended that came in. -/
theorem wp_appT {ops : Array Oper} {rest : List Oper} {o : Oper} {a : Act} {Q : Exit → Act → World → Prop} (hgd : o.guard = none) (s x : Operand) (t : TypeId)
    (ho : o.op = .call { callee := .builtin .append, args := #[s, x], argTypes := #[t, t] })
    (base : Nat) (e : TypeId) (ht : P.underlying t = some (.slice e)) (hinfo : (P.info? e).map (fun i => (i.zero, i.size, i.bytes)) = some (some (.int .u8 0), 1, 1))
    (v vx : Value) (l bs : List UInt8) (hs : a.eval s = v) (hown : ORow w base e v (l.map bV)) (hx : a.eval x = vx) (hr : BRead w vx bs)
    (h63 : l.length + bs.length ≤ 140737488355328) (hbase : base ≤ w.heap.size)
    (h : ∀ v' w', ORow w' base e v' ((l ++ bs).map bV) → w.grownBy w' v.ownBlock → NB w v v' → wpList P ops Q rest (a.put o.dst v') w') :
    wpList P ops Q (o :: rest) a w := by
  obtain ⟨A, c, rfl, hc⟩ := hr
  by_cases hb : 0 < bs.length
  · obtain ⟨ad, rfl, hcell⟩ := hc hb
    refine Qt.wp_appSg hgd s x t ho base e (.int .u8 0) 1 ht hinfo rfl v (l.map bV) (bs.map bV) hs hown (by intro u hu; simp at hu; obtain ⟨b, _, rfl⟩ := hu; rfl) ad bs.length c (by simp) hx (fun j u hj => ?_) (by simp [maxLen]; omega) (by simp; omega) hbase fun v' w' h1 h2 h3 => h v' w' (by rw [List.map_append]; exact h1) h2 h3
    have hjl : j < bs.length := by have := (List.getElem?_eq_some_iff.1 hj).1; simpa using this
    rw [hcell j hjl, List.getElem?_map, List.getElem?_eq_getElem hjl] at *
    simpa [bV] using hj
  · obtain rfl : bs = [] := List.eq_nil_of_length_eq_zero (by omega)
    cases A with
    | some ad =>
      refine Qt.wp_appSg hgd s x t ho base e (.int .u8 0) 1 ht hinfo rfl v (l.map bV) [] hs hown (by simp) ad 0 c rfl hx (by simp) (by simp [maxLen]; simp at h63; omega) (by simp; simp at h63; omega) hbase fun v' w' h1 h2 h3 => h v' w' (by simpa using h1) h2 h3
    | none =>
      obtain ⟨i, hi, hz, hsize, hby⟩ := info_parts hinfo
      refine wpList_plain hgd fun K hK => ?_
      obtain ⟨A', cap, hv⟩ := hown.shape
      have hle : (l.map bV).length ≤ cap := by
        rcases hown.form with ⟨hv', h0⟩ | ⟨g, cap', hv', _, _, hle, _⟩
        · rw [h0]; exact Nat.zero_le _
        · rw [hv] at hv'
          injection hv' with _ _ e3
          subst e3
          exact hle
      subst hv
      have hrun := run_append_nothing (P := P) w t t o.type e i ht hi A' (l.map bV).length cap hle (.slice none 0 c) (src_none _ _ _ ht c)
      unfold Oper.wp execOp
      simp only [ho, resolve, invoke, builtin, Sem.run_bind, Sem.run_pure, Result.andThen_ok, List.map_toArray, List.map_cons, List.map_nil, hs, hx, List.length_nil, hrun]
      exact hK _ _ (h _ _ (by simpa using hown) (World.grownBy.refl _ _) (.inl rfl))
/-- string(b), b having come in. -/
theorem str_of_read {v : Value} {l : List UInt8} (src dst e : TypeId) (hs : P.underlying src = some (.slice e)) (he : P.underlying e = some (.int .u8)) (hd : P.underlying dst = some .string) (h : BRead w v l) :
    (convert src dst v).run P w = .ok (.string ⟨l.toArray⟩) w := by
  obtain ⟨A, c, rfl, hc⟩ := h
  cases A with
  | some ad =>
    refine run_convert_bytes_back w src dst e ad c l hs he hd fun j hj => ?_
    obtain ⟨ad', e1, hcell⟩ := hc (by omega)
    injection e1 with e1
    subst e1
    exact hcell j hj
  | none =>
    have h0 : l = [] := by
      rcases Nat.eq_zero_or_pos l.length with h | h
      · exact List.eq_nil_of_length_eq_zero h
      · obtain ⟨_, e1, _⟩ := hc h; cases e1
    subst h0
    exact Lib.run_convert_nil_bytes w src dst e c hs he hd
end
theorem row_len {w : World} {b : Nat} {e : TypeId} {size n : Nat} {v : Value} {xs : List Value} (h : w.ownsRow b e size v n xs) : xs.length = n * size := h.1
theorem row_get {w : World} {base r : Nat} {e : TypeId} {size n cap : Nat} {xs : List Value} (h : w.ownsRow base e size (.slice (some ⟨r, 0, none⟩) n cap) n xs) {i : Nat} (hi : i < n * size) : ∃ u, w.cell? ⟨r, i, none⟩ = some u := by
  have hl := row_len h
  exact ⟨xs[i]'(by omega), by rw [rowN_cell h hi]; exact List.getElem?_eq_getElem (by omega)⟩
theorem rowX_shape {w : World} {base : Nat} {e : TypeId} {size n : Nat} {v : Value} {xs : List Value} (h : w.ownsRow base e size v n xs) : ∃ A c, v = .slice A n c ∧ (0 < n → ∃ r, A = some ⟨r, 0, none⟩) := by
  rcases h.2 with ⟨rfl, rfl⟩ | ⟨g, cap, cur, rfl, _⟩
  · exact ⟨none, 0, rfl, fun h => absurd h (Nat.lt_irrefl _)⟩
  · exact ⟨_, _, rfl, fun _ => ⟨_, rfl⟩⟩
theorem below_gr {base : Nat} {w w' : World} {v : Value} {e : TypeId} {size n : Nat} {xs : List Value} (h : w.ownsRow base e size v n xs) (hg : w.grownBy w' v.ownBlock) (hb : base ≤ w.heap.size) : Below base w w' :=
  ⟨hg.os, hg.tape, hg.output, hg.size, fun k hk => hg.block k (by omega) fun hc => by have := World.ownsRow.lt h k hc.symm; omega⟩
end Go.Proofs.YtmimadkepflmlaaGreatDoor
namespace Go.Proofs.YtmimadkepflmlaaGreatDoor
open Go.RowKit Go.Maps
set_option maxRecDepth 100000
set_option linter.unusedSimpArgs false
set_option linter.unusedVariables false
set_option linter.unusedSectionVars false
variable [Tab] [Fo]

def liveT_P : List UInt8 := [40, 49, 32, 34, 97, 34, 35, 116, 41]
def liveL_P : List Ev := [⟨5, ⟨#[]⟩, ⟨#[]⟩⟩, ⟨3, ⟨#[49]⟩, ⟨#[]⟩⟩, ⟨4, ⟨#[97]⟩, ⟨#[]⟩⟩, ⟨2, ⟨#[116, 114, 117, 101]⟩, ⟨#[]⟩⟩, ⟨6, ⟨#[]⟩, ⟨#[]⟩⟩]
theorem live_e_P : pEr liveT_P = 0 := by kernel_rfl
theorem live_rd_P : pRd liveT_P = 9 := by kernel_rfl
theorem live_l_P : pEv liveT_P = liveL_P := by kernel_rfl

set_option maxHeartbeats 4000000 in
theorem lives_P (w : World) (hw : Nm.StdW w) (hfl : Fo.lim ≤ w.heap.size) : Calls Tryz.prog 11 #[] w fun e w' => e = .returned (.bool true) ∧ Below w.heap.size w w' := by
  have al : Below w.heap.size w (w.alloc (.cells #[.int .u8 40, .int .u8 49, .int .u8 32, .int .u8 34, .int .u8 97, .int .u8 34, .int .u8 35, .int .u8 116, .int .u8 41] 5 (9, 10))) := (Below.refl _ _).alloc (Nat.le_refl _) _
  have hR : BRead (w.alloc (.cells #[.int .u8 40, .int .u8 49, .int .u8 32, .int .u8 34, .int .u8 97, .int .u8 34, .int .u8 35, .int .u8 116, .int .u8 41] 5 (9, 10))) (.slice (some ⟨w.heap.size, 0, none⟩) 9 9) liveT_P := by
    refine ⟨_, _, rfl, fun _ => ⟨_, rfl, fun j hj => ?_⟩⟩
    rw [addr_add0, World.cell?_alloc_mark]
    have hj' : j < 9 := hj
    match j, hj' with
    | 0, _ => rfl
    | 1, _ => rfl
    | 2, _ => rfl
    | 3, _ => rfl
    | 4, _ => rfl
    | 5, _ => rfl
    | 6, _ => rfl
    | 7, _ => rfl
    | 8, _ => rfl
  have hC := pdecode_any _ _ liveT_P (by decide) hR (hw.below al) (Nat.le_trans hfl al.size)
  rw [live_e_P, live_rd_P, live_l_P] at hC
  have hcv := Lib.run_convert_bytes_const (P := Tryz.prog) w 22 5 #[.int .u8 40, .int .u8 49, .int .u8 32, .int .u8 34, .int .u8 97, .int .u8 34, .int .u8 35, .int .u8 116, .int .u8 41] 9 9 Tryz.underlying22 Tryz.underlying5
  simp only [List.size_toArray, List.length_cons, List.length_nil, Nat.zero_add, Nat.reduceAdd] at hcv
  clear hR
  have HAL := Lib.hid al
  clear al
  go_enter Tryz.func11, Tryz.ntmps11
  go_wp2_with fail
  refine hC.mono ?_
  rintro e w1 ⟨lv, rfl, hRow, hb1⟩
  have HB := Lib.hid (HAL.out.trans (hb1.mono HAL.out.size))
  obtain ⟨A, c, hlv, _, _, hr⟩ := hRow.read
  obtain ⟨b, o, rfl, hcell⟩ := hr (by decide)
  have hlv' : lv = .slice (some ⟨b, o, none⟩) 5 c := hlv
  subst hlv'
  obtain ⟨x0, x1, x2⟩ := hcell 1 (by decide)
  obtain ⟨y0, y1, y2⟩ := hcell 3 (by decide)
  have x0' : w1.cell? ⟨b, o + 3, none⟩ = some (.int .i64 3) := x0
  have x1' : w1.cell? ⟨b, o + 4, none⟩ = some (.string ⟨#[49]⟩) := x1
  have x2' : w1.cell? ⟨b, o + 5, none⟩ = some (.string ⟨#[]⟩) := x2
  have y0' : w1.cell? ⟨b, o + 9, none⟩ = some (.int .i64 2) := y0
  have y1' : w1.cell? ⟨b, o + 10, none⟩ = some (.string ⟨#[116, 114, 117, 101]⟩) := y1
  have y2' : w1.cell? ⟨b, o + 11, none⟩ = some (.string ⟨#[]⟩) := y2
  clear hRow hb1 hr hcell hlv x0 x1 x2 y0 y1 y2 hC hcv
  go_wp2
  go_ret
  exact ⟨rfl, HB.out⟩

theorem few_P (w : World) (A : Option Addr) (c : Nat) (bs : List UInt8) (hv : BRead w (.slice A bs.length c) bs) (hc : bs.length ≤ c) :
    Calls Tryz.prog 9 #[.slice A bs.length c] w fun e w' => e = .returned (.slice A (bs.take 600).length c) ∧ BRead w (.slice A (bs.take 600).length c) (bs.take 600) ∧ w = w' := by
  by_cases h6 : 600 < bs.length
  · obtain ⟨A', c', he, hr⟩ := hv
    injection he with e1 _ e3
    subst e1 e3
    obtain ⟨ad, rfl, hcell⟩ := hr (by omega)
    have hz : decide ((600 : Int) < (bs.length : Int)) = true := by simp; omega
    have hle : 600 ≤ c := by omega
    have hl : (bs.take 600).length = 600 := by rw [List.length_take]; omega
    have HV : BRead w (.slice (some ad) (bs.take 600).length c) (bs.take 600) := by
      refine ⟨some ad, c, rfl, fun _ => ⟨ad, rfl, fun j hj => ?_⟩⟩
      rw [List.getElem_take]
      exact hcell j (by omega)
    have HR := Lib.hid HV
    rw [hl]
    rw [hl] at HR
    clear hcell hr HV hl
    generalize bs.take 600 = ts at *
    go_enter Tryz.func9, Tryz.ntmps9
    go_wp2
    go_ret
    exact ⟨rfl, HR.out, rfl⟩
  · have hz : decide ((600 : Int) < (bs.length : Int)) = false := by simp; omega
    rw [List.take_of_length_le (by omega)]
    have HV := Lib.hid hv
    clear hv
    go_enter Tryz.func9, Tryz.ntmps9
    go_wp2
    go_ret
    exact ⟨rfl, HV.out, rfl⟩
end Go.Proofs.YtmimadkepflmlaaGreatDoor
namespace Go.Proofs.YtmimadkepflmlaaGreatDoor
open Go.RowKit Go.Maps
set_option maxRecDepth 100000
set_option linter.unusedSimpArgs false
set_option linter.unusedVariables false
set_option linter.unusedSectionVars false
variable [Tab] [Fo]

set_option maxHeartbeats 4000000 in
theorem walk_ParenWhole (v0 : Value) (bs : List UInt8) (_hlen : bs.length ≤ 140737488355328) (hcap : ∀ A n c, v0 = .slice A n c → n ≤ c) (w : World) (hw : Nm.StdW w) (hfl : Fo.lim ≤ w.heap.size) (h0 : BRead w v0 bs) :
    Calls Tryz.prog 4 #[v0] w fun e w' => e = .returned (.bool true) ∧ Below w.heap.size w w' := by
  obtain ⟨A, c, rfl, hA⟩ := h0
  have hF := few_P w A c bs ⟨A, c, rfl, hA⟩ (hcap _ _ _ rfl)
  clear hA
  go_enter Tryz.func4, Tryz.ntmps4
  go_wp2_with fail
  refine hF.mono ?_
  rintro e w' ⟨rfl, hR, rfl⟩
  have hts : (bs.take 600).length ≤ 600 := by rw [List.length_take]; omega
  generalize bs.take 600 = ts at *
  have hD := pdecode_any w _ ts (by omega) hR hw hfl
  obtain ⟨f0, f1, f2, f3, f4, f5⟩ := text_facts paW ts
  change (pEv ts).length ≤ 4 * ts.length + 2 at f0
  have HF0 := Lib.hid (show (pEv ts).length ≤ 4611686018427387904 by omega)
  clear f0
  change pRd ts ≤ ts.length at f1
  change pEr ts = 0 → pRd ts = ts.length at f2
  change ∀ x ∈ pEv ts, okE x at f3
  change wholeGo 0 [topP] (pEv ts) = ((pEv ts).length, if doneB (paM.st (closeBs (feedG (ss0 paM) ts))) then 0 else 19) at f4
  change pEr ts = 0 → doneB (paM.st (closeBs (feedG (ss0 paM) ts))) = true at f5
  generalize pEr ts = E at *
  generalize pRd ts = R at *
  generalize pEv ts = Zl at *
  generalize doneB (paM.st (closeBs (feedG (ss0 paM) ts))) = Zd at *
  have HF3 := Lib.hid f3
  have HF4 := Lib.hid f4
  have HD := Lib.hid hD
  clear hF f3 f4 hD
  obtain ⟨Lt, hLt⟩ : ∃ Lt, ts.length = Lt := ⟨_, rfl⟩
  obtain ⟨Ll, hLl⟩ : ∃ Ll, Zl.length = Ll := ⟨_, rfl⟩
  rw [hLt] at f1 f2 ⊢
  have HF1 := Lib.hid f1
  have HLl := Lib.hid hLl
  have HLt := Lib.hid hLt
  clear hLt hLl hts
  have hdd := HD.out
  rw [HLt.out] at hdd
  have HDD := Lib.hid hdd
  clear hdd HD
  go_wp2_with fail
  refine HDD.out.mono ?_
  rintro e w1 ⟨lv, rfl, hRow, hb1⟩
  have hRd := hRow.read
  have hW := ewhole_any w1 lv Zl hRd HF3.out (hw.below hb1) HF0.out (Nat.le_trans hfl hb1.size)
  rw [HF4.out, HLl.out] at hW
  unfold WEnd at hW
  obtain ⟨A2, c2, hlv, _, _, _⟩ := hRd
  rw [HLl.out] at hlv
  subst hlv
  have HB1 := Lib.hid hb1
  clear hRow hb1 HDD
  by_cases hE : E = 0
  · subst hE
    have hd : (if Zd then (0 : Int) else 19) = 0 := by rw [f5 rfl]; rfl
    have hr : R = Lt := f2 rfl
    subst hr
    simp only [hd] at hW
    have HW := Lib.hid hW
    clear hd hW f1 f2 f5
    go_wp2_with fail
    refine HW.out.mono ?_
    rintro e w3 ⟨rfl, hb3⟩
    have HB3 := Lib.hid (HB1.out.trans (hb3.mono HB1.out.size))
    have HL := Lib.hid (lives_P w3 (hw.below HB3.out) (Nat.le_trans hfl HB3.out.size))
    clear hb3 HW
    go_wp2_with fail
    refine HL.out.mono ?_
    rintro e w4 ⟨rfl, hb4⟩
    have HB4 := Lib.hid (HB3.out.trans (hb4.mono HB3.out.size))
    clear hb4
    go_wp2
    go_ret
    exact ⟨rfl, HB4.out⟩
  · have e0 : (E == 0) = false := by rw [beq_eq_false_iff_ne]; exact hE
    generalize (if Zd then (0 : Int) else 19) = D at *
    have HW := Lib.hid hW
    clear hW f1 f2 f5 hE
    go_wp2_with fail
    refine HW.out.mono ?_
    rintro e w3 ⟨rfl, hb3⟩
    have HB3 := Lib.hid (HB1.out.trans (hb3.mono HB1.out.size))
    have HL := Lib.hid (lives_P w3 (hw.below HB3.out) (Nat.le_trans hfl HB3.out.size))
    clear hb3 HW
    go_wp2_with fail
    refine HL.out.mono ?_
    rintro e w4 ⟨rfl, hb4⟩
    have HB4 := Lib.hid (HB3.out.trans (hb4.mono HB3.out.size))
    clear hb4
    go_wp2
    go_ret
    · exact ⟨rfl, HB4.out⟩
    all_goals exact absurd HF1.out (by assumption)
end Go.Proofs.YtmimadkepflmlaaGreatDoor

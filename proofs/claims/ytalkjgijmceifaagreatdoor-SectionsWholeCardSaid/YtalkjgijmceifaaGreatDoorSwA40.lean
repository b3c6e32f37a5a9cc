/-
  sections: its machine as one that a Stream drives; Decode.
  sections: New of its machine, Decode.
  Words for the laws of decoders: bytes appended that came in; bytes as a string; rows that are written over.
  The laws of sections: lives, few.
  The walk of SectionsWhole.
-/
import Derived.Test.YtalkjgijmceifaaGreatDoorSwA38
import Derived.Test.YtalkjgijmceifaaGreatDoorSwA37
import Derived.Test.YtalkjgijmceifaaGreatDoorSwA39
import Derived.Test.YtalkjgijmceifaaGreatDoorSwA22
import Derived.Test.YtalkjgijmceifaaGreatDoorSwA12
import Derived.Deep.Upon
import Derived.Lib.BufferRead
import Derived.Lib.SlBytesConst
namespace Go.Proofs.YtalkjgijmceifaaGreatDoor
open Go.RowKit Go.Maps
set_option maxRecDepth 100000
set_option linter.unusedSimpArgs false
set_option linter.unusedVariables false
set_option linter.unusedSectionVars false
set_option linter.unusedSectionVars false
variable [Tab] [Fo]

theorem crep_dn {w : World} {b b' g rb cap : Nat} {qs : List PQ} (h : CRep w b' g rb cap qs) (hb : b ≤ b') : CRep w b g rb cap qs := by
  refine ⟨Nat.le_trans hb h.hg, h.blk, ⟨h.row.1, ?_⟩, ?_, h.nf⟩
  · rcases h.row.2 with hn | ⟨g', cap', cur, hv, hg', hh, q⟩
    · exact .inl hn
    · exact .inr ⟨g', cap', cur, hv, Nat.le_trans hb hg', hh, q⟩
  · have : ∀ l : List PQ, MapsOk w b' l → MapsOk w b l := by
      intro l
      induction l with
      | nil => intro h; exact h
      | cons q r ih => intro h; exact ⟨fun c hc => ⟨⟨Nat.le_trans hb (h.1 c hc).1.1, (h.1 c hc).1.2⟩, (h.1 c hc).2⟩, h.2.1, ih h.2.2⟩
    exact this qs h.maps
theorem oat_dn {w : World} {base b o ck : Nat} {st : List Pt} {l : List Ev} (h : OAt w b o ck st l) (hb : base ≤ b) : OAt w base o ck st l := by
  obtain ⟨⟨lv, hB, hR, hf⟩, ⟨rb, cap, qs, hq, hC⟩, hbo, ho⟩ := h
  exact ⟨⟨lv, hB, hR.low hb, hf⟩, ⟨rb, cap, qs, hq, crep_dn hC hb⟩, Nat.le_trans hb hbo, ho⟩
/-- What is known between the bytes when nothing is read. -/
def scx0 : Sx := ⟨[topP], [], false, [], []⟩
theorem scx0_dep : depX scx0 = 1 := by kernel_rfl
theorem scx0_tk : TkS scx0 := ⟨trivial, rfl, (fun e h => absurd h (by simp [scx0])), good_start⟩
/-- A machine that has read nothing. -/
def scRaw (w : World) (base m : Nat) : Prop := ∃ p, Blk w m 94 #[.iface 73 (.pointer (some ⟨p, 0, none⟩)), .slice none 0 0, .slice none 0 0] ∧ Blk w p 76 #[.bool false, .slice none 0 0, .slice none 0 0] ∧ base ≤ m ∧ base ≤ p ∧ ¬ Fo.F m ∧ ¬ Fo.F p ∧ Fo.lim ≤ w.heap.size
/-- What is known between the bytes, and how many bytes there were. -/
def ScG (w : World) (base m o ck : Nat) (x : (List UInt8 × Sx) × Nat) : Prop := ∃ p, SmAt base m p o ck x.1.1 x.1.2 w ∧ x.1.1.length ≤ 160 ∧ depX x.1.2 = 1 ∧ BsOk x.1.2 ∧ x.1.2.l.length ≤ 500 * x.2
theorem stepSm_fa {y z : List UInt8 × Sx} {b : UInt8} (h : stepSm y b = some z) (h1 : y.1.length ≤ 160) (hk : TkS y.2) (hb : BsOk y.2) : z.1.length ≤ 160 ∧ z.1.length ≤ y.1.length + 1 ∧ z.2.l.length ≤ y.2.l.length + 500 ∧ depX z.2 = depX y.2 ∧ BsOk z.2 := by
  unfold stepSm at h
  split at h
  · cases hl : lineS y.1 y.2 with
    | none => rw [hl] at h; cases h
    | some u =>
      rw [hl] at h
      have e := Option.some.inj h
      subst e
      obtain ⟨f1, f2, f3⟩ := line_facts h1 hl hk hb
      exact ⟨Nat.zero_le _, Nat.zero_le _, f1, f2, f3⟩
  · split at h
    · cases h
    · rename_i hn
      have e := Option.some.inj h
      subst e
      have e2 : (y.1 ++ [b]).length = y.1.length + 1 := by simp
      refine ⟨?_, ?_, ?_, rfl, hb⟩
      · show (y.1 ++ [b]).length ≤ 160; omega
      · show (y.1 ++ [b]).length ≤ _; omega
      · show y.2.l.length ≤ _; omega
theorem lastSm_fa {y z : List UInt8 × Sx} (h : lastSm y = some z) (h1 : y.1.length ≤ 160) (hk : TkS y.2) (hb : BsOk y.2) : z.2.l.length ≤ y.2.l.length + 500 ∧ depX z.2 = depX y.2 ∧ BsOk z.2 := by
  unfold lastSm at h
  split at h
  · cases hl : lineS y.1 y.2 with
    | none => rw [hl] at h; cases h
    | some u =>
      rw [hl] at h
      have e := Option.some.inj h
      subst e
      exact line_facts h1 hl hk hb
  · have e := Option.some.inj h
    subst e
    exact ⟨Nat.le_add_right _ _, rfl, hb⟩
theorem ss_no (cs : Array Value) (t : TypeId) (fr : Nat × Nat) (h : t ≠ 51 ∧ t ≠ 101) : ¬ ssObj (.cells cs t fr) := by
  intro hc
  simp only [ssObj] at hc
  rcases hc with rfl | rfl
  · exact h.1 rfl
  · exact h.2 rfl
theorem SmAt.ss {w w' : World} {base m p o ck : Nat} {op : List UInt8} {x : Sx} (h : SmAt base m p o ck op x w) (ht : Tch base ssObj w w') : SmAt base m p o ck op x w' :=
  h.other ht (fun cs t fr hh => ss_no cs t fr (by rcases hh with rfl | rfl <;> decide)) (h.b.other ht (fun cs t fr hh => ss_no cs t fr (by rcases hh with rfl | rfl | rfl | rfl | rfl | rfl | rfl <;> decide)) (fun _ _ hc => hc))
@[reducible] def secMI : MachI where
  σ := (List UInt8 × Sx) × Nat
  x0 := (([], scx0), 0)
  stp y b := (stepSm y.1 b).map fun z => (z, y.2 + 1)
  fin y := (finSm y.1).map fun z => z.l
  T := 40
  fs := 157
  fe := 156
  hms := fun a w => by kernel_rfl
  hme := fun a w => by kernel_rfl
  efs := fun args w => enters_of Tryz.func157 (by kernel_rfl) rfl args w
  efe := fun args w => enters_of Tryz.func156 (by kernel_rfl) rfl args w
  raw := scRaw
  At := ScG
  obj := nObj
  nss := n_no
  raw_lim := fun h => by obtain ⟨_, _, _, _, _, _, _, h1⟩ := h; exact h1
  start := fun h hb0 hb h1 h2 ho hsw => by
    obtain ⟨p, k1, k2, k3, k4, k5, k6, k7⟩ := h
    have hz := hb.size
    exact ⟨p, ⟨⟨.slice none 0 0, k1.below hb k1.lt, ORow.nil _ _ _, NF.nil⟩, ⟨k3, k5⟩, ⟨⟨.slice none 0 0, .slice none 0 0, k2.below hb k2.lt, World.ownsRow_nil _ _ _ 2, NF.nil, SRd.nil _⟩, oat_dn ho (Nat.le_trans hb0 h1), hsw, ⟨Nat.le_trans hb0 hz, k4, Nat.le_trans k7 hz, k6⟩, scx0_tk, Nat.zero_le _, Nat.zero_le _⟩⟩, Nat.zero_le _, scx0_dep, ⟨Nat.zero_le _, fun k hk => by cases hk⟩, Nat.zero_le _⟩
  Inv y k := y.2 = k ∧ y.1.1.length ≤ k
  inv0 := ⟨rfl, Nat.le_refl _⟩
  inv_step := fun {x n b y} h hs => by
    cases hq : stepSm x.1 b with
    | none => rw [hq] at hs; cases hs
    | some z =>
      rw [hq] at hs
      have e := Option.some.inj hs
      subst e
      refine ⟨by rw [← h.1], ?_⟩
      have h2 := h.2
      unfold stepSm at hq
      split at hq
      · cases hl : lineS x.1.1 x.1.2 with
        | none => rw [hl] at hq; cases hq
        | some u => rw [hl] at hq; have e := Option.some.inj hq; subst e; exact Nat.zero_le _
      · split at hq
        · cases hq
        · have e := Option.some.inj hq
          subst e
          show (x.1.1 ++ [b]).length ≤ _
          rw [List.length_append]
          simp
          omega
  bad := fun {w base m o ck x} h => by
    obtain ⟨p, h1, _⟩ := h
    exact ⟨_, h1.b.bad⟩
  ss := fun {w w' base m o ck x} h ht => by
    obtain ⟨p, h1, h2⟩ := h
    exact ⟨p, h1.ss ht, h2⟩
  step_any := fun w base m o ck x b n h hi hn hb => by
    obtain ⟨p, h1, h2, h3, h4, h5⟩ := h
    have hn2 : x.2 = n := hi.1
    have hop : x.1.1.length ≤ n := hi.2
    have hk := h1.b.tk
    refine (stepSm_any (op := x.1.1) (x := x.1.2) b h1 ⟨by omega, by have := pos6 h3 hk; omega, h4⟩ h2).mono fun e w' hp => ?_
    obtain ⟨hq, ht⟩ := hp
    refine ⟨?_, ht⟩
    rcases hq with ⟨y, hy, he, hat⟩ | ⟨hy, k, l, back, hk0, hbk, he, hO⟩
    · obtain ⟨f1, f2, f3, f4, f5⟩ := stepSm_fa hy h2 hk h4
      have f3' : y.2.l.length ≤ x.1.2.l.length + 500 := f3
      have hy' : stepSm x.1 b = some y := hy
      refine .inl ⟨(y, x.2 + 1), by rw [hy']; rfl, he, p, hat, f1, f4.trans h3, f5, ?_⟩
      show y.2.l.length ≤ 500 * (x.2 + 1)
      omega
    · have hy' : stepSm x.1 b = none := hy
      exact .inr ⟨by rw [hy']; rfl, k, l, back, hk0, by omega, he, hO⟩
  end_any := fun w base m o ck x n h hi hn hb => by
    obtain ⟨p, h1, h2, h3, h4, h5⟩ := h
    have hn2 : x.2 = n := hi.1
    have hop : x.1.1.length ≤ n := hi.2
    have hk := h1.b.tk
    refine (endSm_any (op := x.1.1) (x := x.1.2) h1 ⟨by omega, by have := pos6 h3 hk; omega, h4⟩ (fun y hy hky => ?_) h2).mono fun e w' hp => ?_
    · obtain ⟨f1, f2, f3⟩ := lastSm_fa hy h2 hk h4
      have f1' : y.2.l.length ≤ x.1.2.l.length + 500 := f1
      have := pos6 (f2.trans h3) hky
      exact ⟨by omega, by omega⟩
    · obtain ⟨hq, ht⟩ := hp
      refine ⟨?_, ht⟩
      rcases hq with ⟨z, y, hz, hkz, hy, he, hB⟩ | ⟨hy, k, l, back, hk0, hbk, he, hO⟩
      · obtain ⟨f1, f2, f3⟩ := lastSm_fa hz h2 hk h4
        have hz' : lastSm x.1 = some z := hz
        have hd := fin_done hy (f2.trans h3) hkz
        rw [hB.tk.run] at hd
        exact .inl ⟨y.l, by unfold finSm; rw [hz']; show (finX z.2).map _ = _; rw [hy]; rfl, he, hB.bad, hd⟩
      · have hy' : finSm x.1 = none := hy
        exact .inr ⟨by rw [hy']; rfl, k, l, back, hk0, by omega, he, hO⟩
end Go.Proofs.YtalkjgijmceifaaGreatDoor
namespace Go.Proofs.YtalkjgijmceifaaGreatDoor
open Go.RowKit Go.Maps
set_option maxRecDepth 100000
set_option linter.unusedSimpArgs false
set_option linter.unusedVariables false
set_option linter.unusedSectionVars false
set_option linter.unusedSectionVars false
variable [Tab] [Fo]

theorem lnnew_any (w : World) (T : TypeId) (u : Value) :
    Calls Tryz.prog 33 #[.iface T u, .slice none 0 0] w fun e w' => e = .returned (.pointer (some ⟨w.heap.size, 0, none⟩)) ∧ w' = w.alloc (.cells #[.iface T u, .slice none 0 0, .slice none 0 0] 94) := by
  go_enter Tryz.func33, Tryz.ntmps33
  go_wp2
  go_ret
  exact ⟨rfl, rfl⟩
theorem scnew_any (w : World) (hfl : Fo.lim ≤ w.heap.size) : Calls Tryz.prog 22 #[] w fun e w' => ∃ m, e = .returned (.pointer (some ⟨m, 0, none⟩)) ∧ scRaw w' w.heap.size m ∧ Below w.heap.size w w' := by
  have al : Below w.heap.size w (w.alloc (.cells #[.bool false, .slice none 0 0, .slice none 0 0] 76)) := (Below.refl _ _).alloc (Nat.le_refl _) _
  have hB := Blk.new w 76 #[.bool false, .slice none 0 0, .slice none 0 0]
  go_enter Tryz.func22, Tryz.ntmps22
  go_wp2_with fail
  obtain ⟨W, hW⟩ : ∃ W, w.alloc (.cells #[.bool false, .slice none 0 0, .slice none 0 0] 76) = W := ⟨_, rfl⟩
  rw [hW] at al hB ⊢
  have hz : w.heap.size < W.heap.size := by rw [← hW]; simp
  refine (lnnew_any W _ _).mono ?_
  rintro e w' ⟨rfl, rfl⟩
  have al2 : Below W.heap.size W (W.alloc (.cells #[.iface 73 (.pointer (some ⟨w.heap.size, 0, none⟩)), .slice none 0 0, .slice none 0 0] 94)) := (Below.refl _ _).alloc (Nat.le_refl _) _
  go_wp2
  go_ret
  exact ⟨W.heap.size, rfl, ⟨w.heap.size, Blk.new W 94 _, hB.below al2 hB.lt, by omega, Nat.le_refl _, nf_new (by omega), nf_new hfl, Nat.le_trans (by omega : Fo.lim ≤ W.heap.size) al2.size⟩, al.trans (al2.mono (by omega))⟩
/-- What Decode gives of a text. -/
def scRun (bs : List UInt8) : Option (List Ev) := runI (M := secMI) bs
def ScD (bs : List UInt8) (w : World) (e : Ending) (w' : World) : Prop :=
  ∃ lv l k n, e = .returned (.tuple #[lv, .int .i64 k, .int .i64 ((n : Nat) : Int)]) ∧ ERow w' w.heap.size lv l ∧ allOk [topP] l ∧ (∀ e ∈ l, okE e) ∧ l.length ≤ 1000000 ∧ ((scRun bs = some l ∧ k = 0 ∧ n = bs.length ∧ doneB (runS [topP] l) = true) ∨ (scRun bs = none ∧ k ≠ 0 ∧ n ≤ bs.length)) ∧ Below w.heap.size w w'
set_option maxHeartbeats 4000000 in
theorem scdecode_any0 (w : World) (v : Value) (bs : List UInt8) (hn : bs.length ≤ 600) (hv : BRead w v bs) (hw : Nm.StdW w) (hfl : Fo.lim ≤ w.heap.size) (htk : Fo.tk = none) :
    Calls Tryz.prog 14 #[v] w (ScD bs w) := by
  have hC : ∀ w1 m, scRaw w1 w.heap.size m → Below w.heap.size w w1 → Calls Tryz.prog 16 #[.iface 40 (.pointer (some ⟨m, 0, none⟩)), v] w1 (DecP secMI bs w1 w.heap.size) := fun w1 m hM hb =>
    sdecodeI_any (M := secMI) w1 w.heap.size m v bs hM htk hb.size ⟨w, hw, Nat.le_refl _, hb⟩ hn (fun w' h => hv.below (hb.trans h))
  have hP := scnew_any w hfl
  have HC := Lib.hid hC
  clear hC hv
  go_enter Tryz.func14, Tryz.ntmps14
  go_wp2_with fail
  refine hP.mono ?_
  rintro e w0 ⟨m, rfl, hM, hb0⟩
  have HD := Lib.hid (HC.out w0 m hM hb0)
  have HB0 := Lib.hid hb0
  clear hM hb0 HC hP
  go_wp2_with fail
  refine HD.out.mono ?_
  rintro e w1 ⟨lv, l, k, n, rfl, hRow, h1, h2, h3, h4, hb1⟩
  have HR := Lib.hid (And.intro hRow (And.intro h1 (And.intro h2 (And.intro h3 (And.intro h4 (HB0.out.trans hb1))))))
  clear hRow h1 h2 h3 h4 hb1 HD HB0
  go_wp2
  go_ret3
  exact ⟨lv, l, k, n, rfl, HR.out.1, HR.out.2.1, HR.out.2.2.1, HR.out.2.2.2.1, HR.out.2.2.2.2.1, HR.out.2.2.2.2.2⟩
end Go.Proofs.YtalkjgijmceifaaGreatDoor
namespace Go.Proofs.YtalkjgijmceifaaGreatDoor
open Go.RowKit Go.Maps
set_option maxRecDepth 100000
set_option linter.unusedSimpArgs false
set_option linter.unusedVariables false
set_option linter.unusedSectionVars false
variable [Tab] [Fo]

section
variable {P : Program} {w : World}
theorem src_none (size : Nat) (tx e : TypeId) (ht : P.underlying tx = some (.slice e)) (c : Nat) : Src P size tx (.slice none 0 c) 0 [] w :=
  ⟨.inl ⟨e, ht⟩, fun w' => by simp [Builtin.lenOf], by simp [Builtin.firstCells], by simp [Builtin.firstCells], by simp, by simp⟩
/-- Bytes appended that came in. -/
theorem wp_appT {ops : Array Oper} {rest : List Oper} {o : Oper} {a : Act} {Q : Exit → Act → World → Prop} (hgd : o.guard = none) (s x : Operand) (t : TypeId)
    (ho : o.op = .call { callee := .builtin .append, args := #[s, x], argTypes := #[t, t] })
    (base : Nat) (e : TypeId) (ht : P.underlying t = some (.slice e)) (hinfo : (P.info? e).map (fun i => (i.zero, i.size, i.bytes)) = some (some (.int .u8 0), 1, 1))
    (v vx : Value) (l bs : List UInt8) (hs : a.eval s = v) (hown : ORow w base e v (l.map bV)) (hx : a.eval x = vx) (hr : BRead w vx bs)
    (h63 : l.length + bs.length ≤ 140737488355328) (hbase : base ≤ w.heap.size)
    (h : ∀ v' w', ORow w' base e v' ((l ++ bs).map bV) → w.grownBy w' v.ownBlock → NB w v v' → wpList P ops Q rest (a.put o.dst v') w') :
    wpList P ops Q (o :: rest) a w := by
  obtain ⟨A, c, rfl, hc⟩ := hr
  by_cases hb : 0 < bs.length
  · obtain ⟨ad, rfl, hcell⟩ := hc hb
    refine Qt.wp_appSg hgd s x t ho base e (.int .u8 0) 1 ht hinfo rfl v (l.map bV) (bs.map bV) hs hown (by intro u hu; simp at hu; obtain ⟨b, _, rfl⟩ := hu; rfl) ad bs.length c (by simp) hx (fun j u hj => ?_) (by simp [maxLen]; omega) (by simp; omega) hbase fun v' w' h1 h2 h3 => h v' w' (by rw [List.map_append]; exact h1) h2 h3
    have hjl : j < bs.length := by have := (List.getElem?_eq_some_iff.1 hj).1; simpa using this
    rw [hcell j hjl, List.getElem?_map, List.getElem?_eq_getElem hjl] at *
    simpa [bV] using hj
  · obtain rfl : bs = [] := List.eq_nil_of_length_eq_zero (by omega)
    cases A with
    | some ad =>
      refine Qt.wp_appSg hgd s x t ho base e (.int .u8 0) 1 ht hinfo rfl v (l.map bV) [] hs hown (by simp) ad 0 c rfl hx (by simp) (by simp [maxLen]; simp at h63; omega) (by simp; simp at h63; omega) hbase fun v' w' h1 h2 h3 => h v' w' (by simpa using h1) h2 h3
    | none =>
      obtain ⟨i, hi, hz, hsize, hby⟩ := info_parts hinfo
      refine wpList_plain hgd fun K hK => ?_
      obtain ⟨A', cap, hv⟩ := hown.shape
      have hle : (l.map bV).length ≤ cap := by
        rcases hown.form with ⟨hv', h0⟩ | ⟨g, cap', hv', _, _, hle, _⟩
        · rw [h0]; exact Nat.zero_le _
        · rw [hv] at hv'
          injection hv' with _ _ e3
          subst e3
          exact hle
      subst hv
      have hrun := run_append_nothing (P := P) w t t o.type e i ht hi A' (l.map bV).length cap hle (.slice none 0 c) (src_none _ _ _ ht c)
      unfold Oper.wp execOp
      simp only [ho, resolve, invoke, builtin, Sem.run_bind, Sem.run_pure, Result.andThen_ok, List.map_toArray, List.map_cons, List.map_nil, hs, hx, List.length_nil, hrun]
      exact hK _ _ (h _ _ (by simpa using hown) (World.grownBy.refl _ _) (.inl rfl))
/-- string(b), b having come in. -/
theorem str_of_read {v : Value} {l : List UInt8} (src dst e : TypeId) (hs : P.underlying src = some (.slice e)) (he : P.underlying e = some (.int .u8)) (hd : P.underlying dst = some .string) (h : BRead w v l) :
    (convert src dst v).run P w = .ok (.string ⟨l.toArray⟩) w := by
  obtain ⟨A, c, rfl, hc⟩ := h
  cases A with
  | some ad =>
    refine run_convert_bytes_back w src dst e ad c l hs he hd fun j hj => ?_
    obtain ⟨ad', e1, hcell⟩ := hc (by omega)
    injection e1 with e1
    subst e1
    exact hcell j hj
  | none =>
    have h0 : l = [] := by
      rcases Nat.eq_zero_or_pos l.length with h | h
      · exact List.eq_nil_of_length_eq_zero h
      · obtain ⟨_, e1, _⟩ := hc h; cases e1
    subst h0
    exact Lib.run_convert_nil_bytes w src dst e c hs he hd
end
theorem row_len {w : World} {b : Nat} {e : TypeId} {size n : Nat} {v : Value} {xs : List Value} (h : w.ownsRow b e size v n xs) : xs.length = n * size := h.1
theorem row_get {w : World} {base r : Nat} {e : TypeId} {size n cap : Nat} {xs : List Value} (h : w.ownsRow base e size (.slice (some ⟨r, 0, none⟩) n cap) n xs) {i : Nat} (hi : i < n * size) : ∃ u, w.cell? ⟨r, i, none⟩ = some u := by
  have hl := row_len h
  exact ⟨xs[i]'(by omega), by rw [rowN_cell h hi]; exact List.getElem?_eq_getElem (by omega)⟩
theorem rowX_shape {w : World} {base : Nat} {e : TypeId} {size n : Nat} {v : Value} {xs : List Value} (h : w.ownsRow base e size v n xs) : ∃ A c, v = .slice A n c ∧ (0 < n → ∃ r, A = some ⟨r, 0, none⟩) := by
  rcases h.2 with ⟨rfl, rfl⟩ | ⟨g, cap, cur, rfl, _⟩
  · exact ⟨none, 0, rfl, fun h => absurd h (Nat.lt_irrefl _)⟩
  · exact ⟨_, _, rfl, fun _ => ⟨_, rfl⟩⟩
theorem below_gr {base : Nat} {w w' : World} {v : Value} {e : TypeId} {size n : Nat} {xs : List Value} (h : w.ownsRow base e size v n xs) (hg : w.grownBy w' v.ownBlock) (hb : base ≤ w.heap.size) : Below base w w' :=
  ⟨hg.os, hg.tape, hg.output, hg.size, fun k hk => hg.block k (by omega) fun hc => by have := World.ownsRow.lt h k hc.symm; omega⟩
end Go.Proofs.YtalkjgijmceifaaGreatDoor
namespace Go.Proofs.YtalkjgijmceifaaGreatDoor
open Go.RowKit Go.Maps
set_option maxRecDepth 100000
set_option linter.unusedSimpArgs false
set_option linter.unusedVariables false
set_option linter.unusedSectionVars false
variable [Tab] [Fo]

def liveT_C : List UInt8 := [91, 91, 114, 93, 93, 10, 107, 32, 61, 32, 49, 10, 91, 91, 114, 93, 93, 10]
def liveL_C : List Ev := [⟨7, ⟨#[]⟩, ⟨#[]⟩⟩, ⟨8, ⟨#[114]⟩, ⟨#[]⟩⟩, ⟨5, ⟨#[]⟩, ⟨#[]⟩⟩, ⟨7, ⟨#[]⟩, ⟨#[]⟩⟩, ⟨8, ⟨#[107]⟩, ⟨#[]⟩⟩, ⟨3, ⟨#[49]⟩, ⟨#[]⟩⟩, ⟨9, ⟨#[]⟩, ⟨#[]⟩⟩, ⟨7, ⟨#[]⟩, ⟨#[]⟩⟩, ⟨9, ⟨#[]⟩, ⟨#[]⟩⟩, ⟨6, ⟨#[]⟩, ⟨#[]⟩⟩, ⟨9, ⟨#[]⟩, ⟨#[]⟩⟩]
theorem live_C : scRun liveT_C = some liveL_C := by kernel_rfl

set_option maxHeartbeats 4000000 in
theorem lives_C (w : World) (hw : Nm.StdW w) (hfl : Fo.lim ≤ w.heap.size) (htk : Fo.tk = none) : Calls Tryz.prog 15 #[] w fun e w' => e = .returned (.bool true) ∧ Below w.heap.size w w' := by
  have al : Below w.heap.size w (w.alloc (.cells #[.int .u8 91, .int .u8 91, .int .u8 114, .int .u8 93, .int .u8 93, .int .u8 10, .int .u8 107, .int .u8 32, .int .u8 61, .int .u8 32, .int .u8 49, .int .u8 10, .int .u8 91, .int .u8 91, .int .u8 114, .int .u8 93, .int .u8 93, .int .u8 10] 5 (18, 19))) := (Below.refl _ _).alloc (Nat.le_refl _) _
  have hR : BRead (w.alloc (.cells #[.int .u8 91, .int .u8 91, .int .u8 114, .int .u8 93, .int .u8 93, .int .u8 10, .int .u8 107, .int .u8 32, .int .u8 61, .int .u8 32, .int .u8 49, .int .u8 10, .int .u8 91, .int .u8 91, .int .u8 114, .int .u8 93, .int .u8 93, .int .u8 10] 5 (18, 19))) (.slice (some ⟨w.heap.size, 0, none⟩) 18 18) liveT_C := by
    refine ⟨_, _, rfl, fun _ => ⟨_, rfl, fun j hj => ?_⟩⟩
    rw [addr_add0, World.cell?_alloc_mark]
    have hj' : j < 18 := hj
    match j, hj' with
    | 0, _ => rfl
    | 1, _ => rfl
    | 2, _ => rfl
    | 3, _ => rfl
    | 4, _ => rfl
    | 5, _ => rfl
    | 6, _ => rfl
    | 7, _ => rfl
    | 8, _ => rfl
    | 9, _ => rfl
    | 10, _ => rfl
    | 11, _ => rfl
    | 12, _ => rfl
    | 13, _ => rfl
    | 14, _ => rfl
    | 15, _ => rfl
    | 16, _ => rfl
    | 17, _ => rfl
    | i + 18, h => exact absurd h (by omega)
  have hC := scdecode_any0 _ _ liveT_C (by decide) hR (hw.below al) (Nat.le_trans hfl al.size) htk
  have hcv := Lib.run_convert_bytes_const (P := Tryz.prog) w 22 5 #[.int .u8 91, .int .u8 91, .int .u8 114, .int .u8 93, .int .u8 93, .int .u8 10, .int .u8 107, .int .u8 32, .int .u8 61, .int .u8 32, .int .u8 49, .int .u8 10, .int .u8 91, .int .u8 91, .int .u8 114, .int .u8 93, .int .u8 93, .int .u8 10] 18 18 Tryz.underlying22 Tryz.underlying5
  simp only [List.size_toArray, List.length_cons, List.length_nil, Nat.zero_add, Nat.reduceAdd] at hcv
  clear hR
  have HAL := Lib.hid al
  clear al
  go_enter Tryz.func15, Tryz.ntmps15
  go_wp2_with fail
  refine hC.mono ?_
  rintro e w1 ⟨lv, l, k, n, rfl, hRow, _, _, _, hcase, hb1⟩
  obtain ⟨rfl, rfl, rfl⟩ : l = liveL_C ∧ k = 0 ∧ n = 18 := by
    rcases hcase with ⟨h1, h2, h3, _⟩ | ⟨h1, _⟩
    · exact ⟨Option.some.inj (h1.symm.trans live_C), h2, h3⟩
    · exact absurd (h1.symm.trans live_C) (by simp)
  have HB := Lib.hid (HAL.out.trans (hb1.mono HAL.out.size))
  obtain ⟨A, c, hlv, _, _, hr⟩ := hRow.read
  obtain ⟨b, o, rfl, hcell⟩ := hr (by decide)
  have hlv' : lv = .slice (some ⟨b, o, none⟩) 11 c := hlv
  subst hlv'
  obtain ⟨x0, x1, x2⟩ := hcell 4 (by decide)
  obtain ⟨y0, y1, y2⟩ := hcell 9 (by decide)
  have x0' : w1.cell? ⟨b, o + 12, none⟩ = some (.int .i64 8) := x0
  have x1' : w1.cell? ⟨b, o + 13, none⟩ = some (.string ⟨#[107]⟩) := x1
  have x2' : w1.cell? ⟨b, o + 14, none⟩ = some (.string ⟨#[]⟩) := x2
  have y0' : w1.cell? ⟨b, o + 27, none⟩ = some (.int .i64 6) := y0
  have y1' : w1.cell? ⟨b, o + 28, none⟩ = some (.string ⟨#[]⟩) := y1
  have y2' : w1.cell? ⟨b, o + 29, none⟩ = some (.string ⟨#[]⟩) := y2
  clear hRow hb1 hr hcell hlv x0 x1 x2 y0 y1 y2 hC hcv hcase
  go_wp2
  go_ret
  exact ⟨rfl, HB.out⟩

theorem few_C (w : World) (A : Option Addr) (c : Nat) (bs : List UInt8) (hv : BRead w (.slice A bs.length c) bs) (hc : bs.length ≤ c) :
    Calls Tryz.prog 13 #[.slice A bs.length c] w fun e w' => e = .returned (.slice A (bs.take 600).length c) ∧ BRead w (.slice A (bs.take 600).length c) (bs.take 600) ∧ w = w' := by
  by_cases h6 : 600 < bs.length
  · obtain ⟨A', c', he, hr⟩ := hv
    injection he with e1 _ e3
    subst e1 e3
    obtain ⟨ad, rfl, hcell⟩ := hr (by omega)
    have hz : decide ((600 : Int) < (bs.length : Int)) = true := by simp; omega
    have hle : 600 ≤ c := by omega
    have hl : (bs.take 600).length = 600 := by rw [List.length_take]; omega
    have HV : BRead w (.slice (some ad) (bs.take 600).length c) (bs.take 600) := by
      refine ⟨some ad, c, rfl, fun _ => ⟨ad, rfl, fun j hj => ?_⟩⟩
      rw [List.getElem_take]
      exact hcell j (by omega)
    have HR := Lib.hid HV
    rw [hl]
    rw [hl] at HR
    clear hcell hr HV hl
    generalize bs.take 600 = ts at *
    go_enter Tryz.func13, Tryz.ntmps13
    go_wp2
    go_ret
    exact ⟨rfl, HR.out, rfl⟩
  · have hz : decide ((600 : Int) < (bs.length : Int)) = false := by simp; omega
    rw [List.take_of_length_le (by omega)]
    have HV := Lib.hid hv
    clear hv
    go_enter Tryz.func13, Tryz.ntmps13
    go_wp2
    go_ret
    exact ⟨rfl, HV.out, rfl⟩
end Go.Proofs.YtalkjgijmceifaaGreatDoor
namespace Go.Proofs.YtalkjgijmceifaaGreatDoor
open Go.RowKit Go.Maps
set_option maxRecDepth 100000
set_option linter.unusedSimpArgs false
set_option linter.unusedVariables false
set_option linter.unusedSectionVars false
variable [Tab] [Fo]

set_option maxHeartbeats 4000000 in
theorem walk_SectionsWhole (v0 : Value) (bs : List UInt8) (_hlen : bs.length ≤ 140737488355328) (hcap : ∀ A n c, v0 = .slice A n c → n ≤ c) (w : World) (hw : Nm.StdW w) (hfl : Fo.lim ≤ w.heap.size) (htk : Fo.tk = none) (h0 : BRead w v0 bs) :
    Calls Tryz.prog 5 #[v0] w fun e w' => e = .returned (.bool true) ∧ Below w.heap.size w w' := by
  obtain ⟨A, c, rfl, hA⟩ := h0
  have hF := few_C w A c bs ⟨A, c, rfl, hA⟩ (hcap _ _ _ rfl)
  clear hA
  go_enter Tryz.func5, Tryz.ntmps5
  go_wp2_with fail
  refine hF.mono ?_
  rintro e w' ⟨rfl, hR, rfl⟩
  have hts : (bs.take 600).length ≤ 600 := by rw [List.length_take]; omega
  generalize bs.take 600 = ts at *
  have hD := scdecode_any0 w _ ts hts hR hw hfl htk
  have HD := Lib.hid hD
  clear hF hD
  obtain ⟨Lt, hLt⟩ : ∃ Lt, ts.length = Lt := ⟨_, rfl⟩
  have HLt := Lib.hid hLt
  have hdd := HD.out
  unfold ScD at hdd
  rw [hLt] at hdd ⊢
  have HDD := Lib.hid hdd
  clear hdd HD hLt hts
  go_wp2_with fail
  refine HDD.out.mono ?_
  rintro e w1 ⟨lv, Zl, E, R, rfl, hRow, f1, f3, f0, hcase, hb1⟩
  have hRd := hRow.read
  have hW := ewhole_any w1 lv Zl hRd f3 (NumWs.of (hw.below hb1)) (by omega) (Nat.le_trans hfl hb1.size)
  rw [whole_of f1] at hW
  unfold WEnd at hW
  obtain ⟨A2, c2, hlv, _, _, _⟩ := hRd
  obtain ⟨Ll, hLl⟩ : ∃ Ll, Zl.length = Ll := ⟨_, rfl⟩
  rw [hLl] at hlv hW
  subst hlv
  have HB1 := Lib.hid hb1
  clear hRow hb1 HDD f3 f1 f0 hLl
  rcases hcase with ⟨_, rfl, hr, hdn⟩ | ⟨_, hE, hle⟩
  · subst hr
    have hd : (if doneB (runS [topP] Zl) then (0 : Int) else 19) = 0 := by rw [hdn]; rfl
    simp only [hd] at hW
    have HW := Lib.hid hW
    clear hd hW hdn
    go_wp2_with fail
    refine HW.out.mono ?_
    rintro e w3 ⟨rfl, hb3⟩
    have HB3 := Lib.hid (HB1.out.trans (hb3.mono HB1.out.size))
    have HL := Lib.hid (lives_C w3 (hw.below HB3.out) (Nat.le_trans hfl HB3.out.size) htk)
    clear hb3 HW
    go_wp2_with fail
    refine HL.out.mono ?_
    rintro e w4 ⟨rfl, hb4⟩
    have HB4 := Lib.hid (HB3.out.trans (hb4.mono HB3.out.size))
    clear hb4
    go_wp2
    go_ret
    exact ⟨rfl, HB4.out⟩
  · have e0 : (E == 0) = false := by rw [beq_eq_false_iff_ne]; exact hE
    generalize (if doneB (runS [topP] Zl) then (0 : Int) else 19) = D at *
    have HW := Lib.hid hW
    have HF1 := Lib.hid hle
    clear hW hE hle
    go_wp2_with fail
    refine HW.out.mono ?_
    rintro e w3 ⟨rfl, hb3⟩
    have HB3 := Lib.hid (HB1.out.trans (hb3.mono HB1.out.size))
    have HL := Lib.hid (lives_C w3 (hw.below HB3.out) (Nat.le_trans hfl HB3.out.size) htk)
    clear hb3 HW
    go_wp2_with fail
    refine HL.out.mono ?_
    rintro e w4 ⟨rfl, hb4⟩
    have HB4 := Lib.hid (HB3.out.trans (hb4.mono HB3.out.size))
    clear hb4
    go_wp2
    go_ret
    · exact ⟨rfl, HB4.out⟩
    all_goals exact absurd HF1.out (by assumption)
end Go.Proofs.YtalkjgijmceifaaGreatDoor

/-
  sections: slices.Concat of two paths.
  sections: assignment.
  sections: Parse, End.
-/
import Derived.Test.YtalkjgijmceifaaGreatDoorSwA33
import Derived.Lib.AppendZerosOnto
namespace Go.Proofs.YtalkjgijmceifaaGreatDoor
open Go.RowKit Go.Maps
set_option maxRecDepth 100000
set_option linter.unusedSimpArgs false
set_option linter.unusedVariables false
set_option linter.unusedSectionVars false
variable [Tab] [Fo]

theorem run_app_none (w : World) (ty : TypeId) (b : Option Addr) (l c c2 : Nat) (h : l ≤ c) :
    (Builtin.append_ #[54, 54] ty #[.slice b l c, .slice none 0 c2]).run Tryz.prog w = .ok (.slice b l c) w := by
  obtain ⟨i, hi, hz, hsize, hby⟩ := info_parts Tryz.infoTx
  cases b <;> simp [Builtin.append_, run_underlying Tryz.underlying54, sizeOf, typeInfo, hi, h, storeCells, Builtin.firstCells, Builtin.lenOf]
/-- Texts appended that lie somewhere. -/
theorem wp_cat {w : World} {ops : Array Oper} {rest : List Oper} {o : Oper} {a : Act} {Q : Exit → Act → World → Prop} (hgd : o.guard = none) (s x : Operand)
    (ho : o.op = .call { callee := .builtin .append, args := #[s, x], argTypes := #[54, 54] })
    (base : Nat) (v vx : Value) (xs ks : List ByteArray) (hs : a.eval s = v) (hx : a.eval x = vx) (hrow : ORow w base 9 v (xs.map .string)) (hk : SRd w vx ks) (hl : xs.length + ks.length ≤ 2000) (hbase : base ≤ w.heap.size)
    (h : ∀ v' w', ORow w' base 9 v' ((xs ++ ks).map .string) → Below base w w' → wpList Tryz.prog ops Q rest (a.put o.dst v') w') :
    wpList Tryz.prog ops Q (o :: rest) a w := by
  obtain ⟨A, c, rfl, hc, hcell⟩ := hk
  have hlx : (xs.map Value.string).length = xs.length := List.length_map ..
  have hlk : (ks.map Value.string).length = ks.length := List.length_map ..
  cases A with
  | none =>
    have h0 : ks.length = 0 := by
      rcases Nat.eq_zero_or_pos ks.length with h0 | h0
      · exact h0
      · obtain ⟨g, off, cur, fr, e, _⟩ := hcell h0
        cases e
    have hks : ks = [] := List.length_eq_zero_iff.1 h0
    subst hks
    obtain ⟨A1, c1, e1, h1⟩ : ∃ A1 c1, v = .slice A1 xs.length c1 ∧ xs.length ≤ c1 := by
      rcases hrow.2 with ⟨e, h0⟩ | ⟨g, cap, cur, e, _, _, h2, _⟩
      · rw [hlx] at h0
        exact ⟨none, 0, by rw [e, h0], by omega⟩
      · rw [hlx] at e h2
        exact ⟨_, cap, e, h2⟩
    subst e1
    exact Lib.wpList_append_run w hgd s x _ _ ho _ _ hs hx _ _ (run_app_none w o.type A1 xs.length c1 c h1) (h _ _ (by simpa using hrow) (Below.refl _ _))
  | some ad =>
    refine Qt.wp_appS hgd s x 54 ho base 9 (.string ⟨#[]⟩) 16 Tryz.underlying54 Tryz.infoTx rfl v (xs.map .string) (ks.map .string) hs hrow (fun u hu => ?_) ad ks.length c hlk hx (fun j u hj => ?_) (by simp [maxLen]; omega) (by simp; omega) hbase (fun v' w' h1 h2 => h v' w' (by rw [List.map_append]; exact h1) h2)
    · obtain ⟨k, _, rfl⟩ := List.mem_map.1 hu
      rfl
    · rw [List.getElem?_map] at hj
      cases hkj : ks[j]? with
      | none => rw [hkj] at hj; cases hj
      | some k =>
        rw [hkj] at hj
        cases hj
        obtain ⟨hjl, rfl⟩ := List.getElem?_eq_some_iff.1 hkj
        obtain ⟨g, off, cur, fr, e, hh, hcc⟩ := hcell (by omega)
        injection e with e
        subst e
        have := hcc j hjl
        by_cases hj0 : j = 0
        · subst hj0
          rw [Nat.add_zero] at this
          simp [World.cell?, Addr.add, hh, this]
        · simp [World.cell?, Addr.add, hj0, hh, this]
theorem grow_any (w : World) (n : Nat) (h0 : 0 < n) (h9 : n ≤ 2000) :
    Calls Tryz.prog 261 #[.slice none 0 0, .int .i64 (n : Int)] w fun e w' => ∃ v, e = .returned v ∧ ORow w' w.heap.size 9 v [] ∧ Below w.heap.size w w' := by
  obtain ⟨i, hi, hz, hsize, hby⟩ := info_parts Tryz.infoTx
  have hap : ∀ ty, (Builtin.append_ #[54, 3] ty #[.slice none 0 0, .int .i64 (n : Int)]).run Tryz.prog w = .ok (.slice (some ⟨w.heap.size, 0, none⟩) n (grownCap w n 0 9)) (w.drew.alloc (.cells (Builtin.zeroCells #[Value.string ⟨#[]⟩] n ++ Builtin.zeroCells #[Value.string ⟨#[]⟩] (grownCap w n 0 9 - n)) 9)) := fun ty => by
    have h := Lib.run_append_grow_zeros (P := Tryz.prog) w 54 3 ty 9 i (.string ⟨#[]⟩) .i64 .i64 Tryz.underlying54 Tryz.underlying3 hi hz none 0 0 [] (by simp [Builtin.firstCells]) n h0 (by rw [hsize]; decide) (by omega) (by omega) (by rw [hby]; omega) (growslice_fits (by omega) (by rw [hby]; omega))
    simpa [Value.cells] using h
  obtain ⟨G, hG⟩ : ∃ G, grownCap w n 0 9 = G := ⟨_, rfl⟩
  have hG1 : n ≤ G := by rw [← hG]; exact grownCap_ge w n 0 _
  have hG2 : G ≤ maxLen := by rw [← hG]; exact grownCap_le_maxLen w n 0 _ (by simp [maxLen]; omega)
  rw [hG] at hap
  have hG3 : G ≤ 9223372036854775807 := by simp only [maxLen] at hG2; omega
  have HF : Hid (ORow (w.drew.alloc (.cells (Builtin.zeroCells #[Value.string ⟨#[]⟩] n ++ Builtin.zeroCells #[Value.string ⟨#[]⟩] (G - n)) 9)) w.heap.size 9 (.slice (some ⟨w.heap.size, 0, none⟩) 0 G) []) := Lib.hid (by
    refine ⟨rfl, .inr ⟨w.heap.size, G, _, rfl, Nat.le_refl _, Blk.new w.drew _ _, Nat.zero_le _, hG2, ?_, rfl⟩⟩
    simp [Builtin.zeroCells]
    omega)
  have HB : Hid (Below w.heap.size w (w.drew.alloc (.cells (Builtin.zeroCells #[Value.string ⟨#[]⟩] n ++ Builtin.zeroCells #[Value.string ⟨#[]⟩] (G - n)) 9))) := Lib.hid ((below_drew (Below.refl _ _)).alloc (Nat.le_refl _) _)
  clear hG hi hz hsize hby
  go_enter Tryz.func261, Tryz.ntmps261
  go_wp2_with (at_builtin; refine Lib.wpList_append_run _ rfl _ _ _ _ rfl _ _ rfl rfl _ _ (hap _) ?_)
  go_ret
  exact ⟨_, rfl, HF.out, HB.out⟩
set_option maxHeartbeats 4000000 in
theorem concat_any (w : World) (B : Nat) (v1 v2 : Value) (k1 k2 : List ByteArray) (h1 : SRd w v1 k1) (h2 : SRd w v2 k2) (hB : Blk w B 54 #[v1, v2]) (h0 : 0 < k1.length + k2.length) (h9 : k1.length + k2.length ≤ 2000) :
    Calls Tryz.prog 253 #[.slice (some ⟨B, 0, none⟩) 2 2] w fun e w' => ∃ v, e = .returned v ∧ SRd w' v (k1 ++ k2) ∧ Below w.heap.size w w' := by
  obtain ⟨A1, c1, e1, _⟩ := h1.len
  obtain ⟨A2, c2, e2, _⟩ := h2.len
  subst e1 e2
  have b0 : w.cell? ⟨B, 0, none⟩ = some (.slice A1 k1.length c1) := hB.cell 0
  have b1 : w.cell? ⟨B, 1, none⟩ = some (.slice A2 k2.length c2) := hB.cell 1
  have hBl := hB.lt
  have HG := Lib.hid (grow_any w (k1.length + k2.length) h0 h9)
  obtain ⟨n1, hn1⟩ : ∃ n1, k1.length = n1 := ⟨_, rfl⟩
  obtain ⟨n2, hn2⟩ : ∃ n2, k2.length = n2 := ⟨_, rfl⟩
  rw [hn1] at h1 b0 HG h9 h0
  rw [hn2] at h2 b1 HG h9 h0
  obtain ⟨n3, hn3⟩ : ∃ n3 : Nat, (n1 : Int) + (n2 : Int) = n3 := ⟨n1 + n2, by omega⟩
  have hn4 : n1 + n2 = n3 := by omega
  rw [hn4] at HG
  have HN3 := Lib.hid hn4
  have H1 := Lib.hid (And.intro h1 hn1)
  have H2 := Lib.hid (And.intro h2 hn2)
  have HBb := Lib.hid hB
  clear h1 h2 hB hn1 hn2 hn4
  go_enter Tryz.func253, Tryz.ntmps253
  go_wp2
  go_loopw [11, 3] (fun i s wr => ((i = .int .i64 0 ∧ s = .int .i64 0) ∨ (i = .int .i64 1 ∧ s = .int .i64 (n1 : Int)) ∨ (i = .int .i64 2 ∧ s = .int .i64 (n3 : Int))) ∧ w = wr) (fun i _ _ => 2 - (intOf i).toNat)
  case atStart => exact ⟨.inl ⟨rfl, rfl⟩, rfl⟩
  case round =>
    obtain ⟨hc, rfl⟩ := hrel
    rcases hc with ⟨rfl, rfl⟩ | ⟨rfl, rfl⟩ | ⟨rfl, rfl⟩
    · go_wp2
      exact ⟨⟨.inr (.inl ⟨rfl, rfl⟩), trivial⟩, by decide⟩
    · go_wp2
      exact ⟨⟨.inr (.inr ⟨rfl, rfl⟩), trivial⟩, by decide⟩
    · go_wp2_with fail
      refine HG.out.mono ?_
      rintro e w1 ⟨v, rfl, hrow, hb1⟩
      have HB1 := Lib.hid hb1
      have START := Lib.hid (show ORow w1 w.heap.size 9 v (([] : List ByteArray).map .string) from hrow)
      clear hrow hb1 HG
      go_wp2
      go_loopw [27, 6] (fun i v wr => ∃ rv, v = rv ∧ ((i = .int .i64 0 ∧ Hid (ORow wr w.heap.size 9 rv (([] : List ByteArray).map .string))) ∨ (i = .int .i64 1 ∧ Hid (ORow wr w.heap.size 9 rv (k1.map .string))) ∨ (i = .int .i64 2 ∧ Hid (ORow wr w.heap.size 9 rv ((k1 ++ k2).map .string)))) ∧ Hid (Below w.heap.size w wr)) (fun i _ _ => 2 - (intOf i).toNat)
      case atStart => exact ⟨v, rfl, .inl ⟨rfl, START⟩, HB1⟩
      case round =>
        obtain ⟨rv, hv, hc, HBr⟩ := hrel
        replace hv := hv.symm
        subst hv
        have hBr := HBb.out.below HBr.out hBl
        have hn1 := H1.out.2
        have hn2 := H2.out.2
        rw [hn1, hn2] at hBr
        have r0 : wr.cell? ⟨B, 0, none⟩ = some (.slice A1 n1 c1) := hBr.cell 0
        have r1 : wr.cell? ⟨B, 1, none⟩ = some (.slice A2 n2 c2) := hBr.cell 1
        have hbs := HBr.out.size
        have hk1 := H1.out.1.below HBr.out
        have hk2 := H2.out.1.below HBr.out
        have hlim1 : ([] : List ByteArray).length + k1.length ≤ 2000 := by rw [hn1]; simp; omega
        have hlim2 : k1.length + k2.length ≤ 2000 := by omega
        have hK1 := Lib.hid hk1
        have hK2 := Lib.hid hk2
        clear START hBr hk1 hk2 HB1 hn1 hn2
        rcases hc with ⟨rfl, HO⟩ | ⟨rfl, HO⟩ | ⟨rfl, HO⟩
        · go_wp2_with (first
            | (at_builtin; refine wp_cat rfl _ _ rfl w.heap.size rv (.slice A1 n1 c1) [] k1 rfl rfl HO.out hK1.out hlim1 hbs ?_; intro v2 w2 hown2 hb2; have HO2 := Lib.hid hown2; have HB2 := Lib.hid (HBr.out.trans hb2); clear hown2 hb2))
          exact ⟨⟨v2, rfl, .inr (.inl ⟨rfl, HO2⟩), HB2⟩, by decide⟩
        · go_wp2_with (first
            | (at_builtin; refine wp_cat rfl _ _ rfl w.heap.size rv (.slice A2 n2 c2) k1 k2 rfl rfl HO.out hK2.out hlim2 hbs ?_; intro v2 w2 hown2 hb2; have HO2 := Lib.hid hown2; have HB2 := Lib.hid (HBr.out.trans hb2); clear hown2 hb2))
          exact ⟨⟨v2, rfl, .inr (.inr ⟨rfl, HO2⟩), HB2⟩, by decide⟩
        · go_wp2
          go_ret
          exact ⟨rv, rfl, HO.out.srd, HBr.out⟩
end Go.Proofs.YtalkjgijmceifaaGreatDoor
namespace Go.Proofs.YtalkjgijmceifaaGreatDoor
open Go.RowKit Go.Maps
set_option maxRecDepth 100000
set_option linter.unusedSimpArgs false
set_option linter.unusedVariables false
set_option linter.unusedSectionVars false
variable [Tab] [Fo]

section
variable {base L p o ck : Nat} {S : List UInt8} {x : Sx} {a : Nat} {w w' : World}
/-- What the line ahead leaves of the path. -/
def BsOk (x : Sx) : Prop := x.bs.length ≤ 200 ∧ ∀ k ∈ x.bs, k.size ≤ 1000
set_option maxHeartbeats 16000000 in
theorem assign_S (h : SecI base L p o ck S x a w) (hl : x.l.length ≤ 400000) (hpn : x.pos.length ≤ 100) (hbs : BsOk x) :
    Calls Tryz.prog 248 #[rV L p] w (Pq (SI base L p o ck S secObj w) (SF base L p o ck S secObj w) (assignS S a x)) := by
  obtain ⟨g, W, hg, hW, hB, hlt, hi, hT⟩ := rbox (q := secObj) h
  have HU := Lib.hid hT
  have HB := Lib.hid hB
  obtain ⟨R, hR⟩ : ∃ R, assignS S a x = R := ⟨_, rfl⟩
  rw [hR]
  unfold assignS at hR
  have HR := Lib.hid hR
  have h160 := hi.s9
  have h1000 : S.length ≤ 1000 := by omega
  have HX := Lib.hid (And.intro hl hpn)
  have HBs := Lib.hid hbs
  have HId := Lib.hid (si_drew (si_refl (q := secObj) hi))
  obtain ⟨A1, c1, d0, d1, d2, hS1, hg1, hp1⟩ := pb_cells HId.out HB.out
  obtain ⟨n1, hn1⟩ : ∃ n1, x.bs.length = n1 := ⟨_, rfl⟩
  rw [hn1] at d2 hS1
  have HN1 := Lib.hid hn1
  have HS1 := Lib.hid hS1
  have hP := path_any (p := p) HId.out.1.ln h160 HId.out.1.al HId.out.1.lim'
  unfold rV at hP
  have HP := Lib.hid hP
  have HFa := Lib.hid (fun ks a' (hh : pathP S a = some (ks, a')) => path_fa hi.al hh)
  unfold rV
  clear h hT hB hi hR hl hpn hbs hP hS1 hn1
  go_enter Tryz.func248, Tryz.ntmps248
  go_wp2
  refine region_gp [7, 8, 9] (S := (fun W => W.cell? ⟨g, 0, none⟩ = some (.pointer (some ⟨L, 0, none⟩)) ∧ W.cell? ⟨g, 1, none⟩ = some (.pointer (some ⟨p, 0, none⟩)) ∧ W.cell? ⟨p, 2, none⟩ = some (.slice A1 n1 c1))) (fun c w' => Pq (SI base L p o ck S secObj w) (SF base L p o ck S secObj w) R (.panicked c) w') (by kernel_rfl) ⟨d0, d1, d2⟩ (fun c a' w' hd hR => ⟨hd, hR⟩) (fun hH => ?_)
  refine g_takeT 20 (i := 0) (v := .pointer (some ⟨g, 1, none⟩)) (by rfl) (by kernel_rfl) (by kernel_rfl) (by kernel_rfl) (by kernel_rfl) (by kernel_rfl) (fun _ _ _ h => pan_put h) (Or.inl ⟨by kernel_rfl, fun W hS => (by obtain ⟨q0, q1, q2⟩ := hS; go_simp)⟩) hH ?_
  simp only [Act.put, List.setIfInBounds_toArray, List.set_cons_zero, List.set_cons_succ]
  refine g_takeT 20 (i := 1) (v := .pointer (some ⟨p, 0, none⟩)) (by rfl) (by kernel_rfl) (by kernel_rfl) (by kernel_rfl) (by kernel_rfl) (by kernel_rfl) (fun _ _ _ h => pan_put h) (Or.inl ⟨by kernel_rfl, fun W hS => (by obtain ⟨q0, q1, q2⟩ := hS; go_simp)⟩) hH ?_
  simp only [Act.put, List.setIfInBounds_toArray, List.set_cons_zero, List.set_cons_succ]
  refine g_takeT 20 (i := 2) (v := .pointer (some ⟨p, 0, none⟩)) (by rfl) (by kernel_rfl) (by kernel_rfl) (by kernel_rfl) (by kernel_rfl) (by kernel_rfl) (fun _ _ _ h => pan_put h) (Or.inl ⟨by kernel_rfl, fun W hS => (by obtain ⟨q0, q1, q2⟩ := hS; go_simp)⟩) hH ?_
  simp only [Act.put, List.setIfInBounds_toArray, List.set_cons_zero, List.set_cons_succ]
  refine g_takeT 20 (i := 3) (v := .pointer (some ⟨p, 2, none⟩)) (by rfl) (by kernel_rfl) (by kernel_rfl) (by kernel_rfl) (by kernel_rfl) (by kernel_rfl) (fun _ _ _ h => pan_put h) (Or.inl ⟨by kernel_rfl, fun W hS => (by obtain ⟨q0, q1, q2⟩ := hS; go_simp)⟩) hH ?_
  simp only [Act.put, List.setIfInBounds_toArray, List.set_cons_zero, List.set_cons_succ]
  refine g_takeT 20 (i := 4) (v := .slice A1 n1 c1) (by rfl) (by kernel_rfl) (by kernel_rfl) (by kernel_rfl) (by kernel_rfl) (by kernel_rfl) (fun _ _ _ h => pan_put h) (Or.inl ⟨by kernel_rfl, fun W hS => (by obtain ⟨q0, q1, q2⟩ := hS; go_simp)⟩) hH ?_
  simp only [Act.put, List.setIfInBounds_toArray, List.set_cons_zero, List.set_cons_succ]
  refine g_takeT 20 (i := 5) (v := .agg #[.pointer (some ⟨L, 0, none⟩), .pointer (some ⟨p, 0, none⟩)]) (by rfl) (by kernel_rfl) (by kernel_rfl) (by kernel_rfl) (by kernel_rfl) (by kernel_rfl) (fun _ _ _ h => pan_put h) (Or.inl ⟨by kernel_rfl, fun W hS => (by obtain ⟨q0, q1, q2⟩ := hS; go_simp)⟩) hH ?_
  simp only [Act.put, List.setIfInBounds_toArray, List.set_cons_zero, List.set_cons_succ]
  refine g_one (i := 6) (by kernel_rfl) (by rfl) (fun K hK => ?_)
  go_simp
  refine HP.out.mono ?_
  rintro e w5 (⟨ks, a5, v, hr, rfl, hv5, h5⟩ | ⟨hr, k, rfl, hk0, b, hF⟩)
  case inr => exact .inr ⟨_, rfl, pq_up HU.out (.inr ⟨by rw [← HR.out, hr]; rfl, k, rfl, hk0, x, b, HId.out.1.go hF.1 hF.2.1 hF.2.2, HId.out.2.trans ((HId.out.1.line_tch hF.2.2).wide fun r hr => .inl (.inr hr))⟩), rfl⟩
  have hfa := HFa.out ks a5 hr
  obtain ⟨A5, c5, ev, _⟩ := hv5.len
  subst ev
  rw [hr] at HR
  have HR1 : Hid (((meetB S (blk S a5) 61).bind fun a2 => (beginS x).bind fun x1 => (moveS (x.bs ++ ks).dropLast x1).bind fun x2 => (tellX x2 (evT 8 (lastK (x.bs ++ ks)))).bind fun x3 => setToS S (valS S (S.length + 1)) a2 x3) = R) := Lib.hid HR.out
  have hT5 : Tch base secObj W.drew w5 := (HId.out.1.line_tch h5.2.2).wide fun r hr => .inl (.inr hr)
  have hi5 : SI base L p o ck S secObj W x a5 w5 := ⟨HId.out.1.go h5.1 h5.2.1 h5.2.2, HId.out.2.trans hT5⟩
  have hS5 : SRd w5 (.slice A1 n1 c1) x.bs := HS1.out.tch hT5 (fun _ _ => sec_box _ _ _ (.inr rfl))
  obtain ⟨e0, e1, hge⟩ := rb_cells (rb_tch HB.out hi5.2)
  have e2 : w5.cell? ⟨p, 2, none⟩ = some (.slice A1 n1 c1) := by
    obtain ⟨pv, bv, hPB, _⟩ := HId.out.1.blk
    have h1 : W.drew.cell? ⟨p, 2, none⟩ = some bv := hPB.cell 2
    rw [d2] at h1
    injection h1 with h1
    subst h1
    exact (Blk.tch hPB (HId.out.1.line_tch h5.2.2) (.inr (by simp only [lnO]; decide))).cell 2
  have al6 : Below w5.heap.size w5 (w5.alloc (.cells #[.slice A1 n1 c1, .slice A5 ks.length c5] 54)) := (Below.refl _ _).alloc (Nat.le_refl _) _
  have HC := Lib.hid (concat_any _ w5.heap.size (.slice A1 n1 c1) (.slice A5 ks.length c5) x.bs ks (hS5.below al6) (hv5.below al6) (Blk.new w5 54 #[.slice A1 n1 c1, .slice A5 ks.length c5]) (by omega) (by have := hfa.2.1; have := HBs.out.1; omega))
  have HI6 := Lib.hid (si_below hi5 al6)
  have HK := Lib.hid hfa
  refine hK.out _ _ (fun _ => ⟨e0, e1, e2⟩) (fun _ => ?_)
  clear hK K hr HR hT5 hi5 hS5 hv5 h5 hfa HP HId HFa hH d0 d1 d2 HS1 e0 e1 e2 al6
  refine g_one (i := 7) (by kernel_rfl) (by rfl) (fun K hK => ?_)
  go_simp
  refine hK.out _ _ (fun h => absurd (by decide) h) (fun _ => ?_)
  clear hK K
  refine g_one (i := 8) (by kernel_rfl) (by rfl) (fun K hK => ?_)
  go_simp
  refine HC.out.mono ?_
  rintro e w7 ⟨v7, rfl, hS7, hb7⟩
  obtain ⟨A7, c7, ev, _⟩ := hS7.len
  subst ev
  have hi7 := si_below HI6.out hb7
  obtain ⟨e0, e1, hge⟩ := rb_cells (rb_tch HB.out hi7.2)
  obtain ⟨n7, hn7⟩ : ∃ n7, (x.bs ++ ks).length = n7 := ⟨_, rfl⟩
  rw [hn7] at hS7 ⊢
  have HS7 := Lib.hid hS7
  have HN7 := Lib.hid hn7
  have HBk := Lib.hid (blanks_I ((secT (q := secObj) (w0 := w7) h1000 sx_sec).rd x) (si_refl hi7.1))
  have HU7 := Lib.hid (HU.out.trans hi7.2)
  have HB7 := Lib.hid (rb_tch HB.out hi7.2)
  refine hK.out _ _ (fun h => absurd (by decide) h) (fun _ => ?_)
  clear hK K hS7 hi7 hb7 HC HI6 hn7
  refine g_one (i := 9) (by kernel_rfl) (by rfl) (fun K hK => ?_)
  go_simp
  refine hK.out _ _ (fun h => absurd (by decide) h) (fun _ => ?_)
  clear hK K
  refine g_done (by kernel_rfl) (.inl ⟨by first | rfl | trivial, ?_⟩) _
  go_wp2_with fail
  refine HBk.out.mono ?_
  rintro e w8 ⟨rfl, h8⟩
  obtain ⟨e0, e1, hge⟩ := rb_cells (rb_tch HB7.out h8.2)
  have HM := Lib.hid (meet_I ((secT (q := secObj) (w0 := w7) h1000 sx_sec).rd x) 61 h8)
  clear h8 HBk
  go_wp2_with fail
  refine HM.out.mono ?_
  rintro e w9 (⟨a9, hr, rfl, h9⟩ | ⟨hr, k, rfl, hF⟩)
  case inr => exact ⟨rfl, pq_up HU7.out (.inr ⟨by rw [← HR1.out, hr]; rfl, k, rfl, hF⟩)⟩
  rw [hr] at HR1
  have HR2 : Hid (((beginS x).bind fun x1 => (moveS (x.bs ++ ks).dropLast x1).bind fun x2 => (tellX x2 (evT 8 (lastK (x.bs ++ ks)))).bind fun x3 => setToS S (valS S (S.length + 1)) a9 x3) = R) := Lib.hid HR1.out
  obtain ⟨e0, e1, hge⟩ := rb_cells (rb_tch HB7.out h9.2)
  have hBg := begin_S h9.1 (by have := HX.out.1; omega)
  unfold rV at hBg
  have HBg := Lib.hid hBg
  have HT9 := Lib.hid h9.2
  clear h9 hr HR1 HM hBg
  go_wp2_with fail
  refine HBg.out.mono ?_
  rintro e w10 (⟨y, hr, rfl, h10⟩ | ⟨hr, k, rfl, hF⟩)
  case inr => exact ⟨rfl, pq_up HU7.out (.inr ⟨by rw [← HR2.out, hr]; rfl, k, rfl, SFup HT9.out hF⟩)⟩
  have hfb := begin_facts hr
  rw [hr] at HR2
  have HR3 : Hid (((moveS (x.bs ++ ks).dropLast y).bind fun x2 => (tellX x2 (evT 8 (lastK (x.bs ++ ks)))).bind fun x3 => setToS S (valS S (S.length + 1)) a9 x3) = R) := Lib.hid HR2.out
  have HY := Lib.hid (show y.l.length ≤ 400001 ∧ y.pos.length ≤ 100 from ⟨by have := hfb.1; have := HX.out.1; omega, by rw [hfb.2.1]; exact HX.out.2⟩)
  have hi10 := si_up HT9.out h10
  have hS10 := HS7.out.tch hi10.2 (fun _ _ => sec_box _ _ _ (.inr rfl))
  have hpth : ∀ k ∈ x.bs ++ ks, k.size ≤ 1000 := fun k hk => by
    rcases List.mem_append.1 hk with hk | hk
    · exact HBs.out.2 k hk
    · exact HK.out.2.2.1 k hk
  have hp0 : 0 < (x.bs ++ ks).length := by rw [List.length_append]; have := HK.out.1; omega
  have hp9 : (x.bs ++ ks).length ≤ 1000 := by rw [List.length_append]; have := HK.out.2.1; have := HBs.out.1; omega
  have HCut := Lib.hid (cutLast_any (.slice A7 n7 c7) (x.bs ++ ks) hS10 hp0 hp9)
  obtain ⟨s, hs⟩ : ∃ s, lastK (x.bs ++ ks) = s := ⟨_, rfl⟩
  have hsz := lastK_sz hpth hp0
  have hpd : ∀ k ∈ (x.bs ++ ks).dropLast, k.size ≤ 1000 := fun k hk => hpth k ((List.dropLast_sublist _).subset hk)
  have hpd9 : (x.bs ++ ks).dropLast.length ≤ 1000 := by rw [List.length_dropLast]; omega
  rw [hs] at HCut HR3 hsz
  generalize (x.bs ++ ks).dropLast = pd at *
  have HPd := Lib.hid (And.intro hpd hpd9)
  obtain ⟨e0, e1, hge⟩ := rb_cells (rb_tch HB7.out hi10.2)
  have HI10 := Lib.hid hi10
  clear hr HR2 hfb h10 hi10 hS10 hpth hp0 hp9 hs hpd hpd9 HBg HT9
  go_wp2_with fail
  refine HCut.out.mono ?_
  rintro e w11 ⟨v11, rfl, hS11, hb11⟩
  have hi11 := si_below HI10.out hb11
  have hMv := move_S v11 pd hi11.1 hS11 HPd.out.1 HPd.out.2 (by have := HY.out.1; omega) (by have := HY.out.2; omega)
  unfold rV at hMv
  have HMv := Lib.hid hMv
  have HT11 := Lib.hid hi11.2
  have HFm := Lib.hid (fun z (hz : moveS pd y = some z) => moveS_facts HPd.out.1 hz HI10.out.1.tk)
  obtain ⟨e0, e1, hge⟩ := rb_cells (rb_tch HB7.out hi11.2)
  clear hi11 hS11 hb11 hMv HCut
  go_wp2_with fail
  refine HMv.out.mono ?_
  rintro e w12 (⟨z, hr, rfl, h12⟩ | ⟨hr, k, rfl, hF⟩)
  case inr => exact ⟨rfl, pq_up HU7.out (.inr ⟨by rw [← HR3.out, hr]; rfl, k, rfl, SFup HT11.out hF⟩)⟩
  have hfm := HFm.out z hr
  rw [hr] at HR3
  have HR4 : Hid (((tellX z (evT 8 s)).bind fun x3 => setToS S (valS S (S.length + 1)) a9 x3) = R) := Lib.hid HR3.out
  have hzl : z.l.length ≤ 400041 := by have := hfm.1; have := HY.out.1; omega
  have hi12 := si_up HT11.out h12
  have HTl := Lib.hid (tell_S t_sec (evT 8 s) hi12 (by omega) hsz)
  obtain ⟨e0, e1, hge⟩ := rb_cells (rb_tch HB7.out hi12.2)
  clear hr HR3 hfm h12 hi12 HMv HFm HT11
  go_wp2_with fail
  refine HTl.out.mono ?_
  rintro e w13 (⟨u, hr, rfl, h13⟩ | ⟨hr, k, rfl, hF⟩)
  case inr => exact ⟨rfl, pq_up HU7.out (.inr ⟨by rw [← HR4.out, hr]; rfl, k, rfl, hF⟩)⟩
  have hul : u.l.length ≤ 400042 := by have := (tell_len hr).1; omega
  rw [hr] at HR4
  have hSt := setTo_S (value_S (S.length + 1)) (show S.length - a9 < S.length + 1 + 1 by omega) (show OkL secM S a9 u by unfold OkL; show u.l.length + _ ≤ _; omega) h13.1
  rw [show setToS S (valS S (S.length + 1)) a9 u = R from HR4.out] at hSt
  unfold rV at hSt
  have HSt := Lib.hid hSt
  have HT13 := Lib.hid (HU7.out.trans h13.2)
  obtain ⟨e0, e1, hge⟩ := rb_cells (rb_tch HB7.out h13.2)
  clear hr HR4 h13 hSt HTl
  go_wp2_with fail
  refine HSt.out.mono ?_
  rintro e w14 (⟨a14, x14, hr, rfl, h14⟩ | ⟨hr, k, rfl, hF⟩)
  case inr => exact ⟨rfl, pq_up HT13.out (.inr ⟨hr, k, rfl, hF⟩)⟩
  have H14 := Lib.hid (And.intro hr h14)
  clear hr h14 HSt
  go_wp2
  go_end0
  exact pq_up HT13.out (.inl ⟨a14, x14, H14.out.1, rfl, H14.out.2⟩)
end
end Go.Proofs.YtalkjgijmceifaaGreatDoor
namespace Go.Proofs.YtalkjgijmceifaaGreatDoor
open Go.RowKit Go.Maps
set_option maxRecDepth 100000
set_option linter.unusedSimpArgs false
set_option linter.unusedVariables false
set_option linter.unusedSectionVars false
variable [Tab] [Fo]

section
variable {base L p o ck : Nat} {S : List UInt8} {x : Sx} {a : Nat} {w w' : World}
/-- How the parsing of a line ends. -/
def PLn (I : Sx → Nat → World → Prop) (F : Int → World → Prop) (r : Option Sx) (e : Ending) (w' : World) : Prop :=
  (∃ y a, r = some y ∧ e = .returned (.tuple #[]) ∧ I y a w') ∨ (r = none ∧ ∃ k, e = .panicked (failP k) ∧ F k w')
theorem pl_up {w0 W : World} (ht : Tch base secObj w0 W) {r : Option Sx} {e : Ending} (h : PLn (SI base L p o ck S secObj W) (SF base L p o ck S secObj W) r e w') : PLn (SI base L p o ck S secObj w0) (SF base L p o ck S secObj w0) r e w' := by
  rcases h with ⟨y, b, h1, h2, h3⟩ | ⟨h1, k, h2, h3⟩
  · exact .inl ⟨y, b, h1, h2, si_up ht h3⟩
  · exact .inr ⟨h1, k, h2, SFup ht h3⟩
set_option maxHeartbeats 4000000 in
theorem end_S (h : SecI base L p o ck S x a w) (hl : x.l.length ≤ 400000) (hpn : x.pos.length ≤ 100) :
    Calls Tryz.prog 243 #[.pointer (some ⟨p, 0, none⟩), .pointer (some ⟨L, 0, none⟩)] w (PLn (SI base L p o ck S secObj w) (SF base L p o ck S secObj w) (finX x)) := by
  obtain ⟨g, W, hg, hW, hB, hlt, hi, hT⟩ := rbox (q := secObj) h
  have HU := Lib.hid hT
  have HB := Lib.hid hB
  obtain ⟨R, hR⟩ : ∃ R, finX x = R := ⟨_, rfl⟩
  rw [hR]
  unfold finX at hR
  have HR := Lib.hid hR
  have hBg := begin_S hi (by omega)
  unfold rV at hBg
  have HBg := Lib.hid hBg
  obtain ⟨b0, b1, _⟩ := rb_cells hB
  have h7 := h.tk.st7
  have HTk := Lib.hid h.tk
  clear h hR hT hB hi hBg
  go_enter Tryz.func243, Tryz.ntmps243
  go_wp2_with fail
  refine HBg.out.mono ?_
  rintro e w1 (⟨y, hr, rfl, h1⟩ | ⟨hr, k, rfl, hF⟩)
  case inr => exact ⟨rfl, pl_up HU.out (.inr ⟨by rw [← HR.out, hr]; rfl, k, rfl, hF⟩)⟩
  have hfb := begin_facts hr
  rw [hr] at HR
  have HR1 : Hid (((shutK 0 y).bind fun x2 => tellX x2 (evB 9)) = R) := Lib.hid HR.out
  have hyl : y.l.length ≤ 400001 := by have := hfb.1; omega
  have hSh := shut_S 0 h1.1 (by omega) (by omega)
  unfold rV at hSh
  have HSh := Lib.hid hSh
  have HT1 := Lib.hid h1.2
  have HFs := Lib.hid (fun z (hz : shutK 0 y = some z) => shutK_lens 0 hz)
  have hy7 := h1.1.tk.st7
  obtain ⟨b0, b1, hgl⟩ := rb_cells (rb_tch HB.out h1.2)
  clear hr HR hfb h1 hSh HBg
  go_wp2_with fail
  refine HSh.out.mono ?_
  rintro e w2 (⟨z, hr, rfl, h2⟩ | ⟨hr, k, rfl, hF⟩)
  case inr => exact ⟨rfl, pl_up HU.out (.inr ⟨by rw [← HR1.out, hr]; rfl, k, rfl, SFup HT1.out hF⟩)⟩
  have hfs := HFs.out z hr
  rw [hr] at HR1
  have hi2 := si_up HT1.out h2
  have hTl := tell_S t_sec (evB 9) hi2 (by have := hfs.1; omega) (Nat.zero_le _)
  rw [show tellX z (evB 9) = R from HR1.out] at hTl
  have HTl := Lib.hid hTl
  obtain ⟨b0, b1, hgl⟩ := rb_cells (rb_tch HB.out hi2.2)
  clear hr HR1 hfs h2 hi2 hTl HSh HFs HT1
  go_wp2_with fail
  refine HTl.out.mono ?_
  rintro e w3 (⟨u, hr, rfl, h3⟩ | ⟨hr, k, rfl, hF⟩)
  case inr => exact ⟨rfl, pl_up HU.out (.inr ⟨hr, k, rfl, hF⟩)⟩
  have H3 := Lib.hid (And.intro hr h3)
  clear hr h3 HTl
  go_wp2
  go_end0
  exact .inl ⟨u, a, H3.out.1, rfl, si_up HU.out H3.out.2⟩
set_option maxHeartbeats 4000000 in
theorem parse_S (h : SecI base L p o ck S x 0 w) (hl : x.l.length ≤ 400000) (hpn : x.pos.length ≤ 100) (hbs : BsOk x) :
    Calls Tryz.prog 244 #[.pointer (some ⟨p, 0, none⟩), .pointer (some ⟨L, 0, none⟩)] w (PLn (SI base L p o ck S secObj w) (SF base L p o ck S secObj w) (lineS S x)) := by
  obtain ⟨R, hR⟩ : ∃ R, lineS S x = R := ⟨_, rfl⟩
  rw [hR]
  unfold lineS at hR
  have HR := Lib.hid hR
  have h1000 : S.length ≤ 1000 := by have := h.s9; omega
  have HC := Lib.hid (comment_I ((secT (q := secObj) (w0 := w) h1000 sx_sec).rd x) (si_refl h))
  have HX := Lib.hid (And.intro hl (And.intro hpn hbs))
  clear h hR hl hpn hbs
  go_enter Tryz.func244, Tryz.ntmps244
  go_wp2_with fail
  refine HC.out.mono ?_
  rintro e w1 ⟨rfl, h1⟩
  have H1 := Lib.hid h1
  clear h1 HC
  cases hc : cmB S 0 with
  | true =>
    rw [hc, if_pos rfl] at HR
    clear hc
    go_wp2
    go_end0
    exact .inl ⟨x, _, HR.out.symm, rfl, H1.out⟩
  | false =>
    rw [hc, if_neg (by decide)] at HR
    clear hc
    obtain ⟨g, W, hg, hW, hB, hlt, hi, hT⟩ := rbox (q := secObj) H1.out.1
    have HU := Lib.hid (Tch.trans H1.out.2 hT)
    have HB := Lib.hid hB
    obtain ⟨b0, b1, _⟩ := rb_cells hB
    have HIs := Lib.hid (is_I ((secT (q := secObj) (w0 := W) h1000 sx_sec).rd x) 91 (si_refl hi))
    generalize blk S 0 = a at *
    clear hT hB hi H1
    go_wp2_with fail
    refine HIs.out.mono ?_
    rintro e w2 ⟨rfl, h2⟩
    obtain ⟨b0, b1, hgl⟩ := rb_cells (rb_tch HB.out h2.2)
    have H2 := Lib.hid h2
    clear h2 HIs
    cases hb : isB S a 91 with
    | true =>
      rw [if_pos hb] at HR
      have hH := header_S H2.out.1 (by have := HX.out.1; omega) HX.out.2.1
      unfold rV at hH
      have HH := Lib.hid hH
      clear hb hH
      go_wp2_with fail
      refine HH.out.mono ?_
      rintro e w3 (⟨a3, y, hr, rfl, h3⟩ | ⟨hr, k, rfl, hF⟩)
      case inr => exact ⟨rfl, pl_up HU.out (.inr ⟨by rw [← HR.out, hr]; rfl, k, rfl, SFup H2.out.2 hF⟩)⟩
      rw [hr] at HR
      have HR3 : Hid (((finB S a3).map fun _ => y) = R) := Lib.hid HR.out
      have hi3 := si_up H2.out.2 h3
      have HFn := Lib.hid (finish_I ((secT (q := secObj) (w0 := W) h1000 sx_sec).rd y) hi3)
      obtain ⟨b0, b1, hgl⟩ := rb_cells (rb_tch HB.out hi3.2)
      clear hr HR h3 hi3 HH
      go_wp2_with fail
      refine HFn.out.mono ?_
      rintro e w4 (⟨a4, hr, rfl, h4⟩ | ⟨hr, k, rfl, hF⟩)
      case inr => exact ⟨rfl, pl_up HU.out (.inr ⟨by rw [← HR3.out, hr]; rfl, k, rfl, hF⟩)⟩
      have H4 := Lib.hid (And.intro hr h4)
      clear hr h4 HFn
      go_wp2
      go_end0
      exact .inl ⟨y, a4, by rw [← HR3.out, H4.out.1]; rfl, rfl, si_up HU.out H4.out.2⟩
    | false =>
      rw [if_neg (by rw [hb]; decide)] at HR
      have hH := assign_S H2.out.1 HX.out.1 HX.out.2.1 HX.out.2.2
      unfold rV at hH
      have HH := Lib.hid hH
      clear hb hH
      go_wp2_with fail
      refine HH.out.mono ?_
      rintro e w3 (⟨a3, y, hr, rfl, h3⟩ | ⟨hr, k, rfl, hF⟩)
      case inr => exact ⟨rfl, pl_up HU.out (.inr ⟨by rw [← HR.out, hr]; rfl, k, rfl, SFup H2.out.2 hF⟩)⟩
      rw [hr] at HR
      have HR3 : Hid (((finB S a3).map fun _ => y) = R) := Lib.hid HR.out
      have hi3 := si_up H2.out.2 h3
      have HFn := Lib.hid (finish_I ((secT (q := secObj) (w0 := W) h1000 sx_sec).rd y) hi3)
      obtain ⟨b0, b1, hgl⟩ := rb_cells (rb_tch HB.out hi3.2)
      clear hr HR h3 hi3 HH
      go_wp2_with fail
      refine HFn.out.mono ?_
      rintro e w4 (⟨a4, hr, rfl, h4⟩ | ⟨hr, k, rfl, hF⟩)
      case inr => exact ⟨rfl, pl_up HU.out (.inr ⟨by rw [← HR3.out, hr]; rfl, k, rfl, hF⟩)⟩
      have H4 := Lib.hid (And.intro hr h4)
      clear hr h4 HFn
      go_wp2
      go_end0
      exact .inl ⟨y, a4, by rw [← HR3.out, H4.out.1]; rfl, rfl, si_up HU.out H4.out.2⟩
end
end Go.Proofs.YtalkjgijmceifaaGreatDoor

/-
  Foreign blocks, others than before: what a decoder holds stays clear of blocks that are new, and lies as it lay where foreign blocks alone have turned, or what its events lay in has.
  Whether two rows of events are the same (the reference).
  The walk of DelimEarly.
-/
import Derived.Test.YtfciacigamjfkabGreatDmC33
import Derived.Test.YtfciacigamjfkabGreatDmC37
import Derived.Test.YtfciacigamjfkabGreatDmC21
import Derived.Test.YtfciacigamjfkabGreatDmC06
namespace Go.Proofs.YtfciacigamjfkabGreat
open Go.RowKit Go.Maps
set_option maxRecDepth 100000
set_option linter.unusedSimpArgs false
set_option linter.unusedVariables false
set_option linter.unusedSectionVars false
variable [Tab]

section
variable {w w' : World} {f1 f2 : Fo}
/-- The blocks that are foreign now were so, or are new. -/
def FoS (f1 f2 : Fo) (w : World) : Prop := ∀ k, k < w.heap.size → f2.F k → f1.F k
/-- What is of some kinds, and not foreign, lies as it lay. -/
def Mv (f1 : Fo) (p : Obj → Prop) (w w' : World) : Prop := ∀ k o, w.heap[k]? = some o → p o → ¬ f1.F k → w'.heap[k]? = some o
theorem Mv.of_below {p : Obj → Prop} (hb : Below w.heap.size w w') : Mv f1 p w w' := fun k o ho _ _ => (hb.block k (Array.getElem?_eq_some_iff.1 ho).1).trans ho
theorem Mv.narrow {p q : Obj → Prop} (h : Mv f1 p w w') (hq : ∀ o, q o → p o) : Mv f1 q w w' := fun k o ho hp hn => h k o ho (hq o hp) hn
theorem row_ltF {b : Nat} {e : TypeId} {size n : Nat} {v : Value} {xs : List Value} (h : w.ownsRow b e size v n xs) {g : Nat} (hg : v.ownBlock = some g) : g < w.heap.size := (World.ownsRow.lt h g hg).2
theorem row_mv {p : Obj → Prop} {b : Nat} {e : TypeId} {size n : Nat} {v : Value} {xs : List Value} (hm : Mv f1 p w w') (hr : w.ownsRow b e size v n xs) (hn : ∀ g, v.ownBlock = some g → ¬ f1.F g) (hp : ∀ cur, p (.cells cur e (0, 0))) : w'.ownsRow b e size v n xs := by
  refine ⟨hr.1, ?_⟩
  rcases hr.2 with hv | ⟨g, cap, cur, hv, hg, hh, q⟩
  · exact .inl hv
  · exact .inr ⟨g, cap, cur, hv, hg, hm g _ hh (hp _) (hn g (by rw [hv]; rfl)), q⟩
theorem maps_fo (hF : FoS f1 f2 w) {b : Nat} : ∀ {l : List PQ}, @MapsOk f1 w b l → @MapsOk f2 w b l
  | [], _ => trivial
  | q :: r, h => by
    refine ⟨fun k hk => ⟨⟨(h.1 k hk).1.1, fun hc => (h.1 k hk).1.2 (hF k ?_ hc)⟩, (h.1 k hk).2⟩, h.2.1, maps_fo hF h.2.2⟩
    have h2 := h.2.1
    rw [hk] at h2
    obtain ⟨es, c, ho⟩ := SetAt.obj h2
    exact (Array.getElem?_eq_some_iff.1 ho).1
theorem maps_nf {b : Nat} : ∀ {l : List PQ}, @MapsOk f1 w b l → ∀ q ∈ l, ∀ k, q.m = some k → ¬ f1.F k
  | [], _, q, hq => by cases hq
  | p :: r, hm, q, hq => by
    intro k hk
    rcases List.mem_cons.1 hq with rfl | hq
    · exact (hm.1 k hk).1.2
    · exact maps_nf hm.2.2 q hq k hk
theorem crep_mv (hF : FoS f1 f2 w) (hm : Mv f1 cObj w w') (hl : f2.lim ≤ w'.heap.size) {base g rb cap : Nat} {qs : List PQ} (h : @CRep f1 w base g rb cap qs) : @CRep f2 w' base g rb cap qs := by
  obtain ⟨h1, h2, h3, h4, h5, h6, h7⟩ := h
  have hr := row_ltF h3 (g := rb) rfl
  have hnf := maps_nf h4
  have hmp := maps_fo hF h4
  refine @CRep.mk f2 w' base g rb cap qs h1 (hm g _ h2 (.inl rfl) h5) ?_ ?_ ⟨fun hc => h5 (hF g (Blk.lt h2) hc), fun hc => h6 (hF rb hr hc), hl⟩
  · exact row_mv hm h3 (fun k hk hc => by have e : rb = k := Option.some.inj hk; exact h6 (e ▸ hc)) (fun _ => .inr rfl)
  · refine @MapsOk.keep _ f2 w w' base qs hmp fun q hq b hqb hbm => ?_
    obtain ⟨es, c, ho⟩ := hbm
    rw [hm b _ ho trivial (hnf q hq b hqb), ho]
theorem crep_fo (hF : FoS f1 f2 w) (hb : Below w.heap.size w w') (hl : f2.lim ≤ w'.heap.size) {base g rb cap : Nat} {qs : List PQ} (h : @CRep f1 w base g rb cap qs) : @CRep f2 w' base g rb cap qs := crep_mv hF (Mv.of_below hb) hl h
theorem rowt_mv (hk : f2.tk = f1.tk) (hm : Mv f1 eObj w w') {base : Nat} {v : Value} {l : List Ev} (h : @RowT f1 w base v l) (hn : @NF f1 v) : @RowT f2 w' base v l := by
  have hk' : ∀ g o, v.ownBlock = some g → w.heap[g]? = some o → w'.heap[g]? = some o := fun g o hg ho => by
    obtain ⟨_, _, cur, hc⟩ := @RowT.obj _ f1 _ _ _ _ h g hg
    have e := ho
    rw [hc] at e
    injection e with e
    exact hm g o ho (by rw [← e]; rfl) (hn g hg)
  have h2 := @RowT.frame _ f1 _ w' _ _ _ h hk'
  rcases h2 with ⟨h0, h2⟩ | ⟨n, h0, h1, h2⟩
  · exact .inl ⟨hk.trans h0, h2⟩
  · exact .inr ⟨n, hk.trans h0, h1, h2⟩
theorem oat_mv (hF : FoS f1 f2 w) (hk : f2.tk = f1.tk) (hm : Mv f1 tObj w w') (hl : f2.lim ≤ w'.heap.size) {base o ck : Nat} {st : List Pt} {l : List Ev} (h : @OAt f1 w base o ck st l) : @OAt f2 w' base o ck st l := by
  obtain ⟨⟨lv, hB, hR, hf⟩, ⟨rb, cap, qs, hq, hC⟩, hbo, ho⟩ := h
  exact @OAt.mk f2 w' base o ck st l ⟨lv, hm o _ hB (.inr (.inr (.inl rfl))) ho, rowt_mv hk (hm.narrow fun _ => e_of_t) hR hf, fun g hg hc => hf g hg (hF g (@RowT.lt _ f1 _ _ _ _ hR g hg).2 hc)⟩ ⟨rb, cap, qs, hq, crep_mv hF (hm.narrow fun _ => c_of_t) hl hC⟩ hbo fun hc => ho (hF o (Blk.lt hB) hc)
theorem oat_fo (hF : FoS f1 f2 w) (hk : f2.tk = f1.tk) (hb : Below w.heap.size w w') (hl : f2.lim ≤ w'.heap.size) {base o ck : Nat} {st : List Pt} {l : List Ev} (h : @OAt f1 w base o ck st l) : @OAt f2 w' base o ck st l := oat_mv hF hk (Mv.of_below hb) hl h
theorem dm_mv (hF : FoS f1 f2 w) (hm : Mv f1 dmObj w w') (hl : f2.lim ≤ w'.heap.size) {base m : Nat} {M : Dm} {cv : Value} {g : Nat} (h : @DmAt f1 w base m M cv g) : @DmAt f2 w' base m M cv g := by
  obtain ⟨h1, h2, h3, h4, h5, h6, h7, h8⟩ := h
  exact @DmAt.mk f2 w' base m M cv g (hm m _ h1 (.inl rfl) h7) (row_mv hm h2 h4 (fun _ => .inr (.inl rfl))) (row_mv hm h3 (fun k hk hc => by have e : g = k := Option.some.inj hk; exact h5 (e ▸ hc)) (fun _ => .inr (.inr rfl)))
    (fun k hk hc => h4 k hk (hF k (row_ltF h2 hk) hc)) (fun hc => h5 (hF g (row_ltF h3 rfl) hc)) h6 (fun hc => h7 (hF m (Blk.lt h1) hc)) hl
theorem sta_mv (hF : FoS f1 f2 w) (hk : f2.tk = f1.tk) (hm : Mv f1 (fun o => dObj o ∨ ssObj o) w w') (hs : w.heap.size ≤ w'.heap.size) (hl : f2.lim ≤ w'.heap.size) {base B s m sc o ck : Nat} {x : Ss dlP} {cl en : Bool} (h : @StA _ f1 (@dlM _ f1) w base B s m sc o ck x cl en) : @StA _ f2 (@dlM _ f2) w' base B s m sc o ck x cl en := by
  obtain ⟨h1, h2, h3, h4, h5⟩ := h
  obtain ⟨⟨cv, g, hM⟩, hO⟩ : @DX f1 w base m o ck x.b := h3
  have h2' : Blk w sc _ _ := h2
  exact @StA.mk _ f2 (@dlM _ f2) w' base B s m sc o ck x cl en (hm s _ h1 (.inr (.inl rfl)) h4.1) (hm sc _ h2' (.inr (.inr rfl)) h4.2) (@DX.mk f2 w' base m o ck x.b ⟨cv, g, dm_mv hF (hm.narrow fun _ h => .inl (.inr h)) hl hM⟩ (oat_mv hF hk (hm.narrow fun _ h => .inl (.inl h)) hl hO)) ⟨fun hc => h4.1 (hF s (Blk.lt h1) hc), fun hc => h4.2 (hF sc h2'.lt hc)⟩ ⟨h5.sB, h5.cB, h5.bs, h5.bc, Nat.le_trans h5.hB hs, Nat.le_trans h5.hb hs⟩
theorem sta_fo (hF : FoS f1 f2 w) (hk : f2.tk = f1.tk) (hb : Below w.heap.size w w') (hl : f2.lim ≤ w'.heap.size) {base B s m sc o ck : Nat} {x : Ss dlP} {cl en : Bool} (h : @StA _ f1 (@dlM _ f1) w base B s m sc o ck x cl en) : @StA _ f2 (@dlM _ f2) w' base B s m sc o ck x cl en :=
  sta_mv hF hk (Mv.of_below hb) hb.size hl h
/-- All that waited was taken. -/
theorem sta_took {x : Ss dlP} (hF : FoS f1 f2 w) (hk : f2.tk = some x.b.l.length) (hl : f2.lim ≤ w'.heap.size) {base B s m sc o ck g : Nat} {en en' : Bool} {av : Value} (h : @StA _ f1 (@dlM _ f1) w base B s m sc o ck x false en)
    (hW : Wt w' base s sc o ck m g 61 x.e x.rd false en' []) (hfr : FrS (TkS s o g av) w w') (hav : ∀ k, av.ownBlock = some k → f1.F k) (hgF : ¬ f1.F g) (hgl : g < w.heap.size) (hgk : ∃ cs t fr, w.heap[g]? = some (.cells cs t fr) ∧ (t = 46 ∨ t = 83)) :
    @StA _ f2 (@dlM _ f2) w' base B s m sc o ck x false en' := by
  obtain ⟨h1, h2, h3, h4, h5⟩ := h
  obtain ⟨⟨cv, g', hM⟩, hO⟩ : @DX f1 w base m o ck x.b := h3
  have h2' : Blk w sc _ _ := h2
  obtain ⟨⟨lv, hB, hR, hf⟩, ⟨rb, cap, qs, hq, hC⟩, hbo, ho⟩ := hO
  obtain ⟨cs, t, fr, hg, ht⟩ := hgk
  -- what is none of the Stream's, the Out's, the events' blocks lies as it lay
  have hm : Mv f1 (fun o => cObj o ∨ dmObj o ∨ (∃ cs fr, o = .cells cs 138 fr)) w w' := by
    intro k q hq hp hn
    refine (hfr.keep k (Array.getElem?_eq_some_iff.1 hq).1 ?_).trans hq
    have hno : ∀ cs t fr, q = .cells cs t fr → t = 83 ∨ t = 110 ∨ t = 46 → False := by
      rintro cs t fr rfl ht
      rcases hp with hp | hp | ⟨cs', fr', hp⟩
      · simp only [cObj] at hp
        rcases ht with rfl | rfl | rfl <;> exact absurd hp (by decide)
      · simp only [dmObj] at hp
        rcases ht with rfl | rfl | rfl <;> exact absurd hp (by decide)
      · injection hp with _ hp
        rcases ht with rfl | rfl | rfl <;> exact absurd hp (by decide)
    rintro (rfl | rfl | rfl | hk)
    · unfold Blk at h1; rw [hq] at h1; injection h1 with h1; exact hno _ _ _ h1 (.inl rfl)
    · unfold Blk at hB; rw [hq] at hB; injection hB with hB; exact hno _ _ _ hB (.inr (.inl rfl))
    · rw [hq] at hg; injection hg with hg; exact hno _ _ _ hg (by rcases ht with h | h; exact .inr (.inr h); exact .inl h)
    · exact hn (hav k hk)
  obtain ⟨lv', hB', hR'⟩ := hW.out
  have hol : o < w.heap.size := Blk.lt hB
  refine @StA.mk _ f2 (@dlM _ f2) w' base B s m sc o ck x false en' hW.blk (hm sc _ h2' (.inr (.inr ⟨_, _, rfl⟩)) h4.2) (@DX.mk f2 w' base m o ck x.b ⟨cv, g', dm_mv hF (hm.narrow fun _ h => .inr (.inl h)) hl hM⟩ ?_) ⟨fun hc => h4.1 (hF s (Blk.lt h1) hc), fun hc => h4.2 (hF sc h2'.lt hc)⟩ ⟨h5.sB, h5.cB, h5.bs, h5.bc, Nat.le_trans h5.hB hfr.size, Nat.le_trans h5.hb hfr.size⟩
  refine @OAt.mk f2 w' base o ck x.b.st x.b.l ⟨lv', hB', .inr ⟨_, hk, Nat.le_refl _, ?_⟩, ?_⟩ ⟨rb, cap, qs, hq, crep_mv hF (hm.narrow fun _ h => .inl h) hl hC⟩ hbo fun hc => ho (hF o hol hc)
  · rw [List.drop_length]
    rcases hR' with ⟨_, h1⟩ | ⟨d, cap, cur, h1, h2, h3, h4, h5, h6⟩
    · exact .inl ⟨h1, rfl⟩
    · exact .inr ⟨g, d, cap, cur, h1, hW.bg, h4, h2, h3, h5, h6⟩
  · intro k hkk hc
    rcases hR' with ⟨_, h1⟩ | ⟨d, cap, cur, h1, _⟩
    · rw [h1] at hkk; cases hkk
    · rw [h1] at hkk
      have e : g = k := Option.some.inj hkk
      subst e
      exact hgF (hF g hgl hc)
end

section
variable [fo : Fo] {w w' : World}
/-- Foreign blocks alone have turned. -/
structure FoT (w w' : World) : Prop where
  size : w.heap.size ≤ w'.heap.size
  keep : ∀ k o, ¬ Fo.F k → w.heap[k]? = some o → w'.heap[k]? = some o
theorem sta_foT (h : FoT w w') {base B s m sc o ck : Nat} {x : Ss dlP} {cl en : Bool} (hA : StA (M := dlM) w base B s m sc o ck x cl en) : StA (M := dlM) w' base B s m sc o ck x cl en :=
  sta_mv (f1 := fo) (f2 := fo) (fun _ _ h => h) rfl (fun k o ho _ hn => h.keep k o hn ho) h.size (Nat.le_trans (by obtain ⟨⟨_, _, hM⟩, _⟩ : DX w base m o ck x.b := hA.d; exact hM.lim) h.size) hA
end
end Go.Proofs.YtfciacigamjfkabGreat
namespace Go.Proofs.YtfciacigamjfkabGreat
open Go.RowKit Go.Maps
set_option maxRecDepth 100000
set_option linter.unusedSimpArgs false
set_option linter.unusedSectionVars false
variable [Tab] [Fo]

instance : DecidableEq Ev := fun x y => decidable_of_iff (x.k = y.k ∧ x.t = y.t ∧ x.v = y.v) ⟨fun ⟨a, b, c⟩ => by cases x; cases y; simp_all, fun h => by subst h; exact ⟨rfl, rfl, rfl⟩⟩
theorem eq_ibeq {a b : Int} (h : a ≠ b) : (a == b) = false := by rw [beq_eq_false_iff_ne]; exact h
theorem eq_ibne {a b : Int} (h : a ≠ b) : (a != b) = true := by simp [bne, h]
theorem take_next {xs ys : List Ev} {j : Nat} (hx : j < xs.length) (hy : j < ys.length) (h : xs.take j = ys.take j) (he : xs[j] = ys[j]) : xs.take (j + 1) = ys.take (j + 1) := by
  rw [List.take_succ_eq_append_getElem hx, List.take_succ_eq_append_getElem hy, h, he]
theorem take_same {xs ys : List Ev} {j : Nat} (hl : xs.length = ys.length) (hj : ¬ j < xs.length) (h : xs.take j = ys.take j) : xs = ys := by
  rwa [List.take_of_length_le (by omega), List.take_of_length_le (by omega)] at h
theorem diff_at {xs ys : List Ev} {j : Nat} (hx : j < xs.length) (hy : j < ys.length) (h : ¬ xs[j] = ys[j]) : decide (xs = ys) = false := by
  rw [decide_eq_false_iff_not]
  intro e
  subst e
  exact h rfl

set_option maxHeartbeats 4000000 in
theorem esame_any (w : World) (va vb : Value) (xs ys : List Ev) (ha : ERead w va xs) (hb : ERead w vb ys) :
    Calls Tryz.prog 16 #[va, vb] w fun e w' => e = .returned (.bool (decide (xs = ys))) ∧ Below w.heap.size w w' := by
  obtain ⟨A, c, rfl, hlc, hcm, hr⟩ := ha
  obtain ⟨A', c', rfl, hlc', hcm', hr'⟩ := hb
  have hcm2 : c ≤ 9223372036854775807 := by simpa [maxLen] using hcm
  have hcm2' : c' ≤ 9223372036854775807 := by simpa [maxLen] using hcm'
  by_cases hl : xs.length = ys.length
  case neg =>
    rw [decide_eq_false (fun h => hl (by rw [h]))]
    have z1 := eq_ibeq (a := (xs.length : Int)) (b := ys.length) (by omega)
    have z2 := eq_ibne (a := (xs.length : Int)) (b := ys.length) (by omega)
    clear hr hr' hl
    go_enter Tryz.func16, Tryz.ntmps16
    go_wp2
    go_ret
    exact ⟨rfl, Below.refl _ _⟩
  case pos =>
    have HL := Lib.hid hl
    rw [← hl]
    rw [← hl] at hlc'
    clear hl
    obtain ⟨D, hD⟩ : ∃ D, decide (xs = ys) = D := ⟨_, rfl⟩
    rw [hD]
    have HDD := Lib.hid hD
    clear hD
    go_enter Tryz.func16, Tryz.ntmps16
    go_wp2
    go_loopw [5] (fun i wr => ∃ j : Nat, j ≤ xs.length ∧ i = .int .i64 (j : Int) ∧ Hid (xs.take j = ys.take j) ∧ Hid (Below w.heap.size w wr)) (fun i _ => xs.length - (intOf i).toNat)
    case atStart => exact ⟨0, Nat.zero_le _, rfl, Lib.hid rfl, Lib.hid (Below.refl _ _)⟩
    case round =>
      obtain ⟨j, hj, rfl, HP, HW⟩ := hrel
      by_cases hlt : j < xs.length
      case pos =>
        obtain ⟨b, o, rfl, hg⟩ := hr (by omega)
        obtain ⟨b', o', rfl, hg'⟩ := hr' (by rw [← HL.out]; omega)
        have hlt' : j < ys.length := by rw [← HL.out]; exact hlt
        obtain ⟨g0, g1, g2⟩ := hg j hlt
        obtain ⟨k0, k1, k2⟩ := hg' j hlt'
        have HN := Lib.hid (take_next hlt hlt' HP.out)
        have HD := Lib.hid (diff_at hlt hlt')
        generalize xs[j] = x at *
        generalize ys[j] = y at *
        have g0 := (HW.out.cell (p := ⟨b, o + j * 3, none⟩) (cell_lt g0)).trans g0
        have g1 := (HW.out.cell (p := ⟨b, o + j * 3 + 1, none⟩) (cell_lt g1)).trans g1
        have g2 := (HW.out.cell (p := ⟨b, o + j * 3 + 2, none⟩) (cell_lt g2)).trans g2
        have k0 := (HW.out.cell (p := ⟨b', o' + j * 3, none⟩) (cell_lt k0)).trans k0
        have k1 := (HW.out.cell (p := ⟨b', o' + j * 3 + 1, none⟩) (cell_lt k1)).trans k1
        have k2 := (HW.out.cell (p := ⟨b', o' + j * 3 + 2, none⟩) (cell_lt k2)).trans k2
        have hne : ¬ x = y → D = false := fun h => HDD.out ▸ HD.out h
        have HNE := Lib.hid hne
        clear hg hg' hr hr' hlt' hne HD
        by_cases hk : x.k = y.k
        case neg =>
          have HF := Lib.hid (HNE.out fun e => hk (by rw [e]))
          clear HN HNE
          go_wp2
          go_region
          go_wp2
          go_ret
          exact ⟨(by rw [HF.out]; rfl), HW.out.trans (below_drew (Below.refl _ _) |>.mono HW.out.size)⟩
        case pos =>
          by_cases ht : x.t = y.t
          case neg =>
            have HF := Lib.hid (HNE.out fun e => ht (by rw [e]))
            obtain ⟨z1, z2⟩ := str_diff ht
            clear HN HNE ht
            rw [← hk] at k0
            clear hk
            go_wp2
            go_region
            go_wp2
            go_ret
            exact ⟨(by rw [HF.out]; rfl), HW.out.trans (below_drew (Below.refl _ _) |>.mono HW.out.size)⟩
          case pos =>
            by_cases hv : x.v = y.v
            case neg =>
              have HF := Lib.hid (HNE.out fun e => hv (by rw [e]))
              obtain ⟨z1, z2⟩ := str_diff hv
              clear HN HNE hv
              rw [← hk] at k0
              rw [← ht] at k1
              clear hk ht
              go_wp2
              go_region
              go_wp2
              go_ret
              exact ⟨(by rw [HF.out]; rfl), HW.out.trans (below_drew (Below.refl _ _) |>.mono HW.out.size)⟩
            case pos =>
              have HE := Lib.hid (HN.out (by cases x; cases y; simp_all))
              rw [← hk] at k0
              rw [← ht] at k1
              rw [← hv] at k2
              clear hk ht hv HN HNE
              go_wp2
              go_region
              go_wp2
              go_roundw
              case rel => exact ⟨j + 1, by omega, by go_num, HE, Lib.hid (HW.out.trans (below_drew (Below.refl _ _) |>.mono HW.out.size))⟩
              case measure => simp [intOf]; omega
      case neg =>
        have HF := Lib.hid (take_same HL.out hlt HP.out)
        have HG : D = true := by rw [← HDD.out, decide_eq_true HF.out]
        have HG := Lib.hid HG
        clear hr hr' HF
        go_wp2
        go_ret
        exact ⟨(by rw [HG.out]; first | done | rfl), HW.out⟩
end Go.Proofs.YtfciacigamjfkabGreat
namespace Go.Proofs.YtfciacigamjfkabGreat
open Go.RowKit Go.Maps
set_option maxRecDepth 100000
set_option linter.unusedSimpArgs false
set_option linter.unusedVariables false
set_option linter.unusedSectionVars false
variable [Tab] [fo : Fo]

set_option maxHeartbeats 4000000 in
theorem dlnew_any (w : World) (hfl : Fo.lim ≤ w.heap.size) (htk : Fo.tk = none) : Calls Tryz.prog 18 #[] w fun e w' => ∃ d B s m sc o ck, e = .returned (.pointer (some ⟨d, 0, none⟩)) ∧ Blk w' d 37 #[.pointer (some ⟨s, 0, none⟩)] ∧ w.heap.size ≤ d ∧ Below w.heap.size w w' ∧
    ∃ w2, StA (M := dlM) w2 w.heap.size B s m sc o ck (ss0 dlP) false false ∧ w2.heap.size ≤ d ∧ Below w2.heap.size w2 w' := by
  have hP := dnew_any w hfl
  have hS : ∀ w1 m, draw w1 w.heap.size m → Below w.heap.size w w1 → Calls Tryz.prog 41 #[.iface 61 (.pointer (some ⟨m, 0, none⟩))] w1 fun e w' => ∃ B s sc o ck, e = .returned (.pointer (some ⟨s, 0, none⟩)) ∧ StA (M := dlM) w' w.heap.size B s m sc o ck (ss0 dlP) false false ∧ LowF w.heap.size w1 w' := fun w1 m hM hb => snew_any dlM w1 w.heap.size m hM htk hb.size
  have HS := Lib.hid hS
  clear hS
  go_enter Tryz.func18, Tryz.ntmps18
  go_wp2_with fail
  refine hP.mono ?_
  rintro e w1 ⟨m, rfl, hM, hb1⟩
  have HC := Lib.hid (HS.out w1 m hM hb1)
  have HB1 := Lib.hid hb1
  clear hM hb1 HS hP
  go_wp2_with fail
  refine HC.out.mono ?_
  rintro e w2 ⟨B, s, sc, o, ck, rfl, hA, hb2⟩
  have al : Below w2.heap.size w2 (w2.alloc (.cells #[.pointer (some ⟨s, 0, none⟩)] 37)) := (Below.refl _ _).alloc (Nat.le_refl _) _
  have hs2 : w.heap.size ≤ w2.heap.size := Nat.le_trans HB1.out.size hb2.low.size
  have HF := Lib.hid (And.intro hA (And.intro al (And.intro (Blk.new w2 37 #[.pointer (some ⟨s, 0, none⟩)]) (And.intro hs2 ((HB1.out.trans hb2.low).trans (al.mono hs2))))))
  clear hA hb2 al hs2 HC HB1
  go_wp2
  go_ret
  exact ⟨w2.heap.size, B, s, m, sc, o, ck, rfl, HF.out.2.2.1, HF.out.2.2.2.1, HF.out.2.2.2.2, w2, HF.out.1, Nat.le_refl _, HF.out.2.1⟩
end Go.Proofs.YtfciacigamjfkabGreat

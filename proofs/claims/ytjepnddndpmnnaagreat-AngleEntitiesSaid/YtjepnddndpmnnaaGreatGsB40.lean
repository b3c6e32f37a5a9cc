/-
  Whether two rows of events are the same (the reference).
  The walk of AngleEarly.
  The walk of AngleEarly.
-/
import Derived.Test.YtjepnddndpmnnaaGreatGsB15
import Derived.Test.YtjepnddndpmnnaaGreatGsB05
import Derived.Test.YtjepnddndpmnnaaGreatGsB39
namespace Go.Proofs.YtjepnddndpmnnaaGreat
open Go.RowKit Go.Maps
set_option maxRecDepth 100000
set_option linter.unusedSimpArgs false
set_option linter.unusedSectionVars false
variable [Tab] [Fo]

instance : DecidableEq Ev := fun x y => decidable_of_iff (x.k = y.k ∧ x.t = y.t ∧ x.v = y.v) ⟨fun ⟨a, b, c⟩ => by cases x; cases y; simp_all, fun h => by subst h; exact ⟨rfl, rfl, rfl⟩⟩
theorem eq_ibeq {a b : Int} (h : a ≠ b) : (a == b) = false := by rw [beq_eq_false_iff_ne]; exact h
theorem eq_ibne {a b : Int} (h : a ≠ b) : (a != b) = true := by simp [bne, h]
theorem take_next {xs ys : List Ev} {j : Nat} (hx : j < xs.length) (hy : j < ys.length) (h : xs.take j = ys.take j) (he : xs[j] = ys[j]) : xs.take (j + 1) = ys.take (j + 1) := by
  rw [List.take_succ_eq_append_getElem hx, List.take_succ_eq_append_getElem hy, h, he]
theorem take_same {xs ys : List Ev} {j : Nat} (hl : xs.length = ys.length) (hj : ¬ j < xs.length) (h : xs.take j = ys.take j) : xs = ys := by
  rwa [List.take_of_length_le (by omega), List.take_of_length_le (by omega)] at h
theorem diff_at {xs ys : List Ev} {j : Nat} (hx : j < xs.length) (hy : j < ys.length) (h : ¬ xs[j] = ys[j]) : decide (xs = ys) = false := by
  rw [decide_eq_false_iff_not]
  intro e
  subst e
  exact h rfl

set_option maxHeartbeats 4000000 in
theorem esame_any (w : World) (va vb : Value) (xs ys : List Ev) (ha : ERead w va xs) (hb : ERead w vb ys) :
    Calls Tryz.prog 11 #[va, vb] w fun e w' => e = .returned (.bool (decide (xs = ys))) ∧ Below w.heap.size w w' := by
  obtain ⟨A, c, rfl, hlc, hcm, hr⟩ := ha
  obtain ⟨A', c', rfl, hlc', hcm', hr'⟩ := hb
  have hcm2 : c ≤ 9223372036854775807 := by simpa [maxLen] using hcm
  have hcm2' : c' ≤ 9223372036854775807 := by simpa [maxLen] using hcm'
  by_cases hl : xs.length = ys.length
  case neg =>
    rw [decide_eq_false (fun h => hl (by rw [h]))]
    have z1 := eq_ibeq (a := (xs.length : Int)) (b := ys.length) (by omega)
    have z2 := eq_ibne (a := (xs.length : Int)) (b := ys.length) (by omega)
    clear hr hr' hl
    go_enter Tryz.func11, Tryz.ntmps11
    go_wp2
    go_ret
    exact ⟨rfl, Below.refl _ _⟩
  case pos =>
    have HL := Lib.hid hl
    rw [← hl]
    rw [← hl] at hlc'
    clear hl
    obtain ⟨D, hD⟩ : ∃ D, decide (xs = ys) = D := ⟨_, rfl⟩
    rw [hD]
    have HDD := Lib.hid hD
    clear hD
    go_enter Tryz.func11, Tryz.ntmps11
    go_wp2
    go_loopw [5] (fun i wr => ∃ j : Nat, j ≤ xs.length ∧ i = .int .i64 (j : Int) ∧ Hid (xs.take j = ys.take j) ∧ Hid (Below w.heap.size w wr)) (fun i _ => xs.length - (intOf i).toNat)
    case atStart => exact ⟨0, Nat.zero_le _, rfl, Lib.hid rfl, Lib.hid (Below.refl _ _)⟩
    case round =>
      obtain ⟨j, hj, rfl, HP, HW⟩ := hrel
      by_cases hlt : j < xs.length
      case pos =>
        obtain ⟨b, o, rfl, hg⟩ := hr (by omega)
        obtain ⟨b', o', rfl, hg'⟩ := hr' (by rw [← HL.out]; omega)
        have hlt' : j < ys.length := by rw [← HL.out]; exact hlt
        obtain ⟨g0, g1, g2⟩ := hg j hlt
        obtain ⟨k0, k1, k2⟩ := hg' j hlt'
        have HN := Lib.hid (take_next hlt hlt' HP.out)
        have HD := Lib.hid (diff_at hlt hlt')
        generalize xs[j] = x at *
        generalize ys[j] = y at *
        have g0 := (HW.out.cell (p := ⟨b, o + j * 3, none⟩) (cell_lt g0)).trans g0
        have g1 := (HW.out.cell (p := ⟨b, o + j * 3 + 1, none⟩) (cell_lt g1)).trans g1
        have g2 := (HW.out.cell (p := ⟨b, o + j * 3 + 2, none⟩) (cell_lt g2)).trans g2
        have k0 := (HW.out.cell (p := ⟨b', o' + j * 3, none⟩) (cell_lt k0)).trans k0
        have k1 := (HW.out.cell (p := ⟨b', o' + j * 3 + 1, none⟩) (cell_lt k1)).trans k1
        have k2 := (HW.out.cell (p := ⟨b', o' + j * 3 + 2, none⟩) (cell_lt k2)).trans k2
        have hne : ¬ x = y → D = false := fun h => HDD.out ▸ HD.out h
        have HNE := Lib.hid hne
        clear hg hg' hr hr' hlt' hne HD
        by_cases hk : x.k = y.k
        case neg =>
          have HF := Lib.hid (HNE.out fun e => hk (by rw [e]))
          clear HN HNE
          go_wp2
          go_region
          go_wp2
          go_ret
          exact ⟨(by rw [HF.out]; rfl), HW.out.trans (below_drew (Below.refl _ _) |>.mono HW.out.size)⟩
        case pos =>
          by_cases ht : x.t = y.t
          case neg =>
            have HF := Lib.hid (HNE.out fun e => ht (by rw [e]))
            obtain ⟨z1, z2⟩ := str_diff ht
            clear HN HNE ht
            rw [← hk] at k0
            clear hk
            go_wp2
            go_region
            go_wp2
            go_ret
            exact ⟨(by rw [HF.out]; rfl), HW.out.trans (below_drew (Below.refl _ _) |>.mono HW.out.size)⟩
          case pos =>
            by_cases hv : x.v = y.v
            case neg =>
              have HF := Lib.hid (HNE.out fun e => hv (by rw [e]))
              obtain ⟨z1, z2⟩ := str_diff hv
              clear HN HNE hv
              rw [← hk] at k0
              rw [← ht] at k1
              clear hk ht
              go_wp2
              go_region
              go_wp2
              go_ret
              exact ⟨(by rw [HF.out]; rfl), HW.out.trans (below_drew (Below.refl _ _) |>.mono HW.out.size)⟩
            case pos =>
              have HE := Lib.hid (HN.out (by cases x; cases y; simp_all))
              rw [← hk] at k0
              rw [← ht] at k1
              rw [← hv] at k2
              clear hk ht hv HN HNE
              go_wp2
              go_region
              go_wp2
              go_roundw
              case rel => exact ⟨j + 1, by omega, by go_num, HE, Lib.hid (HW.out.trans (below_drew (Below.refl _ _) |>.mono HW.out.size))⟩
              case measure => simp [intOf]; omega
      case neg =>
        have HF := Lib.hid (take_same HL.out hlt HP.out)
        have HG : D = true := by rw [← HDD.out, decide_eq_true HF.out]
        have HG := Lib.hid HG
        clear hr hr' HF
        go_wp2
        go_ret
        exact ⟨(by rw [HG.out]; first | done | rfl), HW.out⟩
end Go.Proofs.YtjepnddndpmnnaaGreat
namespace Go.Proofs.YtjepnddndpmnnaaGreat
open Go.RowKit Go.Maps
set_option maxRecDepth 100000
set_option linter.unusedSimpArgs false
set_option linter.unusedVariables false
set_option linter.unusedSectionVars false
variable [Tab] [fo : Fo]

set_option maxHeartbeats 4000000 in
theorem aglnew_any (w : World) (hfl : Fo.lim ≤ w.heap.size) (htk : Fo.tk = none) : Calls Tryz.prog 13 #[] w fun e w' => ∃ d B s m sc o ck, e = .returned (.pointer (some ⟨d, 0, none⟩)) ∧ Blk w' d 37 #[.pointer (some ⟨s, 0, none⟩)] ∧ w.heap.size ≤ d ∧ Below w.heap.size w w' ∧
    ∃ w2, StA (M := agM) w2 w.heap.size B s m sc o ck (ss0 agP) false false ∧ w2.heap.size ≤ d ∧ Below w2.heap.size w2 w' := by
  have hP := agnew_any w hfl
  have hS : ∀ w1 m, araw w1 w.heap.size m → Below w.heap.size w w1 → Calls Tryz.prog 29 #[.iface 48 (.pointer (some ⟨m, 0, none⟩))] w1 fun e w' => ∃ B s sc o ck, e = .returned (.pointer (some ⟨s, 0, none⟩)) ∧ StA (M := agM) w' w.heap.size B s m sc o ck (ss0 agP) false false ∧ LowF w.heap.size w1 w' := fun w1 m hM hb => snew_any agM w1 w.heap.size m hM htk hb.size
  have HS := Lib.hid hS
  clear hS
  go_enter Tryz.func13, Tryz.ntmps13
  go_wp2_with fail
  refine hP.mono ?_
  rintro e w1 ⟨m, rfl, hM, hb1⟩
  have HC := Lib.hid (HS.out w1 m hM hb1)
  have HB1 := Lib.hid hb1
  clear hM hb1 HS hP
  go_wp2_with fail
  refine HC.out.mono ?_
  rintro e w2 ⟨B, s, sc, o, ck, rfl, hA, hb2⟩
  have al : Below w2.heap.size w2 (w2.alloc (.cells #[.pointer (some ⟨s, 0, none⟩)] 37)) := (Below.refl _ _).alloc (Nat.le_refl _) _
  have hs2 : w.heap.size ≤ w2.heap.size := Nat.le_trans HB1.out.size hb2.low.size
  have HF := Lib.hid (And.intro hA (And.intro al (And.intro (Blk.new w2 37 #[.pointer (some ⟨s, 0, none⟩)]) (And.intro hs2 ((HB1.out.trans hb2.low).trans (al.mono hs2))))))
  clear hA hb2 al hs2 HC HB1
  go_wp2
  go_ret
  exact ⟨w2.heap.size, B, s, m, sc, o, ck, rfl, HF.out.2.2.1, HF.out.2.2.2.1, HF.out.2.2.2.2, w2, HF.out.1, Nat.le_refl _, HF.out.2.1⟩
end Go.Proofs.YtjepnddndpmnnaaGreat
namespace Go.Proofs.YtjepnddndpmnnaaGreat
open Go.RowKit Go.Maps
set_option maxRecDepth 100000
set_option linter.unusedSimpArgs false
set_option linter.unusedVariables false
set_option linter.unusedSectionVars false
variable [Tab]

theorem eread_first {w : World} {A : Option Addr} {c n : Nat} {L : List Ev} (h : ERead w (.slice A n c) L) (hn : L.length = n) {k : Nat} (hk : k ≤ n) : ERead w (.slice A k c) (L.take k) ∧ n ≤ c := by
  subst hn
  obtain ⟨A', c', e, h1, h2, hr⟩ := h
  injection e with e1 _ e3
  subst e1 e3
  have hl : (L.take k).length = k := by rw [List.length_take]; omega
  refine ⟨⟨A, c, by rw [hl], by omega, h2, fun h0 => ?_⟩, h1⟩
  obtain ⟨b, o, rfl, hc⟩ := hr (by rw [hl] at h0; omega)
  refine ⟨b, o, rfl, fun j hj => ?_⟩
  rw [List.getElem_take]
  exact hc j (by rw [hl] at hj; omega)
/-- A place, made to lie within n. -/
def placeN (a : Int) (n : Nat) : Nat := (if a < 0 then -(a + 1) else a).toNat % n
theorem placeN_lt (a : Int) {n : Nat} (h : 0 < n) : placeN a n < n := Nat.mod_lt _ h
theorem placeN_mod {a : Int} {n : Nat} (q : Int) (hq : q = if a < 0 then -(a + 1) else a) (h : 0 < n) : q.tmod (n : Int) = placeN a n := by
  have h0 : 0 ≤ q := by rw [hq]; split <;> omega
  rw [Int.tmod_eq_emod_of_nonneg h0]
  unfold placeN
  rw [← hq]
  obtain ⟨m, rfl⟩ := Int.eq_ofNat_of_zero_le h0
  rw [Int.toNat_natCast]
  exact (Int.natCast_emod m n).symm
theorem BRead.take {w : World} {A : Option Addr} {c : Nat} {ts : List UInt8} (h : BRead w (.slice A ts.length c) ts) {k : Nat} (hk : k ≤ ts.length) : BRead w (.slice A k c) (ts.take k) := by
  obtain ⟨A', c', e, hr⟩ := h
  injection e with e1 _ e3
  subst e1 e3
  have hl : (ts.take k).length = k := by rw [List.length_take]; omega
  refine ⟨A, c, by rw [hl], fun h0 => ?_⟩
  obtain ⟨ad, rfl, hc⟩ := hr (by rw [hl] at h0; omega)
  refine ⟨ad, rfl, fun j hj => ?_⟩
  rw [List.getElem_take]
  exact hc j (by rw [hl] at hj; omega)
theorem bread_first {w : World} {A : Option Addr} {c n : Nat} {ts : List UInt8} (h : BRead w (.slice A n c) ts) (hn : ts.length = n) {k : Nat} (hk : k ≤ n) : BRead w (.slice A k c) (ts.take k) := by
  subst hn
  exact h.take hk
set_option maxHeartbeats 8000000 in
theorem walk_AngleEarly [fo : Fo] (v0 : Value) (bs : List UInt8) (_hlen : bs.length ≤ 140737488355328) (hcap : ∀ A n c, v0 = .slice A n c → n ≤ c) (a0 : Int) (hwf : (Lit.int .i64 a0).wf = true) (w : World) (hfl : Fo.lim ≤ w.heap.size) (h0 : BRead w v0 bs) :
    Calls Tryz.prog 5 #[v0, .int .i64 a0] w fun e w' => e = .returned (.bool true) ∧ Below w.heap.size w w' := by
  obtain ⟨A, c, rfl, hA⟩ := h0
  have hF := few_G w A c bs ⟨A, c, rfl, hA⟩ (hcap _ _ _ rfl)
  have hlo : -9223372036854775808 ≤ a0 ∧ a0 ≤ 9223372036854775807 := by
    simp [Lit.wf, IntKind.min, IntKind.max, IntKind.signed, IntKind.bits] at hwf
    omega
  obtain ⟨hlo, hhi⟩ := hlo
  clear hA hwf
  go_enter Tryz.func5, Tryz.ntmps5
  go_wp2_with fail
  refine hF.mono ?_
  rintro e w' ⟨rfl, hR, rfl⟩
  have hts : (bs.take 600).length ≤ 600 := by rw [List.length_take]; omega
  have hLc0 : (bs.take 600).length ≤ c := by have := hcap _ _ _ rfl; rw [List.length_take]; omega
  generalize bs.take 600 = ts at *
  have hD := adecode_any w _ ts (by omega) hR hfl
  obtain ⟨Lt, hLt⟩ : ∃ Lt, ts.length = Lt := ⟨_, rfl⟩
  rw [hLt] at hR hD ⊢
  have HLt := Lib.hid hLt
  have hL6 : Lt ≤ 600 := by omega
  have hLc : Lt ≤ c := by omega
  have HR := Lib.hid hR
  have HD := Lib.hid hD
  have hK : ∀ q : Int, (q = if a0 < 0 then -(a0 + 1) else a0) → q.tmod ((Lt : Int) + 1) = (placeN a0 (Lt + 1) : Int) := fun q hq => by
    have := placeN_mod (a := a0) (n := Lt + 1) q hq (Nat.succ_pos _)
    rwa [show ((Lt + 1 : Nat) : Int) = (Lt : Int) + 1 from by omega] at this
  have hKl := placeN_lt a0 (Nat.succ_pos Lt)
  obtain ⟨K, hKK⟩ : ∃ K, placeN a0 (Lt + 1) = K := ⟨_, rfl⟩
  rw [hKK] at hK
  replace hKl : K ≤ Lt := by
    have : placeN a0 (Lt + 1) < Lt + 1 := hKl
    omega
  have HK := Lib.hid hK
  have hKc : ¬ c < K := by omega
  have zl : ((Lt : Int) + 1 == 0) = false := by rw [beq_eq_false_iff_ne]; omega
  have zl2 : ¬ ((Lt : Int) + 1 = 0) := by omega
  have hcase : (a0 ≤ -1 ∧ decide (a0 < 0) = true ∧ (a0 + 1).tmod ((Lt : Int) + 1) = -(K : Int)) ∨ (0 ≤ a0 ∧ decide (a0 < 0) = false ∧ a0.tmod ((Lt : Int) + 1) = (K : Int)) := by
    by_cases hn : a0 < 0
    · left
      have h := HK.out _ (by rw [if_pos hn])
      rw [Int.neg_tmod] at h
      exact ⟨by omega, by simpa using hn, by omega⟩
    · right
      exact ⟨by omega, by simpa using hn, HK.out _ (by rw [if_neg hn])⟩
  -- what the texts tell
  obtain ⟨y, hy⟩ : ∃ y, aBeg ts K = y := ⟨_, rfl⟩
  have hE := early_facts ts K (by rw [HLt.out]; exact hKl)
  rw [hy] at hE
  obtain ⟨g1, g2, g3, g4⟩ := hE
  obtain ⟨L, hL⟩ : ∃ L, aEv ts = L := ⟨_, rfl⟩
  obtain ⟨l, hl⟩ : ∃ l : List Ev, y.b.l = l := ⟨_, rfl⟩
  obtain ⟨E, hE⟩ : ∃ E, aEr ts = E := ⟨_, rfl⟩
  obtain ⟨R, hRd⟩ : ∃ R, aRd ts = R := ⟨_, rfl⟩
  obtain ⟨e1, he1⟩ : ∃ e1, y.e = e1 := ⟨_, rfl⟩
  obtain ⟨r1, hr1⟩ : ∃ r1, y.rd = r1 := ⟨_, rfl⟩
  rw [hL, hl] at g1
  rw [hl] at g2
  rw [hE, hRd, he1, hr1] at g3
  rw [hr1] at g4
  have HRd := Lib.hid (show r1 ≤ 1000000 by omega)
  rw [hL, hE, hRd] at hD
  obtain ⟨n1, hn1⟩ : ∃ n1, l.length = n1 := ⟨_, rfl⟩
  obtain ⟨Ln, hLn⟩ : ∃ Ln, L.length = Ln := ⟨_, rfl⟩
  have HD := Lib.hid hD
  have HG1 := Lib.hid g1
  have HG3 := Lib.hid g3
  have HYl := Lib.hid hl
  have HY := Lib.hid (And.intro hy (And.intro he1 hr1))
  have hn5 : n1 ≤ Ln := by rw [← hn1, ← hLn]; exact g1.length_le
  have hn4 : n1 < 5000 := by omega
  have HN1 := Lib.hid hn1
  have HLn := Lib.hid hLn
  clear hF hR hD hts hLt hK hKK hcap hy hL hl hE hRd he1 hr1 g1 g2 g3 g4 hn1 hLn HK
  rcases hcase with ⟨hsg, z, hm⟩ | ⟨hsg, z, hm⟩
  all_goals
    go_wp2_with fail
    refine HD.out.mono ?_
    rintro e w1 ⟨lv, rfl, hRow, hb1⟩
    have HRow := Lib.hid hRow
    obtain ⟨Al, cl, rfl⟩ := hRow.shape
    rw [HLn.out] at HRow ⊢
    have HB1 := Lib.hid hb1
    have HNw := Lib.hid (@aglnew_any _ (Fo.nt fo) w1 (Nat.le_trans hfl hb1.size) rfl)
    clear hRow hb1 hm z
    go_wp2_with fail
    refine HNw.out.mono ?_
    rintro e w3 ⟨d, B, s, m, sc, o, ck, rfl, hDd, hdw, hb3, w2, hA2, hw2d, hb23⟩
    -- the decoder's own block is foreign to its Stream
    let f2 : Fo := ⟨fun k => k = d, d + 1, fun k hk => by omega, none⟩
    have hdr : Below w3.heap.size w3 w3.drew := below_drew (Below.refl _ _)
    have hA3 : @StA _ f2 (@agM _ f2) w3.drew w1.heap.size B s m sc o ck (ss0 agP) false false := gsta_fo (f1 := Fo.nt fo) (f2 := f2) (fun k hk hc => absurd (show k = d from hc) (by omega)) rfl (below_drew hb23) hDd.lt hA2
    have hFd := @feed_any _ f2 (@agM _ f2) w3.drew w1.heap.size B s m sc o ck (ss0 agP) false 0 (.slice A K c) (ts.take K) hA3 sinv0 (by rw [List.length_take]; omega) (fun w' hb => bread_first (HR.out.below ((HB1.out.trans ((below_drew hb3).mono HB1.out.size)).trans (hb.low.mono HB1.out.size))) HLt.out hKl) (fun h => h.elim)
    rw [show feedG (ss0 agP) (ts.take K) = y from HY.out.1] at hFd
    have HFd := Lib.hid hFd
    have HDd := Lib.hid (And.intro hDd.drew hdw)
    have HB3 := Lib.hid (below_drew hb3 : Below w1.heap.size w1 w3.drew)
    have d0 : w3.cell? ⟨d, 0, none⟩ = some (.pointer (some ⟨s, 0, none⟩)) := hDd.cell 0
    have hdl := hDd.lt
    clear hA3 hFd hDd hb3 hA2 hb23 hdr
    go_wp2
    refine region_g [] (S := (fun W => W.cell? ⟨d, 0, none⟩ = some (.pointer (some ⟨s, 0, none⟩)))) (by kernel_rfl) d0 (fun hH => ?_)
    refine g_take (i := 0) (v := .pointer (some ⟨d, 0, none⟩)) (by rfl) (by kernel_rfl) (by kernel_rfl) (by kernel_rfl) (by kernel_rfl) (fun _ _ _ h => (by cases h.1)) (Or.inl ⟨by kernel_rfl, fun W hS => (by go_simp)⟩) hH ?_
    simp only [Act.put, List.setIfInBounds_toArray, List.set_cons_zero, List.set_cons_succ]
    refine g_take (i := 1) (v := .bool false) (by rfl) (by kernel_rfl) (by kernel_rfl) (by kernel_rfl) (by kernel_rfl) (fun _ _ _ h => (by cases h.1)) (Or.inl ⟨by kernel_rfl, fun W hS => (by go_simp)⟩) hH ?_
    simp only [Act.put, List.setIfInBounds_toArray, List.set_cons_zero, List.set_cons_succ]
    refine g_take (i := 2) (v := .bool false) (by rfl) (by kernel_rfl) (by kernel_rfl) (by kernel_rfl) (by kernel_rfl) (fun _ _ _ h => (by cases h.1)) (Or.inl ⟨by kernel_rfl, fun W hS => (by go_simp)⟩) hH ?_
    simp only [Act.put, List.setIfInBounds_toArray, List.set_cons_zero, List.set_cons_succ]
    refine g_take (i := 3) (v := .pointer (some ⟨d, 0, none⟩)) (by rfl) (by kernel_rfl) (by kernel_rfl) (by kernel_rfl) (by kernel_rfl) (fun _ _ _ h => (by cases h.1)) (Or.inl ⟨by kernel_rfl, fun W hS => (by go_simp)⟩) hH ?_
    simp only [Act.put, List.setIfInBounds_toArray, List.set_cons_zero, List.set_cons_succ]
    refine g_take (i := 4) (v := .pointer (some ⟨d, 0, none⟩)) (by rfl) (by kernel_rfl) (by kernel_rfl) (by kernel_rfl) (by kernel_rfl) (fun _ _ _ h => (by cases h.1)) (Or.inl ⟨by kernel_rfl, fun W hS => (by go_simp)⟩) hH ?_
    simp only [Act.put, List.setIfInBounds_toArray, List.set_cons_zero, List.set_cons_succ]
    refine g_take (i := 5) (v := .pointer (some ⟨d, 0, none⟩)) (by rfl) (by kernel_rfl) (by kernel_rfl) (by kernel_rfl) (by kernel_rfl) (fun _ _ _ h => (by cases h.1)) (Or.inl ⟨by kernel_rfl, fun W hS => (by go_simp)⟩) hH ?_
    simp only [Act.put, List.setIfInBounds_toArray, List.set_cons_zero, List.set_cons_succ]
    refine g_take (i := 6) (v := .pointer (some ⟨s, 0, none⟩)) (by rfl) (by kernel_rfl) (by kernel_rfl) (by kernel_rfl) (by kernel_rfl) (fun _ _ _ h => (by cases h.1)) (Or.inl ⟨by kernel_rfl, fun W hS => (by go_simp)⟩) hH ?_
    simp only [Act.put, List.setIfInBounds_toArray, List.set_cons_zero, List.set_cons_succ]
    refine g_take (i := 7) (v := .slice A Lt c) (by rfl) (by kernel_rfl) (by kernel_rfl) (by kernel_rfl) (by kernel_rfl) (fun _ _ _ h => (by cases h.1)) (Or.inl ⟨by kernel_rfl, fun W hS => (by go_simp)⟩) hH ?_
    simp only [Act.put, List.setIfInBounds_toArray, List.set_cons_zero, List.set_cons_succ]
    refine g_take (i := 8) (v := .int .i64 K) (by rfl) (by kernel_rfl) (by kernel_rfl) (by kernel_rfl) (by kernel_rfl) (fun _ _ _ h => (by cases h.1)) (Or.inl ⟨by kernel_rfl, fun W hS => (by go_simp)⟩) hH ?_
    simp only [Act.put, List.setIfInBounds_toArray, List.set_cons_zero, List.set_cons_succ]
    refine g_take (i := 9) (v := .slice A K c) (by rfl) (by kernel_rfl) (by kernel_rfl) (by kernel_rfl) (by kernel_rfl) (fun _ _ _ h => (by cases h.1)) (Or.inl ⟨by kernel_rfl, fun W hS => (by go_simp)⟩) hH ?_
    simp only [Act.put, List.setIfInBounds_toArray, List.set_cons_zero, List.set_cons_succ]
    refine g_one (i := 10) (by kernel_rfl) (by rfl) (fun K' hK' => ?_)
    go_simp
    refine HFd.out.mono ?_
    rintro e w5 ⟨rfl, hA5, hL5⟩
    have hDb5 : Blk w5 d 37 #[.pointer (some ⟨s, 0, none⟩)] := @LowF.fo f2 _ _ _ hL5 d _ HDd.out.1 rfl
    have d5 : w5.cell? ⟨d, 0, none⟩ = some (.pointer (some ⟨s, 0, none⟩)) := hDb5.cell 0
    have HA5 := Lib.hid hA5
    have HB5 := Lib.hid (HB3.out.trans hL5.low)
    have HDb5 := Lib.hid hDb5
    clear hA5 hL5 hDb5 HFd
    refine hK'.out _ _ (fun _ => d5) (fun _ => ?_)
    clear hK' K' hH
    refine g_one (i := 11) (by kernel_rfl) (by rfl) (fun K' hK' => ?_)
    go_simp
    refine hK'.out _ _ (fun _ => d5) (fun _ => ?_)
    clear hK' K'
    refine g_one (i := 12) (by kernel_rfl) (by rfl) (fun K' hK' => ?_)
    go_simp
    refine hK'.out _ _ (fun _ => d5) (fun _ => ?_)
    clear hK' K'
    refine g_done (by kernel_rfl) ⟨by first | rfl | trivial, ?_⟩ _
    have hE5 : @EAt f2 48 w5 w1.heap.size s m sc o ck y.e y.rd false false y.b.st y.b.l := @EAt.mk f2 _ _ _ _ _ _ _ _ _ _ _ _ _ _ HA5.out.blk ((@agM _ f2).out HA5.out.d) HA5.out.p.bs HA5.out.ns.1
    obtain ⟨g, hW5, hgl, hgF, hol, hoF⟩ := @EAt.wt inferInstance fo _ _ _ _ _ _ _ _ _ _ _ _ _ _ f2 hE5 rfl
    have hsd : s ≠ d := HA5.out.ns.1
    have hgd : g ≠ d := hgF
    have hod : o ≠ d := hoF
    rw [HY.out.2.1, HY.out.2.2, HYl.out] at hW5
    have hTk := takes_any w5 w1.heap.size w5.heap.size s sc o ck m g d _ e1 r1 false false l (.slice none 0 0) [] hW5 HDb5.out (ERow.nil _ _) (fun k hk => by cases hk) (Nat.le_refl _) (by rw [HN1.out]; exact hn4) (Nat.zero_le _) ⟨hW5.blk.lt, hol, hgl⟩ (fun hc => by rcases hc with hc | hc | hc | hc; exact hsd hc.symm; exact hod hc.symm; exact hgd hc.symm; cases hc)
    rw [List.nil_append] at hTk
    obtain ⟨N, hN⟩ : ∃ N, NxS e1 false = N := ⟨_, rfl⟩
    rw [hN] at hTk
    have HTk := Lib.hid hTk
    have HN := Lib.hid hN
    have HS := Lib.hid (And.intro HA5.out.p.bs (And.intro hW5.bo hW5.bg))
    have HL5 := Lib.hid (And.intro hW5.blk.lt (And.intro hol hgl))
    have hdS : ¬ TkS s o g (.slice none 0 0) d := fun hc => by rcases hc with hc | hc | hc | hc; exact hsd hc.symm; exact hod hc.symm; exact hgd hc.symm; cases hc
    have HdS := Lib.hid hdS
    clear hE5 hW5 hTk hN hgl hgF hol hoF hsd hgd hod hdS d5 d0 hdl
    go_wp2_with fail
    refine HTk.out.mono ?_
    rintro e w6 ⟨av, rfl, hrow6, -, -, hW6, hF6⟩
    obtain ⟨A6, c6, hav⟩ := hrow6.shape
    subst hav
    have hDb6 := hF6.blk HDb5.out HdS.out
    have HDb6 := Lib.hid hDb6
    have d6 : w6.cell? ⟨d, 0, none⟩ = some (.pointer (some ⟨s, 0, none⟩)) := hDb6.cell 0
    have hdl6 := hDb6.lt
    have hb6 : Below w1.heap.size w1 w6 := HB5.out.trans (hF6.below (fun k hk => by obtain ⟨k1, k2, k3⟩ := HS.out; rcases hk with rfl | rfl | rfl | hk; exact k1; exact k2; exact k3; cases hk) HB5.out.size)
    rw [HN1.out] at hrow6 ⊢
    have HRow6 := Lib.hid hrow6
    have HW6 := Lib.hid hW6
    have HB6 := Lib.hid hb6
    have zg : decide ((Ln : Int) < (n1 : Int)) = false := by simp; omega
    have zg' : decide ((n1 : Int) > (Ln : Int)) = false := by simp; omega
    clear hrow6 hW6 hF6 hDb6 hb6 HTk
    have hwr0 : ERow w6 w.heap.size (.slice Al Ln cl) L := HRow.out.below HB6.out
    obtain ⟨hwr, hcl⟩ := eread_first hwr0.read HLn.out hn5
    have hSm := esame_any w6 (.slice A6 n1 c6) (.slice Al n1 cl) l (L.take n1) HRow6.out.read hwr
    have hpl : l = L.take n1 := by
      have := List.prefix_iff_eq_take.1 HG1.out
      rwa [HN1.out] at this
    rw [decide_eq_true hpl] at hSm
    have HSm := Lib.hid hSm
    have hcn : ¬ cl < n1 := by omega
    clear hwr0 hwr hSm hpl hcl
    go_wp2_with fail
    refine HSm.out.mono ?_
    rintro e w7 ⟨rfl, hb7⟩
    have hW7 := HW6.out.below hb7
    have hDb7 := HDb6.out.below hb7 HDb6.out.lt
    have d7 : w7.cell? ⟨d, 0, none⟩ = some (.pointer (some ⟨s, 0, none⟩)) := hDb7.cell 0
    have hdl7 := hDb7.lt
    have ho7 : w7.cell? ⟨o, 2, none⟩ = some (.int .i64 0) := by obtain ⟨lv7, hB7, _⟩ := hW7.out; exact hB7.cell 2
    have hEn := endOf_any w7 s _ m sc o e1 r1 false (false || decide (N ≠ 2)) hW7.blk ho7 HRd.out
    have HB7 := Lib.hid ((HB1.out.trans (HB6.out.mono HB1.out.size)).trans (hb7.mono (HB1.out.trans (HB6.out.mono HB1.out.size)).size))
    clear hb7 hW7 hDb7 HSm d6 hdl6
    have hfin : (e1 = 0 ∧ N = 2) ∨ (e1 ≠ 0 ∧ N = 4 ∧ E = e1 ∧ R = r1 ∧ r1 < K) := by
      by_cases h0 : e1 = 0
      · left
        refine ⟨h0, ?_⟩
        rw [← HN.out, h0]
        rfl
      · right
        refine ⟨h0, ?_, HG3.out h0⟩
        rw [← HN.out]
        exact if_pos h0
    rcases hfin with ⟨rfl, rfl⟩ | ⟨h0, rfl, rfl, rfl, hrK⟩
    · rw [show (false || decide ((2 : Int) ≠ 2)) = false from rfl, if_neg (by decide), if_neg (by decide)] at hEn
      have HEn := Lib.hid hEn
      clear hEn
      go_wp2_with fail
      refine HEn.out.mono ?_
      rintro e w8 ⟨rfl, n8, rfl⟩
      have hb8 : Below w.heap.size w (w7.drewN n8) := below_drewN HB7.out n8
      have HLv := Lib.hid (@lives_G inferInstance fo (w7.drewN n8) (Nat.le_trans hfl hb8.size))
      have HB8 := Lib.hid hb8
      clear hb8 HEn
      generalize w7.drewN n8 = w8 at *
      go_wp2_with fail
      refine HLv.out.mono ?_
      rintro e w9 ⟨rfl, hb9⟩
      have HB9 := Lib.hid (HB8.out.trans (hb9.mono HB8.out.size))
      clear hb9
      go_wp2
      go_ret
      exact ⟨rfl, HB9.out⟩
    · rw [show (false || decide ((4 : Int) ≠ 2)) = true from rfl, if_pos rfl, if_pos rfl] at hEn
      have HEn := Lib.hid hEn
      have zk : decide ((R : Int) < (K : Int)) = true := by simp; omega
      clear hEn h0
      go_wp2_with fail
      refine HEn.out.mono ?_
      rintro e w8 ⟨rfl, n8, rfl⟩
      have hb8 : Below w.heap.size w (w7.drewN n8) := below_drewN HB7.out n8
      have HLv := Lib.hid (@lives_G inferInstance fo (w7.drewN n8) (Nat.le_trans hfl hb8.size))
      have HB8 := Lib.hid hb8
      clear hb8 HEn
      generalize w7.drewN n8 = w8 at *
      go_wp2_with fail
      refine HLv.out.mono ?_
      rintro e w9 ⟨rfl, hb9⟩
      have HB9 := Lib.hid (HB8.out.trans (hb9.mono HB8.out.size))
      clear hb9
      go_wp2
      go_ret
      exact ⟨rfl, HB9.out⟩
end Go.Proofs.YtjepnddndpmnnaaGreat

/-
  Words for the laws of decoders: bytes appended that came in; bytes as a string; rows that are written over.
  The laws of delim: lives, few.
  Whether two rows of events are the same (the reference).
  The reference's texts that are read: Is, Bad, Tell, Has, Finish.
-/
import Derived.Test.YtfciacigamjfkabGreatDmS27
import Derived.Test.YtfciacigamjfkabGreatDmS17
import Derived.Deep.Upon
import Derived.Lib.BufferRead
import Derived.Test.YtfciacigamjfkabGreatDmS26
import Derived.Lib.SlBytesConst
import Derived.Test.YtfciacigamjfkabGreatDmS06
import Derived.Test.YtfciacigamjfkabGreatDmS18
import Derived.Test.YtfciacigamjfkabGreatDmS19
import Derived.BigQuiet
import Derived.Deep.QuietTactic
namespace Go.Proofs.YtfciacigamjfkabGreat
open Go.RowKit Go.Maps
set_option maxRecDepth 100000
set_option linter.unusedSimpArgs false
set_option linter.unusedVariables false
set_option linter.unusedSectionVars false
variable [Tab] [Fo]

section
variable {P : Program} {w : World}
theorem src_none (size : Nat) (tx e : TypeId) (ht : P.underlying tx = some (.slice e)) (c : Nat) : Src P size tx (.slice none 0 c) 0 [] w :=
  ⟨.inl ⟨e, ht⟩, fun w' => by simp [Builtin.lenOf], by simp [Builtin.firstCells], by simp [Builtin.firstCells], by simp, by simp⟩
/-- Bytes appended that came in. -/
theorem wp_appT {ops : Array Oper} {rest : List Oper} {o : Oper} {a : Act} {Q : Exit → Act → World → Prop} (hgd : o.guard = none) (s x : Operand) (t : TypeId)
    (ho : o.op = .call { callee := .builtin .append, args := #[s, x], argTypes := #[t, t] })
    (base : Nat) (e : TypeId) (ht : P.underlying t = some (.slice e)) (hinfo : (P.info? e).map (fun i => (i.zero, i.size, i.bytes)) = some (some (.int .u8 0), 1, 1))
    (v vx : Value) (l bs : List UInt8) (hs : a.eval s = v) (hown : ORow w base e v (l.map bV)) (hx : a.eval x = vx) (hr : BRead w vx bs)
    (h63 : l.length + bs.length ≤ 140737488355328) (hbase : base ≤ w.heap.size)
    (h : ∀ v' w', ORow w' base e v' ((l ++ bs).map bV) → w.grownBy w' v.ownBlock → NB w v v' → wpList P ops Q rest (a.put o.dst v') w') :
    wpList P ops Q (o :: rest) a w := by
  obtain ⟨A, c, rfl, hc⟩ := hr
  by_cases hb : 0 < bs.length
  · obtain ⟨ad, rfl, hcell⟩ := hc hb
    refine Qt.wp_appSg hgd s x t ho base e (.int .u8 0) 1 ht hinfo rfl v (l.map bV) (bs.map bV) hs hown (by intro u hu; simp at hu; obtain ⟨b, _, rfl⟩ := hu; rfl) ad bs.length c (by simp) hx (fun j u hj => ?_) (by simp [maxLen]; omega) (by simp; omega) hbase fun v' w' h1 h2 h3 => h v' w' (by rw [List.map_append]; exact h1) h2 h3
    have hjl : j < bs.length := by have := (List.getElem?_eq_some_iff.1 hj).1; simpa using this
    rw [hcell j hjl, List.getElem?_map, List.getElem?_eq_getElem hjl] at *
    simpa [bV] using hj
  · obtain rfl : bs = [] := List.eq_nil_of_length_eq_zero (by omega)
    cases A with
    | some ad =>
      refine Qt.wp_appSg hgd s x t ho base e (.int .u8 0) 1 ht hinfo rfl v (l.map bV) [] hs hown (by simp) ad 0 c rfl hx (by simp) (by simp [maxLen]; simp at h63; omega) (by simp; simp at h63; omega) hbase fun v' w' h1 h2 h3 => h v' w' (by simpa using h1) h2 h3
    | none =>
      obtain ⟨i, hi, hz, hsize, hby⟩ := info_parts hinfo
      refine wpList_plain hgd fun K hK => ?_
      obtain ⟨A', cap, hv⟩ := hown.shape
      have hle : (l.map bV).length ≤ cap := by
        rcases hown.form with ⟨hv', h0⟩ | ⟨g, cap', hv', _, _, hle, _⟩
        · rw [h0]; exact Nat.zero_le _
        · rw [hv] at hv'
          injection hv' with _ _ e3
          subst e3
          exact hle
      subst hv
      have hrun := run_append_nothing (P := P) w t t o.type e i ht hi A' (l.map bV).length cap hle (.slice none 0 c) (src_none _ _ _ ht c)
      unfold Oper.wp execOp
      simp only [ho, resolve, invoke, builtin, Sem.run_bind, Sem.run_pure, Result.andThen_ok, List.map_toArray, List.map_cons, List.map_nil, hs, hx, List.length_nil, hrun]
      exact hK _ _ (h _ _ (by simpa using hown) (World.grownBy.refl _ _) (.inl rfl))
/-- string(b), b having come in. -/
theorem str_of_read {v : Value} {l : List UInt8} (src dst e : TypeId) (hs : P.underlying src = some (.slice e)) (he : P.underlying e = some (.int .u8)) (hd : P.underlying dst = some .string) (h : BRead w v l) :
    (convert src dst v).run P w = .ok (.string ⟨l.toArray⟩) w := by
  obtain ⟨A, c, rfl, hc⟩ := h
  cases A with
  | some ad =>
    refine run_convert_bytes_back w src dst e ad c l hs he hd fun j hj => ?_
    obtain ⟨ad', e1, hcell⟩ := hc (by omega)
    injection e1 with e1
    subst e1
    exact hcell j hj
  | none =>
    have h0 : l = [] := by
      rcases Nat.eq_zero_or_pos l.length with h | h
      · exact List.eq_nil_of_length_eq_zero h
      · obtain ⟨_, e1, _⟩ := hc h; cases e1
    subst h0
    exact Lib.run_convert_nil_bytes w src dst e c hs he hd
end
theorem row_len {w : World} {b : Nat} {e : TypeId} {size n : Nat} {v : Value} {xs : List Value} (h : w.ownsRow b e size v n xs) : xs.length = n * size := h.1
theorem row_get {w : World} {base r : Nat} {e : TypeId} {size n cap : Nat} {xs : List Value} (h : w.ownsRow base e size (.slice (some ⟨r, 0, none⟩) n cap) n xs) {i : Nat} (hi : i < n * size) : ∃ u, w.cell? ⟨r, i, none⟩ = some u := by
  have hl := row_len h
  exact ⟨xs[i]'(by omega), by rw [rowN_cell h hi]; exact List.getElem?_eq_getElem (by omega)⟩
theorem rowX_shape {w : World} {base : Nat} {e : TypeId} {size n : Nat} {v : Value} {xs : List Value} (h : w.ownsRow base e size v n xs) : ∃ A c, v = .slice A n c ∧ (0 < n → ∃ r, A = some ⟨r, 0, none⟩) := by
  rcases h.2 with ⟨rfl, rfl⟩ | ⟨g, cap, cur, rfl, _⟩
  · exact ⟨none, 0, rfl, fun h => absurd h (Nat.lt_irrefl _)⟩
  · exact ⟨_, _, rfl, fun _ => ⟨_, rfl⟩⟩
theorem below_gr {base : Nat} {w w' : World} {v : Value} {e : TypeId} {size n : Nat} {xs : List Value} (h : w.ownsRow base e size v n xs) (hg : w.grownBy w' v.ownBlock) (hb : base ≤ w.heap.size) : Below base w w' :=
  ⟨hg.os, hg.tape, hg.output, hg.size, fun k hk => hg.block k (by omega) fun hc => by have := World.ownsRow.lt h k hc.symm; omega⟩
end Go.Proofs.YtfciacigamjfkabGreat
namespace Go.Proofs.YtfciacigamjfkabGreat
open Go.RowKit Go.Maps
set_option maxRecDepth 100000
set_option linter.unusedSimpArgs false
set_option linter.unusedVariables false
set_option linter.unusedSectionVars false
variable [Tab] [Fo]

def liveT_D : List UInt8 := [97, 44, 98, 10, 49, 44, 34, 120, 34, 34, 121, 34, 10]
def liveL_D : List Ev := [⟨5, ⟨#[]⟩, ⟨#[]⟩⟩, ⟨7, ⟨#[]⟩, ⟨#[]⟩⟩, ⟨8, ⟨#[97]⟩, ⟨#[]⟩⟩, ⟨4, ⟨#[49]⟩, ⟨#[]⟩⟩, ⟨8, ⟨#[98]⟩, ⟨#[]⟩⟩, ⟨4, ⟨#[120, 34, 121]⟩, ⟨#[]⟩⟩, ⟨9, ⟨#[]⟩, ⟨#[]⟩⟩, ⟨6, ⟨#[]⟩, ⟨#[]⟩⟩]
theorem live_e_D : dEr liveT_D = 0 := by kernel_rfl
theorem live_rd_D : dRd liveT_D = 13 := by kernel_rfl
theorem live_l_D : dEv liveT_D = liveL_D := by kernel_rfl

set_option maxHeartbeats 4000000 in
theorem lives_D (w : World) (hfl : Fo.lim ≤ w.heap.size) : Calls Tryz.prog 17 #[] w fun e w' => e = .returned (.bool true) ∧ Below w.heap.size w w' := by
  have al : Below w.heap.size w (w.alloc (.cells #[.int .u8 97, .int .u8 44, .int .u8 98, .int .u8 10, .int .u8 49, .int .u8 44, .int .u8 34, .int .u8 120, .int .u8 34, .int .u8 34, .int .u8 121, .int .u8 34, .int .u8 10] 5 (13, 14))) := (Below.refl _ _).alloc (Nat.le_refl _) _
  have hR : BRead (w.alloc (.cells #[.int .u8 97, .int .u8 44, .int .u8 98, .int .u8 10, .int .u8 49, .int .u8 44, .int .u8 34, .int .u8 120, .int .u8 34, .int .u8 34, .int .u8 121, .int .u8 34, .int .u8 10] 5 (13, 14))) (.slice (some ⟨w.heap.size, 0, none⟩) 13 13) liveT_D := by
    refine ⟨_, _, rfl, fun _ => ⟨_, rfl, fun j hj => ?_⟩⟩
    rw [addr_add0, World.cell?_alloc_mark]
    have hj' : j < 13 := hj
    match j, hj' with
    | 0, _ => rfl
    | 1, _ => rfl
    | 2, _ => rfl
    | 3, _ => rfl
    | 4, _ => rfl
    | 5, _ => rfl
    | 6, _ => rfl
    | 7, _ => rfl
    | 8, _ => rfl
    | 9, _ => rfl
    | 10, _ => rfl
    | 11, _ => rfl
    | 12, _ => rfl
  have hC := ddecode_any _ _ liveT_D (by decide) hR (Nat.le_trans hfl al.size)
  rw [live_e_D, live_rd_D, live_l_D] at hC
  have hcv := Lib.run_convert_bytes_const (P := Tryz.prog) w 22 5 #[.int .u8 97, .int .u8 44, .int .u8 98, .int .u8 10, .int .u8 49, .int .u8 44, .int .u8 34, .int .u8 120, .int .u8 34, .int .u8 34, .int .u8 121, .int .u8 34, .int .u8 10] 13 13 Tryz.underlying22 Tryz.underlying5
  simp only [List.size_toArray, List.length_cons, List.length_nil, Nat.zero_add, Nat.reduceAdd] at hcv
  clear hR
  have HAL := Lib.hid al
  clear al
  go_enter Tryz.func17, Tryz.ntmps17
  go_wp2_with fail
  refine hC.mono ?_
  rintro e w1 ⟨lv, rfl, hRow, hb1⟩
  have HB := Lib.hid (HAL.out.trans (hb1.mono HAL.out.size))
  obtain ⟨A, c, hlv, _, _, hr⟩ := hRow.read
  obtain ⟨b, o, rfl, hcell⟩ := hr (by decide)
  have hlv' : lv = .slice (some ⟨b, o, none⟩) 8 c := hlv
  subst hlv'
  obtain ⟨x0, x1, x2⟩ := hcell 3 (by decide)
  obtain ⟨y0, y1, y2⟩ := hcell 5 (by decide)
  have x0' : w1.cell? ⟨b, o + 9, none⟩ = some (.int .i64 4) := x0
  have x1' : w1.cell? ⟨b, o + 10, none⟩ = some (.string ⟨#[49]⟩) := x1
  have x2' : w1.cell? ⟨b, o + 11, none⟩ = some (.string ⟨#[]⟩) := x2
  have y0' : w1.cell? ⟨b, o + 15, none⟩ = some (.int .i64 4) := y0
  have y1' : w1.cell? ⟨b, o + 16, none⟩ = some (.string ⟨#[120, 34, 121]⟩) := y1
  have y2' : w1.cell? ⟨b, o + 17, none⟩ = some (.string ⟨#[]⟩) := y2
  clear hRow hb1 hr hcell hlv x0 x1 x2 y0 y1 y2 hC hcv
  go_wp2
  go_ret
  exact ⟨rfl, HB.out⟩

theorem few_D (w : World) (A : Option Addr) (c : Nat) (bs : List UInt8) (hv : BRead w (.slice A bs.length c) bs) (hc : bs.length ≤ c) :
    Calls Tryz.prog 13 #[.slice A bs.length c] w fun e w' => e = .returned (.slice A (bs.take 600).length c) ∧ BRead w (.slice A (bs.take 600).length c) (bs.take 600) ∧ w = w' := by
  by_cases h6 : 600 < bs.length
  · obtain ⟨A', c', he, hr⟩ := hv
    injection he with e1 _ e3
    subst e1 e3
    obtain ⟨ad, rfl, hcell⟩ := hr (by omega)
    have hz : decide ((600 : Int) < (bs.length : Int)) = true := by simp; omega
    have hle : 600 ≤ c := by omega
    have hl : (bs.take 600).length = 600 := by rw [List.length_take]; omega
    have HV : BRead w (.slice (some ad) (bs.take 600).length c) (bs.take 600) := by
      refine ⟨some ad, c, rfl, fun _ => ⟨ad, rfl, fun j hj => ?_⟩⟩
      rw [List.getElem_take]
      exact hcell j (by omega)
    have HR := Lib.hid HV
    rw [hl]
    rw [hl] at HR
    clear hcell hr HV hl
    generalize bs.take 600 = ts at *
    go_enter Tryz.func13, Tryz.ntmps13
    go_wp2
    go_ret
    exact ⟨rfl, HR.out, rfl⟩
  · have hz : decide ((600 : Int) < (bs.length : Int)) = false := by simp; omega
    rw [List.take_of_length_le (by omega)]
    have HV := Lib.hid hv
    clear hv
    go_enter Tryz.func13, Tryz.ntmps13
    go_wp2
    go_ret
    exact ⟨rfl, HV.out, rfl⟩
end Go.Proofs.YtfciacigamjfkabGreat
namespace Go.Proofs.YtfciacigamjfkabGreat
open Go.RowKit Go.Maps
set_option maxRecDepth 100000
set_option linter.unusedSimpArgs false
set_option linter.unusedSectionVars false
variable [Tab] [Fo]

instance : DecidableEq Ev := fun x y => decidable_of_iff (x.k = y.k ∧ x.t = y.t ∧ x.v = y.v) ⟨fun ⟨a, b, c⟩ => by cases x; cases y; simp_all, fun h => by subst h; exact ⟨rfl, rfl, rfl⟩⟩
theorem eq_ibeq {a b : Int} (h : a ≠ b) : (a == b) = false := by rw [beq_eq_false_iff_ne]; exact h
theorem eq_ibne {a b : Int} (h : a ≠ b) : (a != b) = true := by simp [bne, h]
theorem take_next {xs ys : List Ev} {j : Nat} (hx : j < xs.length) (hy : j < ys.length) (h : xs.take j = ys.take j) (he : xs[j] = ys[j]) : xs.take (j + 1) = ys.take (j + 1) := by
  rw [List.take_succ_eq_append_getElem hx, List.take_succ_eq_append_getElem hy, h, he]
theorem take_same {xs ys : List Ev} {j : Nat} (hl : xs.length = ys.length) (hj : ¬ j < xs.length) (h : xs.take j = ys.take j) : xs = ys := by
  rwa [List.take_of_length_le (by omega), List.take_of_length_le (by omega)] at h
theorem diff_at {xs ys : List Ev} {j : Nat} (hx : j < xs.length) (hy : j < ys.length) (h : ¬ xs[j] = ys[j]) : decide (xs = ys) = false := by
  rw [decide_eq_false_iff_not]
  intro e
  subst e
  exact h rfl

set_option maxHeartbeats 4000000 in
theorem esame_any (w : World) (va vb : Value) (xs ys : List Ev) (ha : ERead w va xs) (hb : ERead w vb ys) :
    Calls Tryz.prog 16 #[va, vb] w fun e w' => e = .returned (.bool (decide (xs = ys))) ∧ Below w.heap.size w w' := by
  obtain ⟨A, c, rfl, hlc, hcm, hr⟩ := ha
  obtain ⟨A', c', rfl, hlc', hcm', hr'⟩ := hb
  have hcm2 : c ≤ 9223372036854775807 := by simpa [maxLen] using hcm
  have hcm2' : c' ≤ 9223372036854775807 := by simpa [maxLen] using hcm'
  by_cases hl : xs.length = ys.length
  case neg =>
    rw [decide_eq_false (fun h => hl (by rw [h]))]
    have z1 := eq_ibeq (a := (xs.length : Int)) (b := ys.length) (by omega)
    have z2 := eq_ibne (a := (xs.length : Int)) (b := ys.length) (by omega)
    clear hr hr' hl
    go_enter Tryz.func16, Tryz.ntmps16
    go_wp2
    go_ret
    exact ⟨rfl, Below.refl _ _⟩
  case pos =>
    have HL := Lib.hid hl
    rw [← hl]
    rw [← hl] at hlc'
    clear hl
    obtain ⟨D, hD⟩ : ∃ D, decide (xs = ys) = D := ⟨_, rfl⟩
    rw [hD]
    have HDD := Lib.hid hD
    clear hD
    go_enter Tryz.func16, Tryz.ntmps16
    go_wp2
    go_loopw [5] (fun i wr => ∃ j : Nat, j ≤ xs.length ∧ i = .int .i64 (j : Int) ∧ Hid (xs.take j = ys.take j) ∧ Hid (Below w.heap.size w wr)) (fun i _ => xs.length - (intOf i).toNat)
    case atStart => exact ⟨0, Nat.zero_le _, rfl, Lib.hid rfl, Lib.hid (Below.refl _ _)⟩
    case round =>
      obtain ⟨j, hj, rfl, HP, HW⟩ := hrel
      by_cases hlt : j < xs.length
      case pos =>
        obtain ⟨b, o, rfl, hg⟩ := hr (by omega)
        obtain ⟨b', o', rfl, hg'⟩ := hr' (by rw [← HL.out]; omega)
        have hlt' : j < ys.length := by rw [← HL.out]; exact hlt
        obtain ⟨g0, g1, g2⟩ := hg j hlt
        obtain ⟨k0, k1, k2⟩ := hg' j hlt'
        have HN := Lib.hid (take_next hlt hlt' HP.out)
        have HD := Lib.hid (diff_at hlt hlt')
        generalize xs[j] = x at *
        generalize ys[j] = y at *
        have g0 := (HW.out.cell (p := ⟨b, o + j * 3, none⟩) (cell_lt g0)).trans g0
        have g1 := (HW.out.cell (p := ⟨b, o + j * 3 + 1, none⟩) (cell_lt g1)).trans g1
        have g2 := (HW.out.cell (p := ⟨b, o + j * 3 + 2, none⟩) (cell_lt g2)).trans g2
        have k0 := (HW.out.cell (p := ⟨b', o' + j * 3, none⟩) (cell_lt k0)).trans k0
        have k1 := (HW.out.cell (p := ⟨b', o' + j * 3 + 1, none⟩) (cell_lt k1)).trans k1
        have k2 := (HW.out.cell (p := ⟨b', o' + j * 3 + 2, none⟩) (cell_lt k2)).trans k2
        have hne : ¬ x = y → D = false := fun h => HDD.out ▸ HD.out h
        have HNE := Lib.hid hne
        clear hg hg' hr hr' hlt' hne HD
        by_cases hk : x.k = y.k
        case neg =>
          have HF := Lib.hid (HNE.out fun e => hk (by rw [e]))
          clear HN HNE
          go_wp2
          go_region
          go_wp2
          go_ret
          exact ⟨(by rw [HF.out]; rfl), HW.out.trans (below_drew (Below.refl _ _) |>.mono HW.out.size)⟩
        case pos =>
          by_cases ht : x.t = y.t
          case neg =>
            have HF := Lib.hid (HNE.out fun e => ht (by rw [e]))
            obtain ⟨z1, z2⟩ := str_diff ht
            clear HN HNE ht
            rw [← hk] at k0
            clear hk
            go_wp2
            go_region
            go_wp2
            go_ret
            exact ⟨(by rw [HF.out]; rfl), HW.out.trans (below_drew (Below.refl _ _) |>.mono HW.out.size)⟩
          case pos =>
            by_cases hv : x.v = y.v
            case neg =>
              have HF := Lib.hid (HNE.out fun e => hv (by rw [e]))
              obtain ⟨z1, z2⟩ := str_diff hv
              clear HN HNE hv
              rw [← hk] at k0
              rw [← ht] at k1
              clear hk ht
              go_wp2
              go_region
              go_wp2
              go_ret
              exact ⟨(by rw [HF.out]; rfl), HW.out.trans (below_drew (Below.refl _ _) |>.mono HW.out.size)⟩
            case pos =>
              have HE := Lib.hid (HN.out (by cases x; cases y; simp_all))
              rw [← hk] at k0
              rw [← ht] at k1
              rw [← hv] at k2
              clear hk ht hv HN HNE
              go_wp2
              go_region
              go_wp2
              go_roundw
              case rel => exact ⟨j + 1, by omega, by go_num, HE, Lib.hid (HW.out.trans (below_drew (Below.refl _ _) |>.mono HW.out.size))⟩
              case measure => simp [intOf]; omega
      case neg =>
        have HF := Lib.hid (take_same HL.out hlt HP.out)
        have HG : D = true := by rw [← HDD.out, decide_eq_true HF.out]
        have HG := Lib.hid HG
        clear hr hr' HF
        go_wp2
        go_ret
        exact ⟨(by rw [HG.out]; first | done | rfl), HW.out⟩
end Go.Proofs.YtfciacigamjfkabGreat
namespace Go.Proofs.YtfciacigamjfkabGreat
open Go.RowKit Go.Maps
set_option maxRecDepth 100000
set_option linter.unusedSimpArgs false
set_option linter.unusedVariables false
set_option linter.unusedSectionVars false
variable [Tab] [Fo]

/-- A text that is read: its bytes, where one is, whether it is closed, what was told, the error and its place. -/
structure Tx where
  s : List UInt8
  at' : Nat
  cl : Bool
  l : List Ev
  e : Int
  pl : Int
def txCells (x : Tx) (lv : Value) : Array Value := #[.string ⟨x.s.toArray⟩, .int .i64 (x.at' : Int), .bool x.cl, lv, .int .i64 x.e, .int .i64 x.pl]
structure TxAt (w : World) (base t : Nat) (x : Tx) (lv : Value) : Prop where
  blk : Blk w t 67 (txCells x lv)
  row : ERow w base lv x.l
  bt : base ≤ t
  nf : NF lv
  lim : Fo.lim ≤ w.heap.size
/-- What turns a text that is read, but for its events. -/
def txOnly : Obj → Prop
  | .cells _ t _ => t = 67
  | _ => False
def txObj : Obj → Prop
  | .cells _ t _ => t = 67 ∨ t = 46
  | _ => False
theorem tx_of {o : Obj} (h : txOnly o) : txObj o := by cases o <;> simp only [txOnly, txObj] at h ⊢; exact .inl h
section
variable {w w' : World} {base t : Nat} {x : Tx} {lv : Value}
theorem TxAt.tch {p : Obj → Prop} {b : Nat} (h : TxAt w base t x lv) (ht : Tch b p w w') (hp : ∀ cs ty fr, ty = 67 ∨ ty = 46 → ¬ p (.cells cs ty fr)) : TxAt w' base t x lv :=
  ⟨h.blk.tch ht (.inr (hp _ _ _ (.inl rfl))), row_tch h.row ht (fun _ _ => hp _ _ _ (.inr rfl)), h.bt, h.nf, Nat.le_trans h.lim ht.size⟩
theorem TxAt.below (h : TxAt w base t x lv) (hb : Below w.heap.size w w') : TxAt w' base t x lv := h.tch (b := base) (p := fun _ => False) (Tch.of_below hb) (fun _ _ _ _ => id)
theorem TxAt.drewN (h : TxAt w base t x lv) (n : Nat) : TxAt (w.drewN n) base t x lv := ⟨h.blk, h.row, h.bt, h.nf, h.lim⟩
theorem TxAt.cells (h : TxAt w base t x lv) : w.cell? ⟨t, 0, none⟩ = some (.string ⟨x.s.toArray⟩) ∧ w.cell? ⟨t, 1, none⟩ = some (.int .i64 (x.at' : Int)) ∧ w.cell? ⟨t, 2, none⟩ = some (.bool x.cl) ∧ w.cell? ⟨t, 3, none⟩ = some lv ∧ w.cell? ⟨t, 4, none⟩ = some (.int .i64 x.e) ∧ w.cell? ⟨t, 5, none⟩ = some (.int .i64 x.pl) :=
  ⟨h.blk.cell 0, h.blk.cell 1, h.blk.cell 2, h.blk.cell 3, h.blk.cell 4, h.blk.cell 5⟩
/-- A store into a cell that is not the events'. -/
theorem TxAt.set (h : TxAt w base t x lv) (hf : ¬ Fo.F t) (i : Nat) (u : Value) {x' : Tx} (hc : (txCells x lv).setIfInBounds i u = txCells x' lv) (hl : x'.l = x.l) : TxAt (w.setCell ⟨t, i, none⟩ u) base t x' lv ∧ Tch base txOnly w (w.setCell ⟨t, i, none⟩ u) := by
  have ht : Tch base txOnly w (w.setCell ⟨t, i, none⟩ u) := (Tch.refl _ _ _).set h.blk h.bt hf (show txOnly (.cells _ _ _) from rfl) i u
  refine ⟨⟨by rw [← hc]; exact h.blk.set_ i u, ?_, h.bt, h.nf, Nat.le_trans h.lim ht.size⟩, ht⟩
  rw [hl]
  exact row_tch h.row ht (fun _ _ => by simp only [txOnly]; decide)
end
/-- The next byte. -/
def isX (x : Tx) (c : Int) : Bool := match x.s[x.at']? with | some b => decide ((b.toNat : Int) = c) | none => false
theorem isX_out {x : Tx} (h : ¬ x.at' < x.s.length) (c : Int) : isX x c = false := by unfold isX; rw [List.getElem?_eq_none (by omega)]
theorem isX_in {x : Tx} (h : x.at' < x.s.length) (c : Int) : isX x c = decide (((x.s[x.at']).toNat : Int) = c) := by unfold isX; rw [List.getElem?_eq_getElem h]

set_option maxHeartbeats 4000000 in
theorem is_any (w : World) (base t : Nat) (x : Tx) (lv : Value) (c : Int) (h : TxAt w base t x lv) (hs : x.s.length ≤ 1000) (ha : x.at' ≤ 1000) :
    Calls Tryz.prog 39 #[.pointer (some ⟨t, 0, none⟩), .int .u8 c] w fun e w' => e = .returned (.bool (isX x c)) ∧ ∃ n, w' = w.drewN n := by
  obtain ⟨c0, c1, _, _, _, _⟩ := h.cells
  have hz : (⟨x.s.toArray⟩ : ByteArray).size = x.s.length := by show x.s.toArray.size = _; simp
  obtain ⟨a, hae⟩ : ∃ a, x.at' = a := ⟨_, rfl⟩
  by_cases hlt : x.at' < x.s.length
  · rw [isX_in hlt]
    have hlt' : x.at' < (⟨x.s.toArray⟩ : ByteArray).size := by rw [hz]; exact hlt
    have hg : x.s[x.at'] = (⟨x.s.toArray⟩ : ByteArray)[x.at']'hlt' := rfl
    rw [hg]
    have hz6 : (⟨x.s.toArray⟩ : ByteArray).size ≤ 1000 := by omega
    clear hg hz h hlt hs
    generalize (⟨x.s.toArray⟩ : ByteArray) = s at *
    generalize x.at' = a at *
    have hi : (a : Int) < s.size := by omega
    have hd : decide ((a : Int) < s.size) = true := by simpa using hi
    have hj : s[a]? = some s[a] := getElem?_pos s a hlt'
    obtain ⟨bi, hbi⟩ : ∃ bi : Int, (s[a].toNat : Int) = bi := ⟨_, rfl⟩
    rw [hbi]
    obtain ⟨q, hq⟩ : ∃ q, decide (bi = c) = q := ⟨_, rfl⟩
    have hq2 : (bi == c) = q := by rw [← hq]; rfl
    rw [hq]
    clear hq hae
    go_enter Tryz.func39, Tryz.ntmps39
    go_wp2
    go_quiet (fail)
    go_wp2
    go_ret
    exact ⟨rfl, _, rfl⟩
  · rw [isX_out hlt]
    have hlt' : ¬ x.at' < (⟨x.s.toArray⟩ : ByteArray).size := by rw [hz]; exact hlt
    have hz6 : (⟨x.s.toArray⟩ : ByteArray).size ≤ 1000 := by omega
    clear hz h hlt hs
    generalize (⟨x.s.toArray⟩ : ByteArray) = s at *
    generalize x.at' = a at *
    have hd : decide ((a : Int) < s.size) = false := by simp; omega
    clear hae
    go_enter Tryz.func39, Tryz.ntmps39
    go_wp2
    go_quiet (fail)
    go_wp2
    go_ret
    exact ⟨rfl, _, rfl⟩

/-- An error: the first one stands. -/
def badX (x : Tx) (e pl : Int) : Tx := if x.e = 0 then { x with e := e, pl := pl } else x
set_option maxHeartbeats 4000000 in
theorem bad_any (w : World) (base t : Nat) (x : Tx) (lv : Value) (e pl : Int) (h : TxAt w base t x lv) (hf : ¬ Fo.F t) :
    Calls Tryz.prog 40 #[.pointer (some ⟨t, 0, none⟩), .int .i64 e, .int .i64 pl] w fun f w' => f = .returned (.bool false) ∧ TxAt w' base t (badX x e pl) lv ∧ Tch base txOnly w w' := by
  obtain ⟨_, _, _, _, c4, c5⟩ := h.cells
  have f4 := h.blk.frozen 4
  have f5 := h.blk.frozen 5
  have hlt := h.blk.lt
  unfold badX
  by_cases he : x.e = 0
  · rw [if_pos he]
    rw [he] at c4
    obtain ⟨h1, t1⟩ := h.set hf 4 (.int .i64 e) (x' := { x with e := e }) rfl rfl
    obtain ⟨h2, t2⟩ := h1.set hf 5 (.int .i64 pl) (x' := { x with e := e, pl := pl }) rfl rfl
    have HF := Lib.hid (And.intro h2 (t1.trans t2))
    have d5 := h1.blk.cell 5
    have g5 := h1.blk.frozen 5
    have dl := h1.blk.lt
    unfold txCells at d5
    clear h h1 h2 t1 t2 he
    go_enter Tryz.func40, Tryz.ntmps40
    go_wp2
    go_ret
    exact ⟨rfl, HF.out.1, HF.out.2⟩
  · rw [if_neg he]
    have e0 : (x.e == 0) = false := by rw [beq_eq_false_iff_ne]; exact he
    have HF := Lib.hid h
    clear h
    go_enter Tryz.func40, Tryz.ntmps40
    go_wp2
    go_ret
    exact ⟨rfl, HF.out, Tch.refl _ _ _⟩
end Go.Proofs.YtfciacigamjfkabGreat

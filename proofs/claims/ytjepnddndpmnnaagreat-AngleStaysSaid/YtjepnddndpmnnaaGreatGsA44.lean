/-
  Words for the laws of decoders: bytes appended that came in; bytes as a string; rows that are written over.
  The laws of angle: lives, few.
  Whether two rows of events are the same (the reference).
  The walk of AngleStays.
  A table for the walks that ask for one: the library's own.
-/
import Derived.Test.YtjepnddndpmnnaaGreatGsA43
import Derived.Test.YtjepnddndpmnnaaGreatGsA17
import Derived.Deep.Upon
import Derived.Lib.BufferRead
import Derived.Lib.SlBytesConst
import Derived.Test.YtjepnddndpmnnaaGreatGsA05
import Derived.Test.YtjepnddndpmnnaaGreatRows
import Derived.Test.YtjepnddndpmnnaaGreatGsA02
import Derived.Lib.LaidTab
namespace Go.Proofs.YtjepnddndpmnnaaGreat
open Go.RowKit Go.Maps
set_option maxRecDepth 100000
set_option linter.unusedSimpArgs false
set_option linter.unusedVariables false
set_option linter.unusedSectionVars false
variable [Tab] [Fo]

section
variable {P : Program} {w : World}
theorem src_none (size : Nat) (tx e : TypeId) (ht : P.underlying tx = some (.slice e)) (c : Nat) : Src P size tx (.slice none 0 c) 0 [] w :=
  ⟨.inl ⟨e, ht⟩, fun w' => by simp [Builtin.lenOf], by simp [Builtin.firstCells], by simp [Builtin.firstCells], by simp, by simp⟩
/-- Bytes appended that came in. -/
theorem wp_appT {ops : Array Oper} {rest : List Oper} {o : Oper} {a : Act} {Q : Exit → Act → World → Prop} (hgd : o.guard = none) (s x : Operand) (t : TypeId)
    (ho : o.op = .call { callee := .builtin .append, args := #[s, x], argTypes := #[t, t] })
    (base : Nat) (e : TypeId) (ht : P.underlying t = some (.slice e)) (hinfo : (P.info? e).map (fun i => (i.zero, i.size, i.bytes)) = some (some (.int .u8 0), 1, 1))
    (v vx : Value) (l bs : List UInt8) (hs : a.eval s = v) (hown : ORow w base e v (l.map bV)) (hx : a.eval x = vx) (hr : BRead w vx bs)
    (h63 : l.length + bs.length ≤ 140737488355328) (hbase : base ≤ w.heap.size)
    (h : ∀ v' w', ORow w' base e v' ((l ++ bs).map bV) → w.grownBy w' v.ownBlock → NB w v v' → wpList P ops Q rest (a.put o.dst v') w') :
    wpList P ops Q (o :: rest) a w := by
  obtain ⟨A, c, rfl, hc⟩ := hr
  by_cases hb : 0 < bs.length
  · obtain ⟨ad, rfl, hcell⟩ := hc hb
    refine Qt.wp_appSg hgd s x t ho base e (.int .u8 0) 1 ht hinfo rfl v (l.map bV) (bs.map bV) hs hown (by intro u hu; simp at hu; obtain ⟨b, _, rfl⟩ := hu; rfl) ad bs.length c (by simp) hx (fun j u hj => ?_) (by simp [maxLen]; omega) (by simp; omega) hbase fun v' w' h1 h2 h3 => h v' w' (by rw [List.map_append]; exact h1) h2 h3
    have hjl : j < bs.length := by have := (List.getElem?_eq_some_iff.1 hj).1; simpa using this
    rw [hcell j hjl, List.getElem?_map, List.getElem?_eq_getElem hjl] at *
    simpa [bV] using hj
  · obtain rfl : bs = [] := List.eq_nil_of_length_eq_zero (by omega)
    cases A with
    | some ad =>
      refine Qt.wp_appSg hgd s x t ho base e (.int .u8 0) 1 ht hinfo rfl v (l.map bV) [] hs hown (by simp) ad 0 c rfl hx (by simp) (by simp [maxLen]; simp at h63; omega) (by simp; simp at h63; omega) hbase fun v' w' h1 h2 h3 => h v' w' (by simpa using h1) h2 h3
    | none =>
      obtain ⟨i, hi, hz, hsize, hby⟩ := info_parts hinfo
      refine wpList_plain hgd fun K hK => ?_
      obtain ⟨A', cap, hv⟩ := hown.shape
      have hle : (l.map bV).length ≤ cap := by
        rcases hown.form with ⟨hv', h0⟩ | ⟨g, cap', hv', _, _, hle, _⟩
        · rw [h0]; exact Nat.zero_le _
        · rw [hv] at hv'
          injection hv' with _ _ e3
          subst e3
          exact hle
      subst hv
      have hrun := run_append_nothing (P := P) w t t o.type e i ht hi A' (l.map bV).length cap hle (.slice none 0 c) (src_none _ _ _ ht c)
      unfold Oper.wp execOp
      simp only [ho, resolve, invoke, builtin, Sem.run_bind, Sem.run_pure, Result.andThen_ok, List.map_toArray, List.map_cons, List.map_nil, hs, hx, List.length_nil, hrun]
      exact hK _ _ (h _ _ (by simpa using hown) (World.grownBy.refl _ _) (.inl rfl))
/-- string(b), b having come in. -/
theorem str_of_read {v : Value} {l : List UInt8} (src dst e : TypeId) (hs : P.underlying src = some (.slice e)) (he : P.underlying e = some (.int .u8)) (hd : P.underlying dst = some .string) (h : BRead w v l) :
    (convert src dst v).run P w = .ok (.string ⟨l.toArray⟩) w := by
  obtain ⟨A, c, rfl, hc⟩ := h
  cases A with
  | some ad =>
    refine run_convert_bytes_back w src dst e ad c l hs he hd fun j hj => ?_
    obtain ⟨ad', e1, hcell⟩ := hc (by omega)
    injection e1 with e1
    subst e1
    exact hcell j hj
  | none =>
    have h0 : l = [] := by
      rcases Nat.eq_zero_or_pos l.length with h | h
      · exact List.eq_nil_of_length_eq_zero h
      · obtain ⟨_, e1, _⟩ := hc h; cases e1
    subst h0
    exact Lib.run_convert_nil_bytes w src dst e c hs he hd
end
theorem row_len {w : World} {b : Nat} {e : TypeId} {size n : Nat} {v : Value} {xs : List Value} (h : w.ownsRow b e size v n xs) : xs.length = n * size := h.1
theorem row_get {w : World} {base r : Nat} {e : TypeId} {size n cap : Nat} {xs : List Value} (h : w.ownsRow base e size (.slice (some ⟨r, 0, none⟩) n cap) n xs) {i : Nat} (hi : i < n * size) : ∃ u, w.cell? ⟨r, i, none⟩ = some u := by
  have hl := row_len h
  exact ⟨xs[i]'(by omega), by rw [rowN_cell h hi]; exact List.getElem?_eq_getElem (by omega)⟩
theorem rowX_shape {w : World} {base : Nat} {e : TypeId} {size n : Nat} {v : Value} {xs : List Value} (h : w.ownsRow base e size v n xs) : ∃ A c, v = .slice A n c ∧ (0 < n → ∃ r, A = some ⟨r, 0, none⟩) := by
  rcases h.2 with ⟨rfl, rfl⟩ | ⟨g, cap, cur, rfl, _⟩
  · exact ⟨none, 0, rfl, fun h => absurd h (Nat.lt_irrefl _)⟩
  · exact ⟨_, _, rfl, fun _ => ⟨_, rfl⟩⟩
theorem below_gr {base : Nat} {w w' : World} {v : Value} {e : TypeId} {size n : Nat} {xs : List Value} (h : w.ownsRow base e size v n xs) (hg : w.grownBy w' v.ownBlock) (hb : base ≤ w.heap.size) : Below base w w' :=
  ⟨hg.os, hg.tape, hg.output, hg.size, fun k hk => hg.block k (by omega) fun hc => by have := World.ownsRow.lt h k hc.symm; omega⟩
end Go.Proofs.YtjepnddndpmnnaaGreat
namespace Go.Proofs.YtjepnddndpmnnaaGreat
open Go.RowKit Go.Maps
set_option maxRecDepth 100000
set_option linter.unusedSimpArgs false
set_option linter.unusedVariables false
set_option linter.unusedSectionVars false
variable [Tab] [Fo]

def liveT_G : List UInt8 := [60, 112, 58, 97, 32, 120, 109, 108, 110, 115, 58, 112, 61, 34, 117, 34, 32, 107, 61, 34, 49, 34, 62, 120, 38, 108, 116, 59, 60, 47, 112, 58, 97, 62]
def liveL_G : List Ev := [⟨10, ⟨#[123, 117, 125, 97]⟩, ⟨#[]⟩⟩, ⟨11, ⟨#[107]⟩, ⟨#[49]⟩⟩, ⟨4, ⟨#[120, 60]⟩, ⟨#[]⟩⟩, ⟨12, ⟨#[]⟩, ⟨#[]⟩⟩]
theorem live_e_G : aEr liveT_G = 0 := by kernel_rfl
theorem live_rd_G : aRd liveT_G = 34 := by kernel_rfl
theorem live_l_G : aEv liveT_G = liveL_G := by kernel_rfl

set_option maxHeartbeats 4000000 in
theorem lives_G (w : World) (hfl : Fo.lim ≤ w.heap.size) : Calls Tryz.prog 12 #[] w fun e w' => e = .returned (.bool true) ∧ Below w.heap.size w w' := by
  have al : Below w.heap.size w (w.alloc (.cells #[.int .u8 60, .int .u8 112, .int .u8 58, .int .u8 97, .int .u8 32, .int .u8 120, .int .u8 109, .int .u8 108, .int .u8 110, .int .u8 115, .int .u8 58, .int .u8 112, .int .u8 61, .int .u8 34, .int .u8 117, .int .u8 34, .int .u8 32, .int .u8 107, .int .u8 61, .int .u8 34, .int .u8 49, .int .u8 34, .int .u8 62, .int .u8 120, .int .u8 38, .int .u8 108, .int .u8 116, .int .u8 59, .int .u8 60, .int .u8 47, .int .u8 112, .int .u8 58, .int .u8 97, .int .u8 62] 5 (34, 35))) := (Below.refl _ _).alloc (Nat.le_refl _) _
  have hR : BRead (w.alloc (.cells #[.int .u8 60, .int .u8 112, .int .u8 58, .int .u8 97, .int .u8 32, .int .u8 120, .int .u8 109, .int .u8 108, .int .u8 110, .int .u8 115, .int .u8 58, .int .u8 112, .int .u8 61, .int .u8 34, .int .u8 117, .int .u8 34, .int .u8 32, .int .u8 107, .int .u8 61, .int .u8 34, .int .u8 49, .int .u8 34, .int .u8 62, .int .u8 120, .int .u8 38, .int .u8 108, .int .u8 116, .int .u8 59, .int .u8 60, .int .u8 47, .int .u8 112, .int .u8 58, .int .u8 97, .int .u8 62] 5 (34, 35))) (.slice (some ⟨w.heap.size, 0, none⟩) 34 34) liveT_G := by
    refine ⟨_, _, rfl, fun _ => ⟨_, rfl, fun j hj => ?_⟩⟩
    rw [addr_add0, World.cell?_alloc_mark]
    have hj' : j < 34 := hj
    match j, hj' with
    | 0, _ => rfl
    | 1, _ => rfl
    | 2, _ => rfl
    | 3, _ => rfl
    | 4, _ => rfl
    | 5, _ => rfl
    | 6, _ => rfl
    | 7, _ => rfl
    | 8, _ => rfl
    | 9, _ => rfl
    | 10, _ => rfl
    | 11, _ => rfl
    | 12, _ => rfl
    | 13, _ => rfl
    | 14, _ => rfl
    | 15, _ => rfl
    | 16, _ => rfl
    | 17, _ => rfl
    | 18, _ => rfl
    | 19, _ => rfl
    | 20, _ => rfl
    | 21, _ => rfl
    | 22, _ => rfl
    | 23, _ => rfl
    | 24, _ => rfl
    | 25, _ => rfl
    | 26, _ => rfl
    | 27, _ => rfl
    | 28, _ => rfl
    | 29, _ => rfl
    | 30, _ => rfl
    | 31, _ => rfl
    | 32, _ => rfl
    | 33, _ => rfl
    | n + 34, h => exact absurd h (by omega)
  have hC := adecode_any _ _ liveT_G (by decide) hR (Nat.le_trans hfl al.size)
  rw [live_e_G, live_rd_G, live_l_G] at hC
  have hcv := Lib.run_convert_bytes_const (P := Tryz.prog) w 22 5 #[.int .u8 60, .int .u8 112, .int .u8 58, .int .u8 97, .int .u8 32, .int .u8 120, .int .u8 109, .int .u8 108, .int .u8 110, .int .u8 115, .int .u8 58, .int .u8 112, .int .u8 61, .int .u8 34, .int .u8 117, .int .u8 34, .int .u8 32, .int .u8 107, .int .u8 61, .int .u8 34, .int .u8 49, .int .u8 34, .int .u8 62, .int .u8 120, .int .u8 38, .int .u8 108, .int .u8 116, .int .u8 59, .int .u8 60, .int .u8 47, .int .u8 112, .int .u8 58, .int .u8 97, .int .u8 62] 34 34 Tryz.underlying22 Tryz.underlying5
  simp only [List.size_toArray, List.length_cons, List.length_nil, Nat.zero_add, Nat.reduceAdd] at hcv
  clear hR
  have HAL := Lib.hid al
  clear al
  go_enter Tryz.func12, Tryz.ntmps12
  go_wp2_with fail
  refine hC.mono ?_
  rintro e w1 ⟨lv, rfl, hRow, hb1⟩
  have HB := Lib.hid (HAL.out.trans (hb1.mono HAL.out.size))
  obtain ⟨A, c, hlv, _, _, hr⟩ := hRow.read
  obtain ⟨b, o, rfl, hcell⟩ := hr (by decide)
  have hlv' : lv = .slice (some ⟨b, o, none⟩) 4 c := hlv
  subst hlv'
  obtain ⟨x0, x1, x2⟩ := hcell 0 (by decide)
  have x0' : w1.cell? ⟨b, o, none⟩ = some (.int .i64 10) := x0
  have x1' : w1.cell? ⟨b, o + 1, none⟩ = some (.string ⟨#[123, 117, 125, 97]⟩) := x1
  have x2' : w1.cell? ⟨b, o + 2, none⟩ = some (.string ⟨#[]⟩) := x2
  obtain ⟨y0, y1, y2⟩ := hcell 1 (by decide)
  have y0' : w1.cell? ⟨b, o + 3, none⟩ = some (.int .i64 11) := y0
  have y1' : w1.cell? ⟨b, o + 4, none⟩ = some (.string ⟨#[107]⟩) := y1
  have y2' : w1.cell? ⟨b, o + 5, none⟩ = some (.string ⟨#[49]⟩) := y2
  obtain ⟨z0, z1, z2⟩ := hcell 2 (by decide)
  have z0' : w1.cell? ⟨b, o + 6, none⟩ = some (.int .i64 4) := z0
  have z1' : w1.cell? ⟨b, o + 7, none⟩ = some (.string ⟨#[120, 60]⟩) := z1
  have z2' : w1.cell? ⟨b, o + 8, none⟩ = some (.string ⟨#[]⟩) := z2
  clear hRow hb1 hr hcell hlv x0 x1 x2 y0 y1 y2 z0 z1 z2 hC hcv
  go_wp2
  go_ret
  exact ⟨rfl, HB.out⟩

theorem few_G (w : World) (A : Option Addr) (c : Nat) (bs : List UInt8) (hv : BRead w (.slice A bs.length c) bs) (hc : bs.length ≤ c) :
    Calls Tryz.prog 8 #[.slice A bs.length c] w fun e w' => e = .returned (.slice A (bs.take 600).length c) ∧ BRead w (.slice A (bs.take 600).length c) (bs.take 600) ∧ w = w' := by
  by_cases h6 : 600 < bs.length
  · obtain ⟨A', c', he, hr⟩ := hv
    injection he with e1 _ e3
    subst e1 e3
    obtain ⟨ad, rfl, hcell⟩ := hr (by omega)
    have hz : decide ((600 : Int) < (bs.length : Int)) = true := by simp; omega
    have hle : 600 ≤ c := by omega
    have hl : (bs.take 600).length = 600 := by rw [List.length_take]; omega
    have HV : BRead w (.slice (some ad) (bs.take 600).length c) (bs.take 600) := by
      refine ⟨some ad, c, rfl, fun _ => ⟨ad, rfl, fun j hj => ?_⟩⟩
      rw [List.getElem_take]
      exact hcell j (by omega)
    have HR := Lib.hid HV
    rw [hl]
    rw [hl] at HR
    clear hcell hr HV hl
    generalize bs.take 600 = ts at *
    go_enter Tryz.func8, Tryz.ntmps8
    go_wp2
    go_ret
    exact ⟨rfl, HR.out, rfl⟩
  · have hz : decide ((600 : Int) < (bs.length : Int)) = false := by simp; omega
    rw [List.take_of_length_le (by omega)]
    have HV := Lib.hid hv
    clear hv
    go_enter Tryz.func8, Tryz.ntmps8
    go_wp2
    go_ret
    exact ⟨rfl, HV.out, rfl⟩
end Go.Proofs.YtjepnddndpmnnaaGreat
namespace Go.Proofs.YtjepnddndpmnnaaGreat
open Go.RowKit Go.Maps
set_option maxRecDepth 100000
set_option linter.unusedSimpArgs false
set_option linter.unusedSectionVars false
variable [Tab] [Fo]

instance : DecidableEq Ev := fun x y => decidable_of_iff (x.k = y.k ∧ x.t = y.t ∧ x.v = y.v) ⟨fun ⟨a, b, c⟩ => by cases x; cases y; simp_all, fun h => by subst h; exact ⟨rfl, rfl, rfl⟩⟩
theorem eq_ibeq {a b : Int} (h : a ≠ b) : (a == b) = false := by rw [beq_eq_false_iff_ne]; exact h
theorem eq_ibne {a b : Int} (h : a ≠ b) : (a != b) = true := by simp [bne, h]
theorem take_next {xs ys : List Ev} {j : Nat} (hx : j < xs.length) (hy : j < ys.length) (h : xs.take j = ys.take j) (he : xs[j] = ys[j]) : xs.take (j + 1) = ys.take (j + 1) := by
  rw [List.take_succ_eq_append_getElem hx, List.take_succ_eq_append_getElem hy, h, he]
theorem take_same {xs ys : List Ev} {j : Nat} (hl : xs.length = ys.length) (hj : ¬ j < xs.length) (h : xs.take j = ys.take j) : xs = ys := by
  rwa [List.take_of_length_le (by omega), List.take_of_length_le (by omega)] at h
theorem diff_at {xs ys : List Ev} {j : Nat} (hx : j < xs.length) (hy : j < ys.length) (h : ¬ xs[j] = ys[j]) : decide (xs = ys) = false := by
  rw [decide_eq_false_iff_not]
  intro e
  subst e
  exact h rfl

set_option maxHeartbeats 4000000 in
theorem esame_any (w : World) (va vb : Value) (xs ys : List Ev) (ha : ERead w va xs) (hb : ERead w vb ys) :
    Calls Tryz.prog 11 #[va, vb] w fun e w' => e = .returned (.bool (decide (xs = ys))) ∧ Below w.heap.size w w' := by
  obtain ⟨A, c, rfl, hlc, hcm, hr⟩ := ha
  obtain ⟨A', c', rfl, hlc', hcm', hr'⟩ := hb
  have hcm2 : c ≤ 9223372036854775807 := by simpa [maxLen] using hcm
  have hcm2' : c' ≤ 9223372036854775807 := by simpa [maxLen] using hcm'
  by_cases hl : xs.length = ys.length
  case neg =>
    rw [decide_eq_false (fun h => hl (by rw [h]))]
    have z1 := eq_ibeq (a := (xs.length : Int)) (b := ys.length) (by omega)
    have z2 := eq_ibne (a := (xs.length : Int)) (b := ys.length) (by omega)
    clear hr hr' hl
    go_enter Tryz.func11, Tryz.ntmps11
    go_wp2
    go_ret
    exact ⟨rfl, Below.refl _ _⟩
  case pos =>
    have HL := Lib.hid hl
    rw [← hl]
    rw [← hl] at hlc'
    clear hl
    obtain ⟨D, hD⟩ : ∃ D, decide (xs = ys) = D := ⟨_, rfl⟩
    rw [hD]
    have HDD := Lib.hid hD
    clear hD
    go_enter Tryz.func11, Tryz.ntmps11
    go_wp2
    go_loopw [5] (fun i wr => ∃ j : Nat, j ≤ xs.length ∧ i = .int .i64 (j : Int) ∧ Hid (xs.take j = ys.take j) ∧ Hid (Below w.heap.size w wr)) (fun i _ => xs.length - (intOf i).toNat)
    case atStart => exact ⟨0, Nat.zero_le _, rfl, Lib.hid rfl, Lib.hid (Below.refl _ _)⟩
    case round =>
      obtain ⟨j, hj, rfl, HP, HW⟩ := hrel
      by_cases hlt : j < xs.length
      case pos =>
        obtain ⟨b, o, rfl, hg⟩ := hr (by omega)
        obtain ⟨b', o', rfl, hg'⟩ := hr' (by rw [← HL.out]; omega)
        have hlt' : j < ys.length := by rw [← HL.out]; exact hlt
        obtain ⟨g0, g1, g2⟩ := hg j hlt
        obtain ⟨k0, k1, k2⟩ := hg' j hlt'
        have HN := Lib.hid (take_next hlt hlt' HP.out)
        have HD := Lib.hid (diff_at hlt hlt')
        generalize xs[j] = x at *
        generalize ys[j] = y at *
        have g0 := (HW.out.cell (p := ⟨b, o + j * 3, none⟩) (cell_lt g0)).trans g0
        have g1 := (HW.out.cell (p := ⟨b, o + j * 3 + 1, none⟩) (cell_lt g1)).trans g1
        have g2 := (HW.out.cell (p := ⟨b, o + j * 3 + 2, none⟩) (cell_lt g2)).trans g2
        have k0 := (HW.out.cell (p := ⟨b', o' + j * 3, none⟩) (cell_lt k0)).trans k0
        have k1 := (HW.out.cell (p := ⟨b', o' + j * 3 + 1, none⟩) (cell_lt k1)).trans k1
        have k2 := (HW.out.cell (p := ⟨b', o' + j * 3 + 2, none⟩) (cell_lt k2)).trans k2
        have hne : ¬ x = y → D = false := fun h => HDD.out ▸ HD.out h
        have HNE := Lib.hid hne
        clear hg hg' hr hr' hlt' hne HD
        by_cases hk : x.k = y.k
        case neg =>
          have HF := Lib.hid (HNE.out fun e => hk (by rw [e]))
          clear HN HNE
          go_wp2
          go_region
          go_wp2
          go_ret
          exact ⟨(by rw [HF.out]; rfl), HW.out.trans (below_drew (Below.refl _ _) |>.mono HW.out.size)⟩
        case pos =>
          by_cases ht : x.t = y.t
          case neg =>
            have HF := Lib.hid (HNE.out fun e => ht (by rw [e]))
            obtain ⟨z1, z2⟩ := str_diff ht
            clear HN HNE ht
            rw [← hk] at k0
            clear hk
            go_wp2
            go_region
            go_wp2
            go_ret
            exact ⟨(by rw [HF.out]; rfl), HW.out.trans (below_drew (Below.refl _ _) |>.mono HW.out.size)⟩
          case pos =>
            by_cases hv : x.v = y.v
            case neg =>
              have HF := Lib.hid (HNE.out fun e => hv (by rw [e]))
              obtain ⟨z1, z2⟩ := str_diff hv
              clear HN HNE hv
              rw [← hk] at k0
              rw [← ht] at k1
              clear hk ht
              go_wp2
              go_region
              go_wp2
              go_ret
              exact ⟨(by rw [HF.out]; rfl), HW.out.trans (below_drew (Below.refl _ _) |>.mono HW.out.size)⟩
            case pos =>
              have HE := Lib.hid (HN.out (by cases x; cases y; simp_all))
              rw [← hk] at k0
              rw [← ht] at k1
              rw [← hv] at k2
              clear hk ht hv HN HNE
              go_wp2
              go_region
              go_wp2
              go_roundw
              case rel => exact ⟨j + 1, by omega, by go_num, HE, Lib.hid (HW.out.trans (below_drew (Below.refl _ _) |>.mono HW.out.size))⟩
              case measure => simp [intOf]; omega
      case neg =>
        have HF := Lib.hid (take_same HL.out hlt HP.out)
        have HG : D = true := by rw [← HDD.out, decide_eq_true HF.out]
        have HG := Lib.hid HG
        clear hr hr' HF
        go_wp2
        go_ret
        exact ⟨(by rw [HG.out]; first | done | rfl), HW.out⟩
end Go.Proofs.YtjepnddndpmnnaaGreat
namespace Go.Proofs.YtjepnddndpmnnaaGreat
open Go.RowKit Go.Maps
set_option maxRecDepth 100000
set_option linter.unusedSimpArgs false
set_option linter.unusedVariables false
set_option linter.unusedSectionVars false
variable [Tab] [Fo]

set_option maxHeartbeats 4000000 in
theorem walk_AngleStays (v0 : Value) (bs : List UInt8) (_hlen : bs.length ≤ 140737488355328) (hcap : ∀ A n c, v0 = .slice A n c → n ≤ c) (w : World) (hfl : Fo.lim ≤ w.heap.size) (h0 : BRead w v0 bs) :
    Calls Tryz.prog 6 #[v0] w fun e w' => e = .returned (.bool true) ∧ Below w.heap.size w w' := by
  obtain ⟨A, c, rfl, hA⟩ := h0
  have hF := few_G w A c bs ⟨A, c, rfl, hA⟩ (hcap _ _ _ rfl)
  clear hA
  go_enter Tryz.func6, Tryz.ntmps6
  go_wp2_with fail
  refine hF.mono ?_
  rintro e w' ⟨rfl, hR, rfl⟩
  have hts : (bs.take 600).length ≤ 600 := by rw [List.length_take]; omega
  generalize bs.take 600 = ts at *
  obtain ⟨Lt, hLt⟩ : ∃ Lt, ts.length = Lt := ⟨_, rfl⟩
  rw [hLt] at hR ⊢
  have HLt := Lib.hid hLt
  have HR := Lib.hid hR
  have HTS := Lib.hid hts
  clear hF hcap hts hLt
  go_wp2_with (first
    | (at_builtin; refine wp_appT rfl _ _ 22 rfl w.heap.size 5 Tryz.underlying22 Tryz.info5 _ _ [] ts rfl (ORow.nil _ _ _) rfl HR.out (by have := HTS.out; simp; omega) (Nat.le_refl _) ?_; intro v1 w1 hown1 hg1 _; have hb1 := below_gr (ORow.nil w w.heap.size 5) hg1 (Nat.le_refl _)))
  obtain ⟨A1, c1, rfl⟩ := hown1.shape
  simp only [List.nil_append, List.length_map] at hown1
  have hl1 : (List.map bV ([] ++ ts)).length = Lt := by rw [List.nil_append, List.length_map]; exact HLt.out
  rw [hl1]
  rw [HLt.out] at hown1
  have HB1 := Lib.hid hb1
  have HO1 := Lib.hid hown1
  have hD1 := Lib.hid (adecode_any w1 (.slice A1 Lt c1) ts (by have := HTS.out; omega) (BRead.of_row HO1.out) (Nat.le_trans hfl hb1.size))
  obtain ⟨E, hE⟩ : ∃ E, aEr ts = E := ⟨_, rfl⟩
  obtain ⟨R, hRd⟩ : ∃ R, aRd ts = R := ⟨_, rfl⟩
  obtain ⟨L, hL⟩ : ∃ L, aEv ts = L := ⟨_, rfl⟩
  obtain ⟨n, hn⟩ : ∃ n, L.length = n := ⟨_, rfl⟩
  have HE := Lib.hid hE
  have HRd := Lib.hid hRd
  have HL := Lib.hid hL
  have Hn := Lib.hid hn
  rw [hE, hRd, hL] at hD1
  clear hE hRd hL hn hown1 hg1 hb1 hl1 hR
  go_wp2_with fail
  refine hD1.out.mono ?_
  rintro e w2 ⟨lv, rfl, hRow, hb2⟩
  unfold ERow at hRow
  rw [Hn.out] at hRow
  obtain ⟨Al, cl, rfl, hAl⟩ := rowX_shape hRow
  have hrow2 := hRow
  go_wp2
  go_loopw [7] (fun i wr => ∃ (k : Nat) (xs : List Value), k ≤ n ∧ i = .int .i64 k ∧ wr.ownsRow w1.heap.size 46 3 (.slice Al n cl) n xs ∧ Hid (Below w1.heap.size w1 wr)) (fun i _ => n - (intOf i).toNat)
  case atStart => exact ⟨0, _, Nat.zero_le _, rfl, hrow2, Lib.hid hb2⟩
  case round =>
    obtain ⟨k, xs, hk, rfl, hX, HB⟩ := hrel
    by_cases hlt : k < n
    case pos =>
      obtain ⟨r, rfl⟩ := hAl (by omega)
      obtain ⟨u0, e0⟩ := row_get hX (i := k * 3) (by omega)
      obtain ⟨u1, e1⟩ := row_get hX (i := k * 3 + 1) (by omega)
      obtain ⟨u2, e2⟩ := row_get hX (i := k * 3 + 2) (by omega)
      obtain ⟨hr1, hr2, hr3, hr4, _, hfz, _⟩ := rowN_block hX
      have hcm : cl ≤ 9223372036854775807 := by simpa [maxLen] using hr4
      have f0 := hfz (k * 3)
      have f1 := hfz (k * 3 + 1)
      have f2 := hfz (k * 3 + 2)
      have hX3 := rowN_set (rowN_set (rowN_set hX (k * 3) (.int .i64 77)) (k * 3 + 1) (.string ⟨#[]⟩)) (k * 3 + 2) (.string ⟨#[]⟩)
      have hB3 := ((HB.out.setCell (p := ⟨r, k * 3, none⟩) hr1 (.int .i64 77)).setCell (p := ⟨r, k * 3 + 1, none⟩) hr1 (.string ⟨#[]⟩)).setCell (p := ⟨r, k * 3 + 2, none⟩) hr1 (.string ⟨#[]⟩)
      have HX3 := Lib.hid (And.intro hX3 hB3)
      clear hX hX3 hB3 hfz hrow2 hRow
      go_wp2
      go_roundw
      case rel => exact ⟨k + 1, _, hlt, by go_num, HX3.out.1, Lib.hid HX3.out.2⟩
      case measure => first | (simp [intOf]; done) | (simp [intOf]; omega)
    case neg =>
      obtain rfl : k = n := by omega
      have hs1 := Lib.hid (str_of_read (P := Tryz.prog) 22 9 5 Tryz.underlying22 Tryz.underlying5 Tryz.underlying9 (BRead.of_row (HO1.out.below HB.out (fun g hg => (World.ownsRow.lt HO1.out g hg).2))))
      have hBr := Lib.hid (HB1.out.trans (HB.out.mono HB1.out.size))
      have hs2 := Lib.hid (str_of_read (P := Tryz.prog) 22 9 5 Tryz.underlying22 Tryz.underlying5 Tryz.underlying9 (HR.out.below hBr.out))
      have hc1 := hs1.out
      have hc2 := hs2.out
      have HO2 := Lib.hid (HO1.out.below HB.out (fun g hg => (World.ownsRow.lt HO1.out g hg).2))
      have hkk : (List.map bV ts).length = Lt := by rw [List.length_map]; exact HLt.out
      clear hX hs1 hs2 hrow2 hRow
      go_wp2
      go_loopw [8] (fun i wr2 => ∃ (j : Nat) (cs : List Value), j ≤ Lt ∧ i = .int .i64 j ∧ wr2.ownsRow w.heap.size 5 1 (.slice A1 Lt c1) Lt cs ∧ Hid (Below w.heap.size w wr2)) (fun i _ => Lt - (intOf i).toNat)
      case atStart =>
        have h := HO2.out
        unfold ORow at h
        rw [hkk] at h
        exact ⟨0, _, Nat.zero_le _, rfl, h, hBr⟩
      case round =>
        obtain ⟨j, cs, hj, rfl, hY, HC⟩ := hrel
        by_cases hlj : j < Lt
        case pos =>
          obtain ⟨A', c', hv', hA'⟩ := rowX_shape hY
          injection hv' with q1 _ q3
          subst q1 q3
          obtain ⟨r1, rfl⟩ := hA' (by omega)
          obtain ⟨u0, e0⟩ := row_get hY (i := j) (by omega)
          obtain ⟨hr1, hr2, hr3, hr4, _, hfz, _⟩ := rowN_block hY
          have hcm : c1 ≤ 9223372036854775807 := by simpa [maxLen] using hr4
          have f0 := hfz j
          have HY := Lib.hid (And.intro (rowN_set hY j (.int .u8 120)) (HC.out.setCell (p := ⟨r1, j, none⟩) hr1 (.int .u8 120)))
          clear hY hfz
          go_wp2
          go_roundw
          case rel => exact ⟨j + 1, _, hlj, by go_num, HY.out.1, Lib.hid HY.out.2⟩
          case measure => first | (simp [intOf]; done) | (simp [intOf]; omega)
        case neg =>
          obtain rfl : j = Lt := by omega
          have hD3 := Lib.hid (fun w3 (h : Below w.heap.size w w3) => adecode_any w3 (.slice A j c) ts (by have := HTS.out; omega) (HR.out.below h) (Nat.le_trans hfl h.size))
          rw [HE.out, HRd.out, HL.out] at hD3
          clear hY
          go_wp2_with fail
          refine (hD3.out _ HC.out).mono ?_
          rintro e w4 ⟨lv4, rfl, hRow4, hb4⟩
          have HB4 := Lib.hid (HC.out.trans (hb4.mono HC.out.size))
          have HRow4 := Lib.hid hRow4
          obtain ⟨A4, c4, rfl⟩ := hRow4.shape
          rw [Hn.out] at HRow4 ⊢
          clear hRow4 hb4
          go_wp2_with fail
          refine (hD3.out _ HB4.out).mono ?_
          rintro e w5 ⟨lv5, rfl, hRow5, hb5⟩
          have HB5 := Lib.hid (HB4.out.trans (hb5.mono HB4.out.size))
          have HRow5 := Lib.hid hRow5
          obtain ⟨A5, c5, rfl⟩ := hRow5.shape
          rw [Hn.out] at HRow5 ⊢
          have hS := esame_any w5 (.slice A4 k c4) (.slice A5 k c5) L L (HRow4.out.below hb5).read HRow5.out.read
          rw [decide_eq_true rfl] at hS
          have HS := Lib.hid hS
          clear hRow5 hb5 hS
          go_wp2_with fail
          refine HS.out.mono ?_
          rintro e w6 ⟨rfl, hb6⟩
          have HB6 := Lib.hid (HB5.out.trans (hb6.mono HB5.out.size))
          have HV := Lib.hid (lives_G w6 (Nat.le_trans hfl HB6.out.size))
          clear hb6 HS
          go_wp2_with fail
          refine HV.out.mono ?_
          rintro e w7 ⟨rfl, hb7⟩
          have HB7 := Lib.hid (HB6.out.trans (hb7.mono HB6.out.size))
          clear hb7
          go_wp2
          go_ret
          exact ⟨rfl, HB7.out⟩
end Go.Proofs.YtjepnddndpmnnaaGreat
namespace Go.Proofs.YtjepnddndpmnnaaGreat
open Go.RowKit
@[reducible] def tab0 : Tab := ⟨Lib.pow10Tab, by unfold okTab; decide +kernel⟩
end Go.Proofs.YtjepnddndpmnnaaGreat

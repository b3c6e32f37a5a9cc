/-
  num's Read and Compare: their contracts.
-/
import Derived.Test.YtpffkdknjdjakaaDoorNumE
import Derived.Deep.RegionHeld3
import Derived.IntWalk
import Derived.Stop.LaidErr
namespace Go.Proofs.YtpffkdknjdjakaaDoor
open Go.RowKit
set_option maxRecDepth 100000

def readS (l : List UInt8) : ByteArray := match readL l with | some v => ⟨(formL v).toArray⟩ | none => ⟨#[]⟩
def readC (l : List UInt8) : Int := match readL l with | some _ => 0 | none => 8
theorem readS_some {l : List UInt8} {v : Val} (h : readL l = some v) : readS l = ⟨(formL v).toArray⟩ := by unfold readS; rw [h]
theorem readC_some {l : List UInt8} {v : Val} (h : readL l = some v) : readC l = 0 := by unfold readC; rw [h]
theorem readS_none {l : List UInt8} (h : readL l = none) : readS l = ⟨#[]⟩ := by unfold readS; rw [h]
theorem readC_none {l : List UInt8} (h : readL l = none) : readC l = 8 := by unfold readC; rw [h]

set_option maxHeartbeats 400000 in
theorem read_any (s : ByteArray) (w : World) (hw : StdW w) (hs : s.size ≤ 9223372036854775807) :
    Calls Tryd.prog 12 #[.string s] w fun e w' => e = .returned (.tuple #[.string (readS s.data.toList), .int .i64 (readC s.data.toList)]) ∧ Below w.heap.size w w' := by
  cases h : readL s.data.toList with
  | none =>
    rw [readS_none h, readC_none h]
    have hp := parse_no s
    unfold zeroA at hp
    have HP := Lib.hid hp
    have H := Lib.hid h
    clear h hp
    go_enter Tryd.func12, Tryd.ntmps12
    go_wp2_with (first
      | (go_at_call 19; refine (HP.out _ hw hs H.out).mono ?_; rintro e w1 ⟨rfl, hb1⟩))
    go_ret2
    refine ⟨rfl, ?_⟩
    exact hb1.alloc hb1.size _
  | some v =>
    rw [readS_some h, readC_some h]
    have hp := parse_yes s v
    unfold decA at hp
    have HP := Lib.hid hp
    have H := Lib.hid h
    clear h hp
    go_enter Tryd.func12, Tryd.ntmps12
    go_wp2_with (first
      | (go_at_call 19; refine (HP.out _ hw hs H.out).mono ?_; rintro e w1 ⟨rfl, hb1⟩))
    go_ret2
    refine ⟨rfl, ?_⟩
    exact hb1.alloc hb1.size _

def cmpN (a b : List UInt8) : Int := match readL a, readL b with | some x, some y => cmpV x y | _, _ => 0
def cmpC (a b : List UInt8) : Int := match readL a, readL b with | some _, some _ => 0 | _, _ => 8
theorem cmpN_some {a b : List UInt8} {x y : Val} (h : readL a = some x) (h2 : readL b = some y) : cmpN a b = cmpV x y := by unfold cmpN; rw [h, h2]
theorem cmpC_some {a b : List UInt8} {x y : Val} (h : readL a = some x) (h2 : readL b = some y) : cmpC a b = 0 := by unfold cmpC; rw [h, h2]
theorem cmpN_none {a b : List UInt8} (h : readL a = none ∨ readL b = none) : cmpN a b = 0 := by
  unfold cmpN; rcases h with h | h
  · rw [h]
  · rw [h]; cases readL a <;> rfl
theorem cmpC_none {a b : List UInt8} (h : readL a = none ∨ readL b = none) : cmpC a b = 8 := by
  unfold cmpC; rcases h with h | h
  · rw [h]
  · rw [h]; cases readL a <;> rfl

/-- What parse hands back. -/
def parA (l : List UInt8) : Value := match readL l with | some v => decA v | none => zeroA
def parF (l : List UInt8) : ByteArray := readS l
def parB (l : List UInt8) : Bool := (readL l).isSome
theorem parse_any (s : ByteArray) (w : World) (hw : StdW w) (hs : s.size ≤ 9223372036854775807) :
    Calls Tryd.prog 19 #[.string s] w fun e w' => e = .returned (.tuple #[parA s.data.toList, .string (readS s.data.toList), .bool (parB s.data.toList)]) ∧ Below w.heap.size w w' := by
  unfold parA parB
  cases h : readL s.data.toList with
  | none => rw [readS_none h]; exact parse_no s w hw hs h
  | some v => rw [readS_some h]; exact parse_yes s v w hw hs h
theorem parA_agg (l : List UInt8) : ∃ S D P, parA l = .agg #[.int .i64 S, .string D, .int .i64 P] := by
  unfold parA
  cases readL l with
  | none => exact ⟨_, _, _, rfl⟩
  | some v => exact ⟨_, _, _, rfl⟩

theorem okV_of {l : List UInt8} {v : Val} (h : readL l = some v) : -999 ≤ v.pow ∧ v.pow ≤ 999 ∧ (formL v).length ≤ 30 ∧ v.digs.length ≤ 30 := by
  unfold readL readE at h
  split at h
  · rename_i hc
    split at h
    · rename_i hk
      injection h with h
      rw [h] at hk
      have := of_decide_eq_true hk
      exact ⟨this.1, this.2.1, this.2.2, by rw [← h]; exact digs_len _ _ hc.2⟩
    · cases h
  · cases h

theorem cmpI_01 (a b : Int) : cmpI a b = -1 ∨ cmpI a b = 0 ∨ cmpI a b = 1 := by
  unfold cmpI
  by_cases h : a < b
  · rw [if_pos h]; exact .inl rfl
  · rw [if_neg h]
    by_cases h2 : b < a
    · rw [if_pos h2]; exact .inr (.inr rfl)
    · rw [if_neg h2]; exact .inr (.inl rfl)
theorem keep_cell {wc w' : World} {p : Addr} {u : Value} (hb : Below wc.heap.size wc w') (h : wc.cell? p = some u) : w'.cell? p = some u := (hb.cell (cell_lt h)).trans h
theorem keep_bel {w wc w' : World} (hb : Below wc.heap.size wc w') (h : Hid (Below w.heap.size w wc)) : Hid (Below w.heap.size w w') := Lib.hid (h.out.trans (hb.mono h.out.size))
theorem keep_cdrew {wc : World} {p : Addr} {u : Value} (h : wc.cell? p = some u) : wc.drew.cell? p = some u := h
theorem keep_last {a b c d e f g : Prop} (h : a ∧ b ∧ c ∧ d ∧ e ∧ f ∧ Hid g) : g := h.2.2.2.2.2.2.out
theorem keep_drew {w wc : World} (h : Hid (Below w.heap.size w wc)) : Hid (Below w.heap.size w wc.drew) := Lib.hid (below_drew h.out)
theorem cmpSz_01 (x y : Val) : cmpSz x y = -1 ∨ cmpSz x y = 0 ∨ cmpSz x y = 1 := by
  unfold cmpSz
  split
  · exact cmpI_01 _ _
  · exact lexC_01 _ _

set_option maxHeartbeats 1000000 in
theorem compare_yes (s t : ByteArray) (x y : Val) (w : World) (hw : StdW w) (hs : s.size ≤ 9223372036854775807) (ht : t.size ≤ 9223372036854775807) (hx : readL s.data.toList = some x) (hy : readL t.data.toList = some y) :
    Calls Tryd.prog 14 #[.string s, .string t] w fun e w' => e = .returned (.tuple #[.int .i64 (cmpV x y), .int .i64 0]) ∧ Below w.heap.size w w' := by
  obtain ⟨x1, x2, x3, x4⟩ := okV_of hx
  obtain ⟨y1, y2, y3, y4⟩ := okV_of hy
  have hpx := parse_yes s x
  have hpy := parse_yes t y
  have hsz := fun w => sizes_any x y w (by omega) (by omega) (by omega) (by omega)
  unfold decA at hpx hpy hsz
  by_cases hne : sgI x = sgI y
  · have hfin : cmpV x y = sgI x * cmpSz x y := by unfold cmpV; rw [if_neg (by omega)]
    have hb : (sgI x != sgI y) = false := by simp [hne]
    have HF := Lib.hid hfin
    have HNE := Lib.hid hne
    have HPX := Lib.hid hpx
    have HPY := Lib.hid hpy
    have HSZ := Lib.hid hsz
    have HX := Lib.hid hx
    have HY := Lib.hid hy
    clear hfin hne hpx hpy hsz hx hy
    go_enter Tryd.func14, Tryd.ntmps14
    go_wp2_with (fail)
    refine (HPX.out _ hw hs HX.out).mono ?_
    rintro e w1 ⟨rfl, hb1⟩
    go_wp2_with (fail)
    refine (HPY.out _ (hw.below (hb1.alloc hb1.size _)) ht HY.out).mono ?_
    rintro e w2 ⟨rfl, hb2⟩
    have HB := (Blk.new w1 39 #[.int .i64 (sgI x), .string ⟨x.digs.toArray⟩, .int .i64 x.pow]).below hb2 (by simp)
    have z0 : w2.cell? ⟨w1.heap.size, 0, none⟩ = some (.int .i64 (sgI x)) := HB.cell 0
    have z1 : w2.cell? ⟨w1.heap.size, 1, none⟩ = some (.string ⟨x.digs.toArray⟩) := HB.cell 1
    have z2 : w2.cell? ⟨w1.heap.size, 2, none⟩ = some (.int .i64 x.pow) := HB.cell 2
    have hlt := HB.lt
    have hbb : Hid (Below w.heap.size w (w2.alloc (.cells #[.int .i64 (sgI y), .string ⟨y.digs.toArray⟩, .int .i64 y.pow] 39))) :=
      Lib.hid (((hb1.alloc hb1.size _).trans (hb2.mono (by have := hb1.size; simp; omega))).alloc (by have := hb1.size; omega) _)
    have hm : IntKind.i64.wrap (sgI x * cmpSz x y) = sgI x * cmpSz x y := by
      have h1 := sg_01 x
      have h2 := cmpSz_01 x y
      rcases h1 with h1 | h1 | h1 <;> rcases h2 with h2 | h2 | h2 <;> rw [h1, h2] <;> decide
    have HM := Lib.hid hm
    clear hm hb1 hb2 HB
    go_wp2_with (fail)
    have u0 := cell?_alloc_old (.cells #[.int .i64 (sgI y), .string ⟨y.digs.toArray⟩, .int .i64 y.pow] 39) z0
    have u1 := cell?_alloc_old (.cells #[.int .i64 (sgI y), .string ⟨y.digs.toArray⟩, .int .i64 y.pow] 39) z1
    have u2 := cell?_alloc_old (.cells #[.int .i64 (sgI y), .string ⟨y.digs.toArray⟩, .int .i64 y.pow] 39) z2
    have HB2 := Blk.new w2 39 #[.int .i64 (sgI y), .string ⟨y.digs.toArray⟩, .int .i64 y.pow]
    have v0 := HB2.cell 0
    have v1 := HB2.cell 1
    have v2 := HB2.cell 2
    have hh := keep_drew hbb
    go_region_held3 (fun w' => w'.cell? ⟨w1.heap.size, 0, none⟩ = some (.int .i64 (sgI x)) ∧ w'.cell? ⟨w1.heap.size, 1, none⟩ = some (.string ⟨x.digs.toArray⟩) ∧ w'.cell? ⟨w1.heap.size, 2, none⟩ = some (.int .i64 x.pow) ∧ w'.cell? ⟨w2.heap.size, 0, none⟩ = some (.int .i64 (sgI y)) ∧ w'.cell? ⟨w2.heap.size, 1, none⟩ = some (.string ⟨y.digs.toArray⟩) ∧ w'.cell? ⟨w2.heap.size, 2, none⟩ = some (.int .i64 y.pow) ∧ Hid (Below w.heap.size w w')) (first | (refine ⟨?_, ?_, ?_, ?_, ?_, ?_, ?_⟩ <;> first | exact keep_cell hbc (by assumption) | exact keep_bel hbc (by assumption) | exact keep_drew (by assumption) | exact keep_cdrew (by assumption) | assumption))
      (first | (go_at_call 23; refine (HSZ.out _).mono ?_; rintro e w' ⟨rfl, hbc⟩))
    go_wp2
    go_ret2
    refine ⟨?_, keep_last (by assumption)⟩
    rw [HF.out, HM.out]
    rfl
  · have hfin : cmpV x y = cmpI (sgI x) (sgI y) := by unfold cmpV; rw [if_pos (by omega)]
    have hb : (sgI x != sgI y) = true := by simpa using hne
    have HF := Lib.hid hfin
    have HPX := Lib.hid hpx
    have HPY := Lib.hid hpy
    have HX := Lib.hid hx
    have HY := Lib.hid hy
    clear hfin hne hpx hpy hsz hx hy
    go_enter Tryd.func14, Tryd.ntmps14
    go_wp2_with (fail)
    refine (HPX.out _ hw hs HX.out).mono ?_
    rintro e w1 ⟨rfl, hb1⟩
    go_wp2_with (fail)
    refine (HPY.out _ (hw.below (hb1.alloc hb1.size _)) ht HY.out).mono ?_
    rintro e w2 ⟨rfl, hb2⟩
    have HB := (Blk.new w1 39 #[.int .i64 (sgI x), .string ⟨x.digs.toArray⟩, .int .i64 x.pow]).below hb2 (by simp)
    have z0 : w2.cell? ⟨w1.heap.size, 0, none⟩ = some (.int .i64 (sgI x)) := HB.cell 0
    have hlt := HB.lt
    have hs1 := hb1.size
    go_wp2_with (fail)
    refine (cmpi_any _ _ _).mono ?_
    rintro e w3 ⟨rfl, rfl⟩
    go_wp2
    go_ret2
    refine ⟨by rw [HF.out]; rfl, ?_⟩
    exact ((hb1.alloc hs1 _).trans (hb2.mono (by simp; omega))).alloc (by omega) _

set_option maxHeartbeats 1000000 in
theorem compare_no (s t : ByteArray) (w : World) (hw : StdW w) (hs : s.size ≤ 9223372036854775807) (ht : t.size ≤ 9223372036854775807) (h : (readL s.data.toList).isSome = false ∨ (readL t.data.toList).isSome = false) :
    Calls Tryd.prog 14 #[.string s, .string t] w fun e w' => e = .returned (.tuple #[.int .i64 0, .int .i64 8]) ∧ Below w.heap.size w w' := by
  have hps := parse_any s
  have hpt := parse_any t
  obtain ⟨S1, D1, P1, e1⟩ := parA_agg s.data.toList
  obtain ⟨S2, D2, P2, e2⟩ := parA_agg t.data.toList
  rw [e1] at hps
  rw [e2] at hpt
  unfold parB at hps hpt
  clear e1 e2
  generalize (readL s.data.toList).isSome = B1 at *
  generalize (readL t.data.toList).isSome = B2 at *
  have HPS := Lib.hid hps
  have HPT := Lib.hid hpt
  have H := Lib.hid h
  clear hps hpt h
  cases B1
  · cases B2
    all_goals
      go_enter Tryd.func14, Tryd.ntmps14
      go_wp2_with (fail)
      refine (HPS.out _ hw hs).mono ?_
      rintro e w1 ⟨rfl, hb1⟩
      go_wp2_with (fail)
      refine (HPT.out _ (hw.below (hb1.alloc hb1.size _)) ht).mono ?_
      rintro e w2 ⟨rfl, hb2⟩
      have hs1 := hb1.size
      have hs2 := hb2.size
      simp at hs2
      go_wp2
      go_ret2
      exact ⟨rfl, ((hb1.alloc hs1 _).trans (hb2.mono (by simp; omega))).alloc (by omega) _⟩
  · cases B2
    · go_enter Tryd.func14, Tryd.ntmps14
      go_wp2_with (fail)
      refine (HPS.out _ hw hs).mono ?_
      rintro e w1 ⟨rfl, hb1⟩
      go_wp2_with (fail)
      refine (HPT.out _ (hw.below (hb1.alloc hb1.size _)) ht).mono ?_
      rintro e w2 ⟨rfl, hb2⟩
      have hs1 := hb1.size
      have hs2 := hb2.size
      simp at hs2
      go_wp2
      go_ret2
      exact ⟨rfl, ((hb1.alloc hs1 _).trans (hb2.mono (by simp; omega))).alloc (by omega) _⟩
    · exact absurd H.out (by simp)

theorem compare_any (s t : ByteArray) (w : World) (hw : StdW w) (hs : s.size ≤ 9223372036854775807) (ht : t.size ≤ 9223372036854775807) :
    Calls Tryd.prog 14 #[.string s, .string t] w fun e w' => e = .returned (.tuple #[.int .i64 (cmpN s.data.toList t.data.toList), .int .i64 (cmpC s.data.toList t.data.toList)]) ∧ Below w.heap.size w w' := by
  cases hx : readL s.data.toList with
  | none =>
    rw [cmpN_none (.inl hx), cmpC_none (.inl hx)]
    exact compare_no s t w hw hs ht (.inl (by rw [hx]; rfl))
  | some x =>
    cases hy : readL t.data.toList with
    | none =>
      rw [cmpN_none (.inr hy), cmpC_none (.inr hy)]
      exact compare_no s t w hw hs ht (.inr (by rw [hy]; rfl))
    | some y =>
      rw [cmpN_some hx hy, cmpC_some hx hy]
      exact compare_yes s t x y w hw hs ht hx hy

/-- The document's examples. -/
theorem lives_1 : readL [45, 48, 46, 53, 48] = some ⟨true, [53], -1⟩ := by decide +kernel
theorem lives_2 : begB [49, 101, 53] = true ∧ isB [49, 101, 53] = true := by decide +kernel
theorem lives_3 : cmpN [49, 101, 50] [57, 57, 46, 57] = 1 ∧ cmpC [49, 101, 50] [57, 57, 46, 57] = 0 := by decide +kernel
theorem lives_4 : readS [45, 48, 46, 53, 48] = ⟨#[45, 53, 101, 45, 49]⟩ ∧ readC [45, 48, 46, 53, 48] = 0 := by decide +kernel

set_option maxHeartbeats 400000 in
theorem lives_any (w : World) (hw : StdW w) :
    Calls Tryd.prog 11 #[] w fun e w' => e = .returned (.bool true) ∧ Below w.heap.size w w' := by
  go_enter Tryd.func11, Tryd.ntmps11
  go_wp2_with (fail)
  refine (read_any ⟨#[45, 48, 46, 53, 48]⟩ _ hw (by decide)).mono ?_
  rintro e w1 ⟨rfl, hb1⟩
  rw [show readS (⟨#[45, 48, 46, 53, 48]⟩ : ByteArray).data.toList = _ from lives_4.1, show readC (⟨#[45, 48, 46, 53, 48]⟩ : ByteArray).data.toList = _ from lives_4.2]
  go_wp2_with (fail)
  refine (may_any ⟨#[49, 101, 53]⟩ _ (by decide)).mono ?_
  rintro e w' ⟨rfl, rfl⟩
  rw [show begB (⟨#[49, 101, 53]⟩ : ByteArray).data.toList = _ from lives_2.1, show isB (⟨#[49, 101, 53]⟩ : ByteArray).data.toList = _ from lives_2.2]
  go_wp2_with (fail)
  refine (compare_any ⟨#[49, 101, 50]⟩ ⟨#[57, 57, 46, 57]⟩ _ (hw.below hb1) (by decide) (by decide)).mono ?_
  rintro e w2 ⟨rfl, hb2⟩
  rw [show cmpN (⟨#[49, 101, 50]⟩ : ByteArray).data.toList (⟨#[57, 57, 46, 57]⟩ : ByteArray).data.toList = _ from lives_3.1, show cmpC (⟨#[49, 101, 50]⟩ : ByteArray).data.toList (⟨#[57, 57, 46, 57]⟩ : ByteArray).data.toList = _ from lives_3.2]
  go_wp2
  go_ret
  exact ⟨rfl, hb1.trans (hb2.mono hb1.size)⟩
end Go.Proofs.YtpffkdknjdjakaaDoor

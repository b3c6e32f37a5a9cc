/-
  carry: Row; the law's own examples.
  The walk of CarryWords.
  few; the walk of CarryRows.
  What every row of this seat's laws shares: the variables that are listed, a world that holds them, what the walks lean on out of them; (stage 15).
  A node that came in, opened: the sizes out of the bulk (for a form with a bound).
-/
import Derived.Test.YtonelabeflcplaaGreatDoorCrA32
import Derived.Test.YtonelabeflcplaaGreatDoorCrA33
import Derived.Test.YtonelabeflcplaaGreatDoorCrA05
import Derived.Test.YtonelabeflcplaaGreatDoorCrA31
import Derived.Test.YtonelabeflcplaaGreatDoorRows
import Derived.Test.YtonelabeflcplaaGreatDoorCards
import Derived.Test.YtonelabeflcplaaGreatDoorTie
import Derived.Test.YtonelabeflcplaaGreatDoorCrA16
import Derived.Test.YtonelabeflcplaaGreatDoorCrA19
import Derived.Deep.Slices
import Derived.Deep.Fields
import Derived.ChangeSame
import Derived.SizedLaws
import Derived.ProofKit
import Derived.OpenShut
import Derived.ShutString
import Derived.Deep.DeepHandedRow
import Derived.Lib.LaidTab
import Derived.Lay
import Derived.Stop.LaidErr
import Derived.SevenTiedAt
namespace Go.Proofs.YtonelabeflcplaaGreatDoor
open Go.RowKit Go.Maps
set_option maxRecDepth 100000
set_option linter.unusedSimpArgs false
set_option linter.unusedVariables false

def rowText (n : Nd) : List UInt8 := if mayN n = 0 ∧ elemN n = false then rowN n else []
def rowErr (n : Nd) : Int := if mayN n = 0 then (if elemN n = true then 20 else 0) else mayN n
set_option maxHeartbeats 4000000 in
theorem crow_any (n : Nd) (A : Option Addr) (c : Nat) (w : World) (hw : Nm.StdW w) (hA : NAt (fun b _ => b < w.heap.size) w n A c) (ho : okT n) (hs : smallT n) (hz : sizeN n ≤ 90000) :
    Calls Tryz.prog 15 #[.agg #[.int .i64 n.k, .string n.t, .string n.v, .slice A n.kids.length c]] w fun e w' => e = .returned (.tuple #[.string ⟨(rowText n).toArray⟩, .int .i64 (rowErr n)]) ∧ Below w.heap.size w w' := by
  have b2 := Blk.new w 24 #[.int .i64 n.k, .string n.t, .string n.v, .slice A n.kids.length c]
  have hb := al_nd w #[.int .i64 n.k, .string n.t, .string n.v, .slice A n.kids.length c]
  obtain ⟨W0, hW0⟩ : ∃ W0, w.alloc (.cells #[.int .i64 n.k, .string n.t, .string n.v, .slice A n.kids.length c] 24) = W0 := ⟨_, rfl⟩
  rw [hW0] at hb b2
  have hA0 := hA.upp hb
  have hM := tmay_any n A c W0 n.k n.t n.v n.kids.length ⟨rfl, rfl, rfl, rfl⟩ ho hA0 (hw.below hb)
  obtain ⟨z0, z1, z2, z3⟩ := nbox b2
  have B2 := Lib.hid b2
  have HB := Lib.hid hb
  have HA0 := Lib.hid hA0
  have HSH : Hid (mayN n = 0 → shaped n = true) := Lib.hid fun h => (may_shaped h).1
  have HSZ : Hid (sizeN n * 1048900 ≤ 100000000000) := Lib.hid (by omega)
  have hT : ∀ E, mayN n = E → rowText n = (if E = 0 ∧ elemN n = false then rowN n else []) ∧ rowErr n = (if E = 0 then (if elemN n = true then 20 else 0) else E) := by rintro E rfl; exact ⟨rfl, rfl⟩
  obtain ⟨E, hE⟩ : ∃ E, mayN n = E := ⟨_, rfl⟩
  obtain ⟨hT1, hT2⟩ := hT E hE
  rw [hT1, hT2]
  rw [hE] at hM HSH
  clear b2 hb hA hA0 ho hE hT hT1 hT2
  by_cases h0 : E = 0
  case neg =>
    have z5 := ibeq h0
    have z6 := ibne h0
    rw [if_neg h0, if_neg (fun h => h0 h.1)]
    clear h0 HSH
    go_enter Tryz.func15, Tryz.ntmps15
    go_wp2_with fail
    refine hM.mono ?_
    rintro e w1 ⟨rfl, hb1⟩
    have HB1 := Lib.hid (HB.out.trans (hb1.mono HB.out.size))
    clear hb1 hM hW0
    go_wp2
    go_ret2
    exact ⟨rfl, HB1.out⟩
  case pos =>
    subst h0
    have HE := fun (w1 : World) h => elem_any n (fun b _ => b < w1.heap.size) A c w1 h
    have HF := form_any n
    unfold FormAt FormPost at HF
    have hsh := HSH.out rfl
    cases he : elemN n with
    | true =>
      rw [he] at HE
      rw [show (if (0 : Int) = 0 ∧ true = false then rowN n else []) = [] from by simp, show (if (0 : Int) = 0 then (if true = true then (20 : Int) else 0) else 0) = 20 from by simp]
      clear HF he HSH
      go_enter Tryz.func15, Tryz.ntmps15
      go_wp2_with fail
      refine hM.mono ?_
      rintro e w1 ⟨rfl, hb1⟩
      have HB1 := Lib.hid (HB.out.trans (hb1.mono HB.out.size))
      obtain ⟨z0, z1, z2, z3⟩ := nbox (B2.out.below hb1 B2.out.lt)
      have hE1 := HE w1 (HA0.out.upp hb1)
      clear hb1 hM hW0 HE
      go_wp2_with fail
      refine hE1.mono ?_
      rintro e w2 ⟨rfl, hb2⟩
      have HB2 := Lib.hid (HB1.out.trans (hb2.mono HB1.out.size))
      clear hb2 hE1
      go_wp2
      go_ret2
      exact ⟨rfl, HB2.out⟩
    | false =>
      rw [he] at HE
      rw [show (if (0 : Int) = 0 ∧ false = false then rowN n else []) = rowN n from by simp, show (if (0 : Int) = 0 then (if false = true then (20 : Int) else 0) else 0) = 0 from by simp]
      clear he HSH
      have HF1 := fun (w1 : World) (h : NAt (fun b _ => b < w1.heap.size) w1 n A c) => HF w1.heap.size (.slice none 0 0) [] A c w1 h hs hsh (ORow.nil _ _ _) (Nat.le_refl _) (by have := HSZ.out; simp; omega)
      simp only [List.nil_append] at HF1
      generalize rowN n = RN at *
      clear HF
      go_enter Tryz.func15, Tryz.ntmps15
      go_wp2_with fail
      refine hM.mono ?_
      rintro e w1 ⟨rfl, hb1⟩
      have HB1 := Lib.hid (HB.out.trans (hb1.mono HB.out.size))
      have hB1 := B2.out.below hb1 B2.out.lt
      obtain ⟨z0, z1, z2, z3⟩ := nbox hB1
      have hA1 := HA0.out.upp hb1
      have hE1 := HE w1 hA1
      clear hb1 hM hW0 HE
      go_wp2_with fail
      refine hE1.mono ?_
      rintro e w2 ⟨rfl, hb2⟩
      have HB2 := Lib.hid (HB1.out.trans (hb2.mono HB1.out.size))
      obtain ⟨z0, z1, z2, z3⟩ := nbox (hB1.below hb2 hB1.lt)
      have hF2 := HF1 w2 (hA1.upp hb2)
      clear hb2 hE1 hB1 hA1 HF1
      go_wp2_with fail
      refine hF2.mono ?_
      rintro e w3 ⟨v3, rfl, ho3, hb3⟩
      have HB3 := Lib.hid (HB2.out.trans (hb3.mono HB2.out.size))
      have hstr := put_str _ ho3
      clear hb3 hF2
      go_wp2
      go_ret2
      exact ⟨rfl, HB3.out⟩

/-! The examples. -/
def liveC : Nd := .mk 7 ⟨#[]⟩ ⟨#[]⟩ [.mk 8 ⟨#[97, 32, 98]⟩ ⟨#[]⟩ [.mk 5 ⟨#[]⟩ ⟨#[]⟩ [.mk 3 ⟨#[49]⟩ ⟨#[]⟩ [], .mk 4 ⟨#[120]⟩ ⟨#[]⟩ []]]]
theorem liveC_may : mayN liveC = 0 := by decide +kernel
theorem liveC_row : rowText liveC = [123, 34, 97, 32, 98, 34, 32, 61, 32, 91, 49, 44, 32, 34, 120, 34, 93, 125] := by decide +kernel
theorem liveC_err : rowErr liveC = 0 := by decide +kernel
theorem liveC_word : wordL [97, 32, 98] = [34, 97, 32, 98, 34] := by decide +kernel
theorem liveC_werr : (if localL [97, 32, 98] = true ∧ (46 : UInt8) ∉ ([97, 32, 98] : List UInt8) then (0 : Int) else Qt.prErr [97, 32, 98]) = 0 := by decide +kernel
theorem liveC_ok : okT liveC := by simp [liveC, okT, okTL, okN, Nd.k, Nd.t, Nd.v, ByteArray.size]
theorem liveC_small : smallT liveC := by simp [liveC, smallT, smallL, ByteArray.size]
theorem liveC_size : sizeN liveC ≤ 90000 := by decide
/-- The example's blocks. -/
def liveW (w : World) : World := ((w.alloc (.cells #[.int .i64 3, .string ⟨#[49]⟩, .string ⟨#[]⟩, .slice none 0 0, .int .i64 4, .string ⟨#[120]⟩, .string ⟨#[]⟩, .slice none 0 0] 24)).alloc (.cells #[.int .i64 5, .string ⟨#[]⟩, .string ⟨#[]⟩, .slice (some ⟨w.heap.size, 0, none⟩) 2 2] 24)).alloc (.cells #[.int .i64 8, .string ⟨#[97, 32, 98]⟩, .string ⟨#[]⟩, .slice (some ⟨w.heap.size + 1, 0, none⟩) 1 1] 24)
theorem liveW_below (w : World) : Below w.heap.size w (liveW w) := (((Below.refl _ _).alloc (Nat.le_refl _) _).alloc (by simp) _).alloc (by simp; omega) _
theorem liveW_at (w : World) : NAt (fun b _ => b < (liveW w).heap.size) (liveW w) liveC (some ⟨w.heap.size + 2, 0, none⟩) 1 := by
  have hs : (liveW w).heap.size = w.heap.size + 3 := by simp [liveW]
  have b0 : Blk (liveW w) w.heap.size 24 #[.int .i64 3, .string ⟨#[49]⟩, .string ⟨#[]⟩, .slice none 0 0, .int .i64 4, .string ⟨#[120]⟩, .string ⟨#[]⟩, .slice none 0 0] := ((Blk.new w _ _).alloc _).alloc _
  have b1 : Blk (liveW w) (w.heap.size + 1) 24 #[.int .i64 5, .string ⟨#[]⟩, .string ⟨#[]⟩, .slice (some ⟨w.heap.size, 0, none⟩) 2 2] := by
    have := Blk.new (w.alloc (.cells #[.int .i64 3, .string ⟨#[49]⟩, .string ⟨#[]⟩, .slice none 0 0, .int .i64 4, .string ⟨#[120]⟩, .string ⟨#[]⟩, .slice none 0 0] 24)) 24 #[.int .i64 5, .string ⟨#[]⟩, .string ⟨#[]⟩, .slice (some ⟨w.heap.size, 0, none⟩) 2 2]
    rw [World.size_alloc] at this
    exact this.alloc _
  have b2 : Blk (liveW w) (w.heap.size + 2) 24 #[.int .i64 8, .string ⟨#[97, 32, 98]⟩, .string ⟨#[]⟩, .slice (some ⟨w.heap.size + 1, 0, none⟩) 1 1] := by
    have := Blk.new ((w.alloc (.cells #[.int .i64 3, .string ⟨#[49]⟩, .string ⟨#[]⟩, .slice none 0 0, .int .i64 4, .string ⟨#[120]⟩, .string ⟨#[]⟩, .slice none 0 0] 24)).alloc (.cells #[.int .i64 5, .string ⟨#[]⟩, .string ⟨#[]⟩, .slice (some ⟨w.heap.size, 0, none⟩) 2 2] 24)) 24 #[.int .i64 8, .string ⟨#[97, 32, 98]⟩, .string ⟨#[]⟩, .slice (some ⟨w.heap.size + 1, 0, none⟩) 1 1]
    rw [World.size_alloc, World.size_alloc] at this
    exact this
  rw [NAt.def_]
  refine ⟨Nat.le_refl _, by decide, fun _ => ⟨w.heap.size + 2, 0, rfl, by omega, fun j hj => ?_⟩⟩
  obtain rfl : j = 0 := by simpa [liveC, Nd.kids] using hj
  refine ⟨some ⟨w.heap.size + 1, 0, none⟩, 1, b2.cell 0, b2.cell 1, b2.cell 2, b2.cell 3, ?_⟩
  rw [NAt.def_]
  refine ⟨Nat.le_refl _, by decide, fun _ => ⟨w.heap.size + 1, 0, rfl, by omega, fun j hj => ?_⟩⟩
  obtain rfl : j = 0 := by simpa [liveC, Nd.kids] using hj
  refine ⟨some ⟨w.heap.size, 0, none⟩, 2, b1.cell 0, b1.cell 1, b1.cell 2, b1.cell 3, ?_⟩
  rw [NAt.def_]
  refine ⟨Nat.le_refl _, by decide, fun _ => ⟨w.heap.size, 0, rfl, by omega, fun j hj => ?_⟩⟩
  have hj2 : j < 2 := by simpa [liveC, Nd.kids] using hj
  match j, hj2 with
  | 0, _ => exact ⟨none, 0, b0.cell 0, b0.cell 1, b0.cell 2, b0.cell 3, NAt.leaf _ _ _ _ _ _⟩
  | 1, _ => exact ⟨none, 0, b0.cell 4, b0.cell 5, b0.cell 6, b0.cell 7, NAt.leaf _ _ _ _ _ _⟩
theorem iread_nil {w : World} {v : Value} (h : IRead w v []) : ∃ A c, v = .slice A 0 c := by obtain ⟨A, c, hv, _⟩ := h; exact ⟨A, c, hv⟩

set_option maxHeartbeats 8000000 in
theorem clives_any (w : World) (hw : Nm.StdW w) : Calls Tryz.prog 8 #[] w fun e w' => e = .returned (.bool true) ∧ Below w.heap.size w w' := by
  have hN := liveW_at w
  have hb0 := liveW_below w
  have hsz : (liveW w).heap.size = w.heap.size + 3 := by simp [liveW]
  obtain ⟨W1, hW1⟩ : ∃ W1, (liveW w).alloc (.cells #[.int .i64 7, .string ⟨#[]⟩, .string ⟨#[]⟩, .slice (some ⟨w.heap.size + 2, 0, none⟩) 1 1] 24) = W1 := ⟨_, rfl⟩
  have bX := Blk.new (liveW w) 24 #[.int .i64 7, .string ⟨#[]⟩, .string ⟨#[]⟩, .slice (some ⟨w.heap.size + 2, 0, none⟩) 1 1]
  have al1 := al_nd (liveW w) #[.int .i64 7, .string ⟨#[]⟩, .string ⟨#[]⟩, .slice (some ⟨w.heap.size + 2, 0, none⟩) 1 1]
  rw [hW1] at bX al1
  rw [hsz] at bX
  have hN1 := hN.upp al1
  have hb1 := hb0.trans (al1.mono hb0.size)
  have box : ∀ w', Below W1.heap.size W1 w' → w'.cell? ⟨w.heap.size + 3, 0, none⟩ = some (.int .i64 7) ∧ w'.cell? ⟨w.heap.size + 3, 1, none⟩ = some (.string ⟨#[]⟩) ∧ w'.cell? ⟨w.heap.size + 3, 2, none⟩ = some (.string ⟨#[]⟩) ∧ w'.cell? ⟨w.heap.size + 3, 3, none⟩ = some (.slice (some ⟨w.heap.size + 2, 0, none⟩) 1 1) := fun w' h => by
    have := bX.below h bX.lt
    exact ⟨this.cell 0, this.cell 1, this.cell 2, this.cell 3⟩
  have cR := fun (w' : World) (h : Below W1.heap.size W1 w') => crow_any liveC _ _ w' (hw.below (hb1.trans (h.mono hb1.size))) (hN1.upp h) liveC_ok liveC_small liveC_size
  rw [liveC_row, liveC_err] at cR
  have cW := fun (w' : World) => word_any ⟨#[97, 32, 98]⟩ w' (by decide)
  unfold WordEnd at cW
  have hw1 : wordL (⟨#[97, 32, 98]⟩ : ByteArray).data.toList = [34, 97, 32, 98, 34] := liveC_word
  have hw2 : (if localL (⟨#[97, 32, 98]⟩ : ByteArray).data.toList = true ∧ (46 : UInt8) ∉ (⟨#[97, 32, 98]⟩ : ByteArray).data.toList then (0 : Int) else Qt.prErr (⟨#[97, 32, 98]⟩ : ByteArray).data.toList) = 0 := liveC_werr
  rw [hw1, hw2] at cW
  have c7 := fun (w' : World) => of_no 7 (by omega) liveC (some ⟨w.heap.size + 2, 0, none⟩) 1 w'
  have c5 := fun (w' : World) (h : Below W1.heap.size W1 w') => of_gen 5 (by omega) liveC _ (fun _ => root5no liveC (by decide)) _ _ w' (hw.below (hb1.trans (h.mono hb1.size))) (hN1.upp h) liveC_ok liveC_size
  have c6 := fun (w' : World) (h : Below W1.heap.size W1 w') => of_gen 6 (by omega) liveC _ (fun _ => root6 liveC) _ _ w' (hw.below (hb1.trans (h.mono hb1.size))) (hN1.upp h) liveC_ok liveC_size
  unfold OfPost at c5 c6
  rw [liveC_may] at c5 c6
  simp only [if_true, Option.isSome, Option.getD, iP, List.map_nil, if_false, Bool.false_eq_true] at c5 c6
  obtain ⟨x0, x1, x2, x3⟩ := box W1 (Below.refl _ _)
  have HB1 := Lib.hid hb1
  clear hN hb0 al1 bX hN1 hb1 hw1 hw2
  unfold liveW at hW1
  have hcR := cR W1 (Below.refl _ _)
  clear cR
  go_enter Tryz.func8, Tryz.ntmps8
  go_wp2_with fail
  refine hcR.mono ?_
  rintro e w2 ⟨rfl, hb2⟩
  clear hcR hW1 x0 x1 x2 x3
  go_wp2_with fail
  refine (cW w2).mono ?_
  rintro e w3 ⟨rfl, hb3⟩
  have h3 := hb2.trans (hb3.mono hb2.size)
  obtain ⟨x0, x1, x2, x3⟩ := box w3 h3
  clear hb2 hb3 cW
  go_wp2_with fail
  refine (c7 w3).mono ?_
  rintro e w4 ⟨rfl, hb4⟩
  have h4 := h3.trans (hb4.mono h3.size)
  obtain ⟨x0, x1, x2, x3⟩ := box w4 h4
  have hc5 := c5 w4 h4
  clear hb4 h3 c7 c5
  go_wp2_with fail
  refine hc5.mono ?_
  rintro e w5 ⟨v5, rfl, hv5, hb5⟩
  have h5 := h4.trans (hb5.mono h4.size)
  obtain ⟨A5, q5, rfl⟩ := iread_nil hv5
  obtain ⟨x0, x1, x2, x3⟩ := box w5 h5
  have hc6 := c6 w5 h5
  clear hb5 h4 c6 hc5 hv5
  go_wp2_with fail
  refine hc6.mono ?_
  rintro e w6 ⟨v6, rfl, hv6, hb6⟩
  have H6 := Lib.hid (HB1.out.trans ((h5.trans (hb6.mono h5.size)).mono HB1.out.size))
  clear hb6 h5 hc6 hv6 box hsz x0 x1 x2 x3
  go_wp2
  go_ret
  exact ⟨rfl, H6.out⟩
end Go.Proofs.YtonelabeflcplaaGreatDoor
namespace Go.Proofs.YtonelabeflcplaaGreatDoor
open Go.RowKit Go.Maps
set_option maxRecDepth 100000
set_option linter.unusedSimpArgs false
set_option linter.unusedVariables false

theorem runes_ascii : ∀ (l : List UInt8) (out : List Int), (∀ b ∈ l, b.toNat < 128) → (runesGo (rn0 out) l).isSome = true
  | [], out, _ => rfl
  | b :: t, out, h => by
    have hb := h b (List.mem_cons_self ..)
    have hs : rnStep (rn0 out) (b.toNat : Int) = some (rn0 (out ++ [(b.toNat : Int)])) := by
      have h1 : stOk 0 128 191 (b.toNat : Int) = true := by unfold stOk; rw [if_neg (by omega), decide_eq_true_iff]; exact .inl (by omega)
      have h2 : stL 0 (b.toNat : Int) = 0 := by unfold stL; rw [if_neg (by omega), if_pos (by omega)]
      have h3 : stLo 0 (b.toNat : Int) = 128 := by unfold stLo; rw [if_neg (by omega), if_neg (by omega), if_neg (by omega)]
      have h4 : stHi 0 (b.toNat : Int) = 191 := by unfold stHi; rw [if_neg (by omega), if_neg (by omega), if_neg (by omega)]
      have h5 : payI (b.toNat : Int) = (b.toNat : Int) := by unfold payI; rw [if_pos (by omega)]
      unfold rnStep rn0
      simp only [h1, h2, h3, h4, h5, if_true]
      congr 1
      simp
    simp only [runesGo, hs]
    exact runes_ascii t _ fun x hx => h x (List.mem_cons_of_mem _ hx)
theorem local_ascii {L : List UInt8} (h : localL L = true) : ∀ b ∈ L, b.toNat < 128 := by
  cases L with
  | nil => cases h
  | cons c t =>
    simp only [localL, Bool.and_eq_true, decide_eq_true_eq, List.all_eq_true] at h
    intro b hb
    rcases List.mem_cons.1 hb with rfl | hb
    · have := h.1.2
      unfold firstB at this
      rw [decide_eq_true_iff] at this
      omega
    · have := h.2 b hb
      unfold laterB at this
      rw [decide_eq_true_iff] at this
      omega
theorem local_err {L : List UInt8} (h : localL L = true) : Qt.prErr L = 0 := by
  have h1 := runes_ascii L [] (local_ascii h)
  have h2 := local_len h
  have h3 : (runesL L).isSome = true := h1
  unfold Qt.prErr
  rw [if_pos h3, if_neg (by omega)]
theorem word_err (L : List UInt8) : (if localL L = true ∧ (46 : UInt8) ∉ L then (0 : Int) else Qt.prErr L) = Qt.prErr L := by
  split
  · rename_i h
    exact (local_err h.1).symm
  · rfl
theorem word_none {L : List UInt8} (h : Qt.prErr L ≠ 0) : wordL L = [] := by
  have hl : ¬ (localL L = true ∧ (46 : UInt8) ∉ L) := fun hc => h (local_err hc.1)
  rw [word_quo hl]
  unfold Qt.prErr at h
  unfold Qt.prText
  split
  · rename_i hu
    rw [if_pos hu] at h
    split
    · rfl
    · rename_i h48
      rw [if_neg h48] at h
      exact absurd rfl h
  · rfl

set_option maxHeartbeats 4000000 in
theorem walk_CarryWords (s : ByteArray) (hs : s.size ≤ 1048576) (w : World) (hw : Nm.StdW w) :
    Calls Tryz.prog 5 #[.string s] w fun e w' => e = .returned (.bool true) ∧ Below w.heap.size w w' := by
  have hW := word_any s w (by omega)
  have hP := fun w' => Qt.rprint_any s w' (by omega)
  have hR := fun w' => rword_any s w' (by omega)
  unfold WordEnd at hW
  rw [word_err] at hW
  unfold Qt.PrintEnd at hP
  have hN := @word_none s.data.toList
  have hL := fun w' h => clives_any w' h
  generalize wordL s.data.toList = X at *
  generalize Qt.prText s.data.toList = Y at *
  generalize Qt.prErr s.data.toList = E at *
  by_cases h0 : E = 0
  case neg =>
    obtain rfl := hN h0
    have z1 := ibeq h0
    have z2 := ibne h0
    clear hN h0 hR
    go_enter Tryz.func5, Tryz.ntmps5
    go_wp2_with fail
    refine hW.mono ?_
    rintro e w1 ⟨rfl, hb1⟩
    have hP1 := hP w1
    clear hW hP
    go_wp2_with fail
    refine hP1.mono ?_
    rintro e w2 ⟨rfl, hb2⟩
    have h2 := hb1.trans (hb2.mono hb1.size)
    have hL2 := hL w2 (hw.below h2)
    clear hP1 hb1 hb2 hL
    go_wp2_with fail
    refine hL2.mono ?_
    rintro e w3 ⟨rfl, hb3⟩
    have H3 := Lib.hid (h2.trans (hb3.mono h2.size))
    clear hb3 h2 hL2
    go_wp2
    go_ret
    exact ⟨rfl, H3.out⟩
  case pos =>
    subst h0
    clear hN
    go_enter Tryz.func5, Tryz.ntmps5
    go_wp2_with fail
    refine hW.mono ?_
    rintro e w1 ⟨rfl, hb1⟩
    have hP1 := hP w1
    clear hW hP
    go_wp2_with fail
    refine hP1.mono ?_
    rintro e w2 ⟨rfl, hb2⟩
    have h2 := hb1.trans (hb2.mono hb1.size)
    have hR2 := hR w2
    clear hP1 hb1 hb2 hR
    go_wp2_with fail
    refine hR2.mono ?_
    rintro e w3 ⟨rfl, hb3⟩
    have h3 := h2.trans (hb3.mono h2.size)
    have hL3 := hL w3 (hw.below h3)
    clear hR2 hb3 h2 hL
    go_wp2_with fail
    refine hL3.mono ?_
    rintro e w4 ⟨rfl, hb4⟩
    have H4 := Lib.hid (h3.trans (hb4.mono h3.size))
    clear hb4 h3 hL3
    go_wp2
    go_ret
    exact ⟨rfl, H4.out⟩
end Go.Proofs.YtonelabeflcplaaGreatDoor
namespace Go.Proofs.YtonelabeflcplaaGreatDoor
open Go.RowKit Go.Maps
set_option maxRecDepth 100000
set_option linter.unusedSimpArgs false
set_option linter.unusedVariables false

theorem cfew_any (n : Nd) (S : Nat → Nat → Prop) (A : Option Addr) (c : Nat) (w : World) (hA : NAt S w n A c) :
    Calls Tryz.prog 7 #[.agg #[.int .i64 n.k, .string n.t, .string n.v, .slice A n.kids.length c]] w fun e w' => e = .returned (.bool (decide (0 ≤ fewN n 200 20))) ∧ Below w.heap.size w w' := by
  have hal := al_nd w #[.int .i64 n.k, .string n.t, .string n.v, .slice A n.kids.length c]
  have hF := rfew_any n 200 20 S A c _ (by omega) (by omega) (by omega) (by omega) (hA.below hal)
  generalize fewN n 200 20 = r at *
  go_enter Tryz.func7, Tryz.ntmps7
  go_wp2_with (first
    | (go_at_call 19; refine hF.mono ?_; clear hF; rintro e w5 ⟨rfl, hb5⟩))
  go_ret
  exact ⟨rfl, hal.trans (hb5.mono hal.size)⟩
theorem few2_ok {n : Nd} {R : Nat} (h : okW R n) (hR : R ≤ 140737488355328) (hf : decide (0 ≤ fewN n 200 20) = true) : okT n ∧ sizeN n ≤ 200 := by
  have h1 := few_size (left := 200) (by omega) (of_decide_eq_true hf)
  exact ⟨okT_of n R h hR (by omega), by omega⟩

set_option maxHeartbeats 8000000 in
theorem walk_CarryRows (n : Nd) (A : Option Addr) (c : Nat) (ho : okW 1048576 n) (w : World) (hw : Nm.StdW w) (hA : NAt (fun b _ => b < w.heap.size) w n A c) :
    Calls Tryz.prog 6 #[.agg #[.int .i64 n.k, .string n.t, .string n.v, .slice A n.kids.length c]] w fun e w' => e = .returned (.bool true) ∧ Below w.heap.size w w' := by
  have bX := Blk.new w 24 #[.int .i64 n.k, .string n.t, .string n.v, .slice A n.kids.length c]
  have al1 := al_nd w #[.int .i64 n.k, .string n.t, .string n.v, .slice A n.kids.length c]
  have hL := fun w' h => clives_any w' h
  obtain ⟨W0, hW0⟩ : ∃ W0, w.alloc (.cells #[.int .i64 n.k, .string n.t, .string n.v, .slice A n.kids.length c] 24) = W0 := ⟨_, rfl⟩
  rw [hW0] at bX al1
  have HX := Lib.hid bX
  have HB := Lib.hid al1
  have HA := Lib.hid (hA.upp al1)
  obtain ⟨x0, x1, x2, x3⟩ := nbox bX
  have HF := Lib.hid (cfew_any n _ A c W0 HA.out)
  have HK := Lib.hid (few2_ok ho (by omega))
  have hsm := small_of n ho
  clear bX al1 hA
  go_enter Tryz.func6, Tryz.ntmps6
  go_wp2_with fail
  clear hW0
  refine HF.out.mono ?_
  rintro e w1 ⟨rfl, hb1⟩
  generalize decide (0 ≤ fewN n 200 20) = f1 at *
  have HX1 := Lib.hid (HX.out.below hb1 HX.out.lt)
  have HB1 := Lib.hid (HB.out.trans (hb1.mono HB.out.size))
  have HA1 := Lib.hid (HA.out.upp hb1)
  have hs1 := HB1.out.size
  clear hb1 HX HB HA HF x0 x1 x2 x3
  cases f1 with
  | false =>
    clear HK
    go_wp2_with fail
    refine (hL _ (hw.below HB1.out)).mono ?_
    rintro e w3 ⟨rfl, hb3⟩
    have HB3 := Lib.hid (HB1.out.trans (hb3.mono hs1))
    clear hb3
    go_wp2
    go_ret
    exact ⟨rfl, HB3.out⟩
  | true =>
    obtain ⟨hok, hsz⟩ := HK.out rfl
    obtain ⟨x0, x1, x2, x3⟩ := nbox HX1.out
    have HV := Lib.hid (crow_any n A c w1 (hw.below HB1.out) HA1.out hok hsm (by omega))
    clear HK ho
    go_wp2_with fail
    refine HV.out.mono ?_
    rintro e w2 ⟨rfl, hb2⟩
    have HX2 := Lib.hid (HX1.out.below hb2 HX1.out.lt)
    have HB2 := Lib.hid (HB1.out.trans (hb2.mono hs1))
    have HA2 := Lib.hid (HA1.out.upp hb2)
    have hs2 := HB2.out.size
    have HW := Lib.hid (rwalk_any n A c w2 hsm (by omega) HA2.out)
    have hT : ∀ E, mayN n = E → rowText n = (if E = 0 ∧ elemN n = false then rowN n else []) ∧ rowErr n = (if E = 0 then (if elemN n = true then 20 else 0) else E) := by rintro E rfl; exact ⟨rfl, rfl⟩
    obtain ⟨x0, x1, x2, x3⟩ := nbox HX2.out
    clear hb2 HX1 HB1 HA1 hs1 HV
    obtain ⟨E, hE⟩ : ∃ E, mayN n = E := ⟨_, rfl⟩
    obtain ⟨hT1, hT2⟩ := hT E hE
    rw [hT1, hT2]
    rw [hE] at HW
    clear hT hT1 hT2 hE
    by_cases h0 : E = 0
    case neg =>
      have z1 := ibeq h0
      have z2 := ibne h0
      rw [if_neg h0, if_neg (fun h => h0 h.1)]
      clear h0
      go_wp2_with fail
      refine HW.out.mono ?_
      rintro e w3 ⟨lv, rfl, hb3, _, _⟩
      have HB3 := Lib.hid (HB2.out.trans (hb3.mono hs2))
      clear hb3 HW
      go_wp2_with fail
      refine (hL _ (hw.below HB3.out)).mono ?_
      rintro e w4 ⟨rfl, hb4⟩
      have HB4 := Lib.hid (HB3.out.trans (hb4.mono HB3.out.size))
      clear hb4
      go_wp2
      go_ret
      exact ⟨rfl, HB4.out⟩
    case pos =>
      subst h0
      have HR := fun (w' : World) h => rrow_any n (fun b _ => b < w'.heap.size) A c w' h hsm (by omega)
      have HE := fun (w' : World) h => relem_any n (fun b _ => b < w'.heap.size) A c w' h
      cases he : elemN n with
      | true =>
        rw [he] at HE
        rw [show (if (0 : Int) = 0 ∧ true = false then rowN n else []) = [] from by simp, show (if (0 : Int) = 0 then (if true = true then (20 : Int) else 0) else 0) = 20 from by simp]
        clear HR he
        go_wp2_with fail
        refine HW.out.mono ?_
        rintro e w3 ⟨lv, rfl, hb3, _, _⟩
        have HB3 := Lib.hid (HB2.out.trans (hb3.mono hs2))
        obtain ⟨x0, x1, x2, x3⟩ := nbox (HX2.out.below hb3 HX2.out.lt)
        have hE3 := HE w3 (HA2.out.upp hb3)
        clear hb3 HW HE
        go_wp2_with fail
        refine hE3.mono ?_
        rintro e w4 ⟨rfl, hb4⟩
        have HB4 := Lib.hid (HB3.out.trans (hb4.mono HB3.out.size))
        clear hb4 hE3
        go_wp2_with fail
        refine (hL _ (hw.below HB4.out)).mono ?_
        rintro e w5 ⟨rfl, hb5⟩
        have HB5 := Lib.hid (HB4.out.trans (hb5.mono HB4.out.size))
        clear hb5
        go_wp2
        go_ret
        exact ⟨rfl, HB5.out⟩
      | false =>
        rw [he] at HE
        rw [show (if (0 : Int) = 0 ∧ false = false then rowN n else []) = rowN n from by simp, show (if (0 : Int) = 0 then (if false = true then (20 : Int) else 0) else 0) = 0 from by simp]
        clear he
        generalize rowN n = RN at *
        go_wp2_with fail
        refine HW.out.mono ?_
        rintro e w3 ⟨lv, rfl, hb3, _, _⟩
        have HB3 := Lib.hid (HB2.out.trans (hb3.mono hs2))
        have hX3 := HX2.out.below hb3 HX2.out.lt
        have hA3 := HA2.out.upp hb3
        obtain ⟨x0, x1, x2, x3⟩ := nbox hX3
        have hE3 := HE w3 hA3
        clear hb3 HW HE
        go_wp2_with fail
        refine hE3.mono ?_
        rintro e w4 ⟨rfl, hb4⟩
        have HB4 := Lib.hid (HB3.out.trans (hb4.mono HB3.out.size))
        obtain ⟨x0, x1, x2, x3⟩ := nbox (hX3.below hb4 hX3.lt)
        have hR4 := HR w4 (hA3.upp hb4)
        clear hb4 hE3 hX3 hA3 HR
        go_wp2_with fail
        refine hR4.mono ?_
        rintro e w5 ⟨rfl, hb5⟩
        have HB5 := Lib.hid (HB4.out.trans (hb5.mono HB4.out.size))
        clear hb5 hR4
        go_wp2_with fail
        refine (hL _ (hw.below HB5.out)).mono ?_
        rintro e w6 ⟨rfl, hb6⟩
        have HB6 := Lib.hid (HB5.out.trans (hb6.mono HB5.out.size))
        clear hb6
        go_wp2
        go_ret
        exact ⟨rfl, HB6.out⟩
end Go.Proofs.YtonelabeflcplaaGreatDoor
namespace Go.Proofs.YtonelabeflcplaaGreatDoor
open Go.RowKit Go.ChangeShapes Go.WideShapes Go.Deep
set_option maxRecDepth 100000

theorem own : ownKnob Tryz.prog.godebug = none := by kernel_rfl
theorem laidOut : laidOutB Tryz.prog = true := by kernel_rfl
def laidL : List (String × DataW Unit) := Rows.carryWordsRow.laid
theorem laidL_eq : laidL = [("math/bits.deBruijn32tab", Rows.laid_math_bits_deBruijn32tab), ("math/bits.deBruijn64tab", Rows.laid_math_bits_deBruijn64tab), ("internal/strconv.uint64pow10", Rows.laid_internal_strconv_uint64pow10), ("unicode/utf8.acceptRanges", Rows.laid_unicode_utf8_acceptRanges), ("strconv.ErrRange", Rows.laid_strconv_ErrRange), ("strconv.ErrSyntax", Rows.laid_strconv_ErrSyntax), ("unicode/utf8.first", Rows.laid_unicode_utf8_first)] := rfl

theorem laid_met (os : Os) (args : Array Value) : laidMetH Tryz.prog laidL ((World.laidAll Tryz.prog os laidL).forCall (fun _ _ => 0) ⟨#[], args, []⟩).memory := by
  rw [MakeChecks.laidMetH_plain _ _ _ (by kernel_rfl)]
  exact laidMet_laidAll _ (by kernel_rfl) (by kernel_rfl)
theorem shapedW (os : Os) (args : Array Value) : ((World.laidAll Tryz.prog os laidL).forCall (fun _ _ => 0) ⟨#[], args, []⟩).Shaped Tryz.prog :=
  World.shaped_of_ZipB (by kernel_rfl) (by kernel_rfl)

theorem pow_data : (Rows.laid_internal_strconv_uint64pow10 : DataW Unit) = Lib.tabData .u64 Lib.pow10Tab := by kernel_rfl
theorem tPow : (Tryz.prog.globals[5]?).map (·.type) = some 192 := by kernel_rfl
theorem tRange : (Tryz.prog.globals[2]?).map (·.type) = some 159 := by kernel_rfl
theorem star : "*" ++ "errors.errorString" = "*errors.errorString" := by decide
theorem row_err (u : TypeId) (h : Tryz.prog.typeName? 3 u = some "*errors.errorString") : u = 196 :=
  typeName_ptr_named (nm := "errors.errorString") (by rw [star]; kernel_rfl) (by kernel_rfl) (by decide) u (by rw [star]; exact h)
theorem std_of {W : World} (hL : laidMetH Tryz.prog laidL W) (hsh : W.ShapedOpen Tryz.prog) : Nm.StdW W := by
  rw [MakeChecks.laidMetH_plain _ _ _ (by kernel_rfl), laidL_eq] at hL
  refine ⟨Tryz.laysM145.s1_3 W hsh, ?_, ?_⟩
  · have h5 := hL.tail.tail.tail.tail
    unfold Rows.laid_strconv_ErrRange at h5
    obtain ⟨a, s, h, _⟩ := laid_sentinel h5 Nm.gRange tRange Tryz.underlying159 row_err Tryz.underlying196 Tryz.underlying198 rfl rfl Tryz.underlying9 (by kernel_rfl) (by kernel_rfl)
    exact ⟨_, _, h⟩
  · have h3 := hL.tail.tail
    rw [pow_data] at h3
    exact Lib.tabIs_of_head Nm.gPow tPow Tryz.underlying192 Tryz.underlying169 (by kernel_rfl) (by kernel_rfl) h3


theorem sized_node {H : Type} {ts : List TypeId} {ds : List (DataW H)} (h : (DataW.weightsEach Tryz.prog ts ds).all (· ≤ reachBytes) = true) {j : Nat} {d : DataW H} (ht : ts[j]? = some 24) (hd : ds[j]? = some d) : ∀ k ∈ d.weights Tryz.prog 24, k ≤ 140737488355328 := by
  intro k hk
  have := of_decide_eq_true (List.all_eq_true.1 h _ (DataW.weights_mem_each ht hd _ hk))
  simp [reachBytes] at this
  omega
end Go.Proofs.YtonelabeflcplaaGreatDoor
namespace Go.Proofs.YtonelabeflcplaaGreatDoor
open Go.RowKit Go.ChangeShapes Go.WideShapes Go.Deep
set_option maxRecDepth 100000

theorem bulk_part {H : Type} {d : DataW H} {l : List (DataW H)} (h : d ∈ l) : Rows.uptoBulk d ≤ Rows.uptoBulkAll l := by
  induction l with
  | nil => cases h
  | cons x r ih =>
    simp only [Rows.uptoBulkAll]
    cases List.mem_cons.1 h with
    | inl e => subst e; omega
    | inr e => have := ih e; omega

set_option maxHeartbeats 4000000 in
theorem open_nodeU {H : Type} {enc : TypeId × Value → H} {w : World} {base : Nat} {spare : Nat → Bool} {held : Bool} : ∀ (N n : Nat) (cs : List Value) (x : DataW H × List MemPlace), SizeOf.sizeOf x.1 < N →
    DataW.trod enc Tryz.prog w base spare held n 24 cs = some x → ∃ (nd : Nd) (A : Option Addr) (c : Nat), cs = [.int .i64 nd.k, .string nd.t, .string nd.v, .slice A nd.kids.length c] ∧ NAt (fun b _ => b < w.heap.size) w nd A c ∧
      ∀ R, Rows.uptoBulk x.1 ≤ R → okW R nd
  | 0, _, _, _, h, _ => absurd h (Nat.not_lt_zero _)
  | N + 1, n, cs, x, hN, h => by
    obtain ⟨ys, m, _, hy, hl, hyl, hf⟩ := DataW.trod_struct Tryz.underlying24 h
    have hC : Tryz.prog.cellsOf 24 = 4 := by kernel_rfl
    have hi : Tryz.prog.cellsOf 3 = 1 := by kernel_rfl
    have hs : Tryz.prog.cellsOf 9 = 1 := by kernel_rfl
    have hk : Tryz.prog.cellsOf 22 = 1 := by kernel_rfl
    rw [hC] at hl
    match cs, hl with
    | [c0, c1, c2, c3], _ =>
      match ys, hyl with
      | [y0, y1, y2, y3], _ =>
        have f0 := hf 0 _ rfl
        have f1 := hf 1 _ rfl
        have f2 := hf 2 _ rfl
        have f3 := hf 3 _ rfl
        simp [hi, hs, hk] at f0 f1 f2 f3
        obtain ⟨a, ha, e0, hw⟩ := DataW.trod_int Tryz.underlying3 f0
        obtain ⟨b, hb, e1, _⟩ := DataW.trod_string Tryz.underlying9 f1
        obtain ⟨c, hc, e2, _⟩ := DataW.trod_string Tryz.underlying9 f2
        cases ha
        cases hb
        cases hc
        simp [Lit.wf, IntKind.min, IntKind.max, IntKind.signed, IntKind.bits] at hw
        have hW : ∀ R, Rows.uptoBulk x.1 ≤ R → b.size ≤ R ∧ c.size ≤ R ∧ Rows.uptoBulk y3.1 ≤ R := by
          intro R hR
          rw [hy] at hR
          simp [Rows.uptoBulk, Rows.uptoBulkAll, e0, e1, e2] at hR
          exact ⟨by omega, by omega, by omega⟩
        rcases open_slice Tryz.underlying22 f3 with ⟨hcs, hx3⟩ | ⟨ad, len, cap, mm, kk, D, Pl, hcs, hbb, hl, hm, hmm, hx, hi⟩
        · cases hcs
          exact ⟨.mk a b c [], none, 0, rfl, NAt.leaf _ _ _ _ _ _, fun R hR => by
            obtain ⟨h1, h2, _⟩ := hW R hR
            simp only [okW, okWL]
            exact ⟨⟨by omega, by omega, h1, h2⟩, trivial⟩⟩
        · cases hcs
          have hlm : len ≤ mm := by rw [hmm]; split <;> omega
          have hsz : ∀ i, i < len → SizeOf.sizeOf (D i) < N := fun i hi => by
            have h1 : D i ∈ (List.range len).map D := List.mem_map.2 ⟨i, List.mem_range.2 hi, rfl⟩
            have h2 := List.sizeOf_lt_of_mem h1
            have h3 : SizeOf.sizeOf y3.1 < SizeOf.sizeOf x.1 := by
              rw [hy]
              simp
              omega
            rw [hx] at h3
            simp at h3
            omega
          obtain ⟨V, hV⟩ := choose_lt (α := Nd × Option Addr × Nat) (n := len) (p := fun i q => (∀ j u, [Value.int .i64 q.1.k, .string q.1.t, .string q.1.v, .slice q.2.1 q.1.kids.length q.2.2][j]? = some u → w.cell? ((ad.add (i * 4)).add j) = some u) ∧ NAt (fun b _ => b < w.heap.size) w q.1 q.2.1 q.2.2 ∧ ∀ R, Rows.uptoBulk (D i) ≤ R → okW R q.1) (fun i him => by
            obtain ⟨cs', h1, h2⟩ := hi i (by omega)
            rw [hC] at h1
            obtain ⟨_, hlen, hc⟩ := World.cells?_some h1
            obtain ⟨nd, A, c', rfl, hN', hR'⟩ := open_nodeU N kk cs' (D i, Pl i) (hsz i him) h2
            refine ⟨(nd, A, c'), fun j u hu => ?_, hN', hR'⟩
            have hj : j < 4 := by
              have := (List.getElem?_eq_some_iff.1 hu).1
              simpa using this
            rw [hc j hj, hu])
          refine ⟨.mk a b c ((List.range len).map fun i => (V i).1), some ad, cap, by simp [Nd.k, Nd.t, Nd.v, Nd.kids], ?_, fun R hR => ?_⟩
          · rw [NAt.def_]
            simp only [Nd.kids, List.length_map, List.length_range]
            refine ⟨hl, hm, fun hp => ?_⟩
            have h0 := (hV 0 hp).1 0 _ rfl
            have hs' := World.cell?_spot h0
            obtain ⟨bb, oo, sp⟩ := ad
            obtain rfl : sp = none := by simpa [Addr.add] using hs'
            simp only [addr_addW] at h0
            refine ⟨bb, oo, rfl, cell_lt h0, fun j hj => ?_⟩
            simp only [List.getElem_map, List.getElem_range]
            obtain ⟨hc, hn, _⟩ := hV j hj
            simp only [addr_addW] at hc
            exact ⟨(V j).2.1, (V j).2.2, hc 0 _ rfl, hc 1 _ rfl, hc 2 _ rfl, hc 3 _ rfl, hn⟩
          · obtain ⟨h1, h2, h3⟩ := hW R hR
            simp only [okW]
            refine ⟨⟨by omega, by omega, h1, h2⟩, okWL_mem.2 fun nd hnd => ?_⟩
            obtain ⟨i, hi', rfl⟩ := List.mem_map.1 hnd
            have hi' := List.mem_range.1 hi'
            refine (hV i hi').2.2 R ?_
            have hb : Rows.uptoBulk (D i) ≤ Rows.uptoBulkAll ((List.range len).map D) := bulk_part (List.mem_map.2 ⟨i, List.mem_range.2 hi', rfl⟩)
            rw [hx] at h3
            simp only [Rows.uptoBulk] at h3
            omega
end Go.Proofs.YtonelabeflcplaaGreatDoor

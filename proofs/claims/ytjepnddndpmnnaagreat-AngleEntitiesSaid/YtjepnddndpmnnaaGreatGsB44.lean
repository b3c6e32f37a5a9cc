/-
  The walk of AngleEntities.
  A table for the walks that ask for one: the library's own.
-/
import Derived.Test.YtjepnddndpmnnaaGreatGsB43
import Derived.Test.YtjepnddndpmnnaaGreatGsB37
import Derived.Test.YtjepnddndpmnnaaGreatGsB40
import Derived.Lib.ConvBytes
import Derived.Test.YtjepnddndpmnnaaGreatRows
import Derived.Test.YtjepnddndpmnnaaGreatGsB02
import Derived.Lib.LaidTab
namespace Go.Proofs.YtjepnddndpmnnaaGreat
open Go.RowKit Go.Maps
set_option maxRecDepth 100000
set_option linter.unusedSimpArgs false
set_option linter.unusedVariables false
set_option linter.unusedSectionVars false
variable [Tab] [Fo]

def mayPb (b : UInt8) : Bool := decide (32 ≤ b.toNat) && (decide (b.toNat ≠ 60) && (decide (b.toNat ≠ 38) && decide (b.toNat ≠ 34)))
def ownQ (bs : List UInt8) (k : Nat) : List UInt8 := (bs.take k).filter mayPb
theorem ownQ_len (bs : List UInt8) (k : Nat) : (ownQ bs k).length ≤ k := Nat.le_trans (List.length_filter_le _ _) (List.length_take_le _ _)
theorem ownQ_may (bs : List UInt8) (k : Nat) : ∀ b ∈ ownQ bs k, PlB b := by
  intro b hb
  have := (List.mem_filter.1 hb).2
  simp [mayPb] at this
  exact ⟨this.1, this.2.1, this.2.2.1, this.2.2.2⟩
theorem ownQ_yes {bs : List UInt8} {k : Nat} (h : k < bs.length) (hm : mayPb bs[k] = true) : ownQ bs (k + 1) = ownQ bs k ++ [bs[k]] := by
  unfold ownQ
  rw [List.take_succ_eq_append_getElem h, List.filter_append]
  simp [List.filter, hm]
theorem ownQ_no {bs : List UInt8} {k : Nat} (h : k < bs.length) (hm : mayPb bs[k] = false) : ownQ bs (k + 1) = ownQ bs k := by
  unfold ownQ
  rw [List.take_succ_eq_append_getElem h, List.filter_append]
  simp [List.filter, hm]
theorem below_bytes (w : World) (e : TypeId) (s : ByteArray) : Below w.heap.size w (Lib.bytesWorld w e s) :=
  ⟨rfl, rfl, rfl, by rw [Lib.bytesWorld_size]; omega, fun k hk => Lib.bytesWorld_at_old w e s k hk⟩
theorem bread_bytes (w : World) (e : TypeId) (s : ByteArray) (c : Nat) (l : List UInt8) (hl : s.data.toList = l) : BRead (Lib.bytesWorld w e s) (.slice (some ⟨w.heap.size, 0, none⟩) s.size c) l := by
  subst hl
  refine ⟨some ⟨w.heap.size, 0, none⟩, c, by simp, fun _ => ⟨_, rfl, fun j hj => ?_⟩⟩
  rw [addr_add0]
  have hj' : j < s.size := by simpa using hj
  rw [Lib.bytesWorld_cell w e s j hj', List.getD_eq_getElem?_getD, List.getElem?_eq_getElem hj]
  rfl

set_option maxHeartbeats 8000000 in
theorem walk_AngleEntities (v0 : Value) (bs : List UInt8) (_hlen : bs.length ≤ 140737488355328) (w : World) (hfl : Fo.lim ≤ w.heap.size) (h0 : BRead w v0 bs) :
    Calls Tryz.prog 7 #[v0] w fun e w' => e = .returned (.bool true) ∧ Below w.heap.size w w' := by
  obtain ⟨A, c, rfl, hA⟩ := h0
  go_enter Tryz.func7, Tryz.ntmps7
  go_wp2
  go_loopw [3, 4] (fun v i wr => ∃ k : Nat, k ≤ bs.length ∧ k ≤ 40 ∧ i = .int .i64 k ∧ ORow wr w.heap.size 5 v ((ownQ bs k).map bV) ∧ Hid (Below w.heap.size w wr)) (fun _ i _ => 40 - (intOf i).toNat)
  case atStart => exact ⟨0, Nat.zero_le _, Nat.zero_le _, rfl, ORow.nil _ _ _, Lib.hid (Below.refl _ _)⟩
  case round =>
    obtain ⟨k, hk, hk40, rfl, hown, HB⟩ := hrel
    have hol := ownQ_len bs k
    by_cases hlt : k < bs.length ∧ k < 40
    · obtain ⟨hlt, h40⟩ := hlt
      obtain ⟨ad, rfl, hc⟩ := hA (by omega)
      have hck : wr.cell? (ad.add k) = some (.int .u8 (bs[k].toNat : Int)) := (HB.out.cell (cell_lt (hc k hlt))).trans (hc k hlt)
      have hki : (k : Int) < bs.length := by omega
      have hki4 : (k : Int) < 40 := by omega
      have hle := byte_le bs[k]
      have HY := Lib.hid (fun h => ownQ_yes (bs := bs) hlt h)
      have HN := Lib.hid (fun h => ownQ_no (bs := bs) hlt h)
      have hm : mayPb bs[k] = (decide (32 ≤ bs[k].toNat) && (decide (bs[k].toNat ≠ 60) && (decide (bs[k].toNat ≠ 38) && decide (bs[k].toNat ≠ 34)))) := rfl
      generalize bs[k] = b at *
      have hcase : (mayPb b = false ∧ (b.toNat : Int) < 32) ∨ (mayPb b = false ∧ (b.toNat : Int) = 60) ∨ (mayPb b = false ∧ (b.toNat : Int) = 38) ∨ (mayPb b = false ∧ (b.toNat : Int) = 34) ∨ (mayPb b = true ∧ (32 : Int) ≤ b.toNat ∧ ((b.toNat : Int) == 60) = false ∧ ((b.toNat : Int) == 38) = false ∧ ((b.toNat : Int) == 34) = false) := by
        by_cases h1 : b.toNat < 32
        · exact .inl ⟨by rw [hm, decide_eq_false (by omega)]; rfl, by omega⟩
        · by_cases h2 : b.toNat = 60
          · exact .inr (.inl ⟨by rw [hm, decide_eq_true (by omega), decide_eq_false (by omega)]; rfl, by omega⟩)
          · by_cases h3 : b.toNat = 38
            · exact .inr (.inr (.inl ⟨by rw [hm, decide_eq_true (by omega), decide_eq_true (by omega), decide_eq_false (by omega)]; rfl, by omega⟩))
            · by_cases h4 : b.toNat = 34
              · exact .inr (.inr (.inr (.inl ⟨by rw [hm, decide_eq_true (by omega), decide_eq_true (by omega), decide_eq_true (by omega), decide_eq_false (by omega)]; rfl, by omega⟩)))
              · exact .inr (.inr (.inr (.inr ⟨by rw [hm, decide_eq_true (by omega), decide_eq_true (by omega), decide_eq_true (by omega), decide_eq_true (by omega)]; rfl, by omega, by rw [beq_eq_false_iff_ne]; omega, by rw [beq_eq_false_iff_ne]; omega, by rw [beq_eq_false_iff_ne]; omega⟩)))
      clear hm hc hA
      obtain ⟨bi, hbi⟩ : ∃ bi : Int, (b.toNat : Int) = bi := ⟨_, rfl⟩
      rw [hbi] at hck hle hcase
      have HBi := Lib.hid hbi
      clear hbi
      rcases hcase with ⟨hm, h1⟩ | ⟨hm, rfl⟩ | ⟨hm, rfl⟩ | ⟨hm, rfl⟩ | ⟨hm, h1, z60, z38, z34⟩
      · have hN := HN.out hm
        have HN2 := Lib.hid hN
        have zz : decide ((32 : Int) ≤ bi) = false := by simp; omega
        clear hm HY HN hN
        go_wp2
        go_roundw
        case rel => exact ⟨k + 1, by omega, by omega, by go_num, by rw [HN2.out]; exact hown, HB⟩
        case measure => first | (simp [intOf]; done) | (simp [intOf]; omega)
      · have hN := HN.out hm
        have HN2 := Lib.hid hN
        clear hm HY HN hN
        go_wp2
        go_roundw
        case rel => exact ⟨k + 1, by omega, by omega, by go_num, by rw [HN2.out]; exact hown, HB⟩
        case measure => first | (simp [intOf]; done) | (simp [intOf]; omega)
      · have hN := HN.out hm
        have HN2 := Lib.hid hN
        clear hm HY HN hN
        go_wp2
        go_roundw
        case rel => exact ⟨k + 1, by omega, by omega, by go_num, by rw [HN2.out]; exact hown, HB⟩
        case measure => first | (simp [intOf]; done) | (simp [intOf]; omega)
      · have hN := HN.out hm
        have HN2 := Lib.hid hN
        clear hm HY HN hN
        go_wp2
        go_roundw
        case rel => exact ⟨k + 1, by omega, by omega, by go_num, by rw [HN2.out]; exact hown, HB⟩
        case measure => first | (simp [intOf]; done) | (simp [intOf]; omega)
      · have hN := HY.out hm
        have HN2 := Lib.hid hN
        have zz : decide ((32 : Int) ≤ bi) = true := by simp; omega
        have hbs := HB.out.size
        have zb60 : (bi != 60) = true := by simp [bne, z60]
        have n60 : ¬ bi = 60 := by rw [beq_eq_false_iff_ne] at z60; exact z60
        have zb38 : (bi != 38) = true := by simp [bne, z38]
        have n38 : ¬ bi = 38 := by rw [beq_eq_false_iff_ne] at z38; exact z38
        have zb34 : (bi != 34) = true := by simp [bne, z34]
        have n34 : ¬ bi = 34 := by rw [beq_eq_false_iff_ne] at z34; exact z34
        clear hm HY HN hN
        generalize hQ : ownQ bs k = q at *
        have HQ := Lib.hid hQ
        clear hQ
        go_wp2_with (first
          | (at_builtin; refine wp_app1b rfl _ _ 22 rfl w.heap.size 5 (.int .u8 0) 1 Tryz.underlying22 Tryz.info5 rfl _ _ _ rfl (by exact hown) rfl _ rfl (by simp [maxLen] <;> omega) (by simp <;> omega) hbs ?_; intro v2 w2 hown2 hb2))
        go_roundw
        case rel =>
          refine ⟨k + 1, by omega, by omega, by go_num, ?_, Lib.hid (HB.out.trans hb2)⟩
          rw [HN2.out, List.map_append]
          have hbv : [b].map bV = [.int .u8 bi] := by simp only [List.map_cons, List.map_nil, bV]; rw [HBi.out]
          rw [hbv]
          exact hown2
        case measure => first | (simp [intOf]; done) | (simp [intOf]; omega)
    · obtain ⟨q, hQ⟩ : ∃ q, ownQ bs k = q := ⟨_, rfl⟩
      have hq40 : q.length ≤ 40 := by rw [← hQ]; omega
      have hqm : ∀ b ∈ q, PlB b := by rw [← hQ]; exact ownQ_may bs k
      rw [hQ] at hown
      have hz : ¬ k < bs.length ∨ (k < bs.length ∧ k = 40) := by
        by_cases h1 : k < bs.length
        · exact .inr ⟨h1, by omega⟩
        · exact .inl h1
      have hP := feed_txt1 q hqm (by omega)
      have hT := feed_txt2 q hqm (by omega)
      have HP := Lib.hid (And.intro hP hT)
      have hqs : ∀ W, Below wr.heap.size wr W → (convert 22 9 u3).run Tryz.prog W = .ok (.string ⟨q.toArray⟩) W := fun W h => str_of_read (P := Tryz.prog) (w := W) 22 9 5 Tryz.underlying22 Tryz.underlying5 Tryz.underlying9 ((BRead.of_row hown).below h)
      have HQS := Lib.hid hqs
      obtain ⟨S1, hS1⟩ : ∃ S1, (((⟨#[60, 97, 32, 107, 61, 34]⟩ ++ ⟨q.toArray⟩ : ByteArray) ++ ⟨#[34, 62]⟩) ++ ⟨q.toArray⟩) ++ ⟨#[60, 47, 97, 62]⟩ = S1 := ⟨_, rfl⟩
      obtain ⟨S2, hS2⟩ : ∃ S2, (⟨#[60, 33, 69, 78, 84, 73, 84, 89, 32, 101, 32, 34]⟩ ++ ⟨q.toArray⟩ : ByteArray) ++ ⟨#[34, 62, 60, 97, 32, 107, 61, 34, 38, 101, 59, 34, 62, 38, 101, 59, 60, 47, 97, 62]⟩ = S2 := ⟨_, rfl⟩
      have t1 : S1.data.toList = txt1 q := by rw [← hS1]; simp [txt1, pre1]
      have t2 : S2.data.toList = txt2 q := by rw [← hS2]; simp [txt2, pre2, pre1]
      have HT := Lib.hid (And.intro t1 t2)
      have HLn := Lib.hid hq40
      have hcv := hqs wr (Below.refl _ _)
      have hx1 := Lib.run_convert_string_bytes (P := Tryz.prog) wr 9 22 5 S1 Tryz.underlying9 Tryz.underlying22 Tryz.underlying5
      have hb1 := below_bytes wr 5 S1
      have hr1 := bread_bytes wr 5 S1 (grownCap wr S1.size 0 5) (txt1 q) t1
      generalize Lib.bytesWorld wr 5 S1 = W1 at *
      generalize grownCap wr S1.size 0 5 = g1 at *
      have HB1 := Lib.hid (HB.out.trans (hb1.mono HB.out.size))
      have HD1 := Lib.hid (adecode_any W1 _ (txt1 q) (by simp [txt1, pre1]; omega) hr1 (Nat.le_trans hfl HB1.out.size))
      have HW1 := Lib.hid hb1
      clear hlt hA hqs hown hol hqm hP hT t1 t2 hr1 hb1 hQ
      rcases hz with hz | ⟨hz, rfl⟩
      all_goals
        go_wp2_with fail
        refine HD1.out.mono ?_
        rintro e w2 ⟨lv1, rfl, hRow1, hb2⟩
        have HRow1 := Lib.hid hRow1
        have HW2 := Lib.hid (HW1.out.trans (hb2.mono HW1.out.size))
        have HB2 := Lib.hid (HB.out.trans (HW2.out.mono HB.out.size))
        have hx2 := Lib.run_convert_string_bytes (P := Tryz.prog) w2 9 22 5 S2 Tryz.underlying9 Tryz.underlying22 Tryz.underlying5
        have hb3 := below_bytes w2 5 S2
        have hr2 := bread_bytes w2 5 S2 (grownCap w2 S2.size 0 5) (txt2 q) HT.out.2
        generalize Lib.bytesWorld w2 5 S2 = W3 at *
        generalize grownCap w2 S2.size 0 5 = g2 at *
        have HW3 := Lib.hid (HW2.out.trans (hb3.mono HW2.out.size))
        have HB3 := Lib.hid (HB2.out.trans (hb3.mono HB2.out.size))
        have HD2 := Lib.hid (adecode_any W3 _ (txt2 q) (by have := HLn.out; simp [txt2, pre2, pre1]; omega) hr2 (Nat.le_trans hfl HB3.out.size))
        have HRow2 := Lib.hid (hRow1.below hb3)
        clear hRow1 hb2 hb3 hr2 HRow1 hcv hx1 HD1
        go_wp2_with fail
        refine HD2.out.mono ?_
        rintro e w4 ⟨lv2, rfl, hRow4, hb4⟩
        have HRow4 := Lib.hid hRow4
        have HRow3 := Lib.hid (HRow2.out.below hb4)
        have HW4 := Lib.hid (HW3.out.trans (hb4.mono HW3.out.size))
        have HB4 := Lib.hid (HB3.out.trans (hb4.mono HB3.out.size))
        clear hRow4 hb4 HD2 HRow2 hx2
        cases hv : (runesL q).isSome with
        | false =>
          have he1 := HP.out.1.2 hv
          have he2 := HP.out.2.2 hv
          rw [he1, he2]
          have HL := Lib.hid (lives_G w4 (Nat.le_trans hfl HB4.out.size))
          clear he1 he2 hv
          go_wp2_with fail
          refine HL.out.mono ?_
          rintro e w5 ⟨rfl, hb5⟩
          have HB5 := Lib.hid (HB4.out.trans (hb5.mono HB4.out.size))
          clear hb5
          go_wp2
          go_ret
          exact ⟨rfl, HB5.out⟩
        | true =>
          obtain ⟨he1, hl1⟩ := HP.out.1.1 hv
          obtain ⟨he2, hl2⟩ := HP.out.2.1 hv
          have hr3 := HRow3.out
          have hr4 := HRow4.out
          rw [hl1] at hr3
          rw [hl2] at hr4
          have hS := esame_any w4 lv1 lv2 (evA q ++ evT q) (evA q ++ evT q) hr3.read hr4.read
          rw [decide_eq_true rfl] at hS
          rw [he1, he2]
          have HS := Lib.hid hS
          clear he1 he2 hl1 hl2 hr3 hr4 hS hv
          go_wp2_with fail
          refine HS.out.mono ?_
          rintro e w5 ⟨rfl, hb5⟩
          have HB5 := Lib.hid (HB4.out.trans (hb5.mono HB4.out.size))
          have HL := Lib.hid (lives_G w5 (Nat.le_trans hfl HB5.out.size))
          clear hb5 HS
          go_wp2_with fail
          refine HL.out.mono ?_
          rintro e w6 ⟨rfl, hb6⟩
          have HB6 := Lib.hid (HB5.out.trans (hb6.mono HB5.out.size))
          clear hb6
          go_wp2
          go_ret
          exact ⟨rfl, HB6.out⟩
end Go.Proofs.YtjepnddndpmnnaaGreat
namespace Go.Proofs.YtjepnddndpmnnaaGreat
open Go.RowKit
@[reducible] def tab0 : Tab := ⟨Lib.pow10Tab, by unfold okTab; decide +kernel⟩
end Go.Proofs.YtjepnddndpmnnaaGreat

/-
  The walk of EntitiesTells.
-/
import Derived.Test.YtmbjeagmnjkemaaEtV
namespace Go.Proofs.Ytmbjeagmnjkemaa
open Go.RowKit Go.Maps
set_option maxRecDepth 100000
set_option linter.unusedSimpArgs false
set_option linter.unusedVariables false
set_option linter.unusedSectionVars false
variable [Fo]

/-- What is told of the one that was defined, the k-th time. -/
def onesE (n t : List UInt8) : EnL := [(n, t)]
theorem ones_get {n t : List UInt8} (h : fourE n = none) (k : Nat) : getE (onesE n t) k n = if 40 ≤ k then ⟨[], 13, k⟩ else ⟨t, 0, k + 1⟩ := by
  unfold getE onesE
  rw [h]
  simp [findE]
theorem def_ones {n t : List UInt8} (h : defC [] n t = 0) : defE [] n t = onesE n t ∧ localL n = true ∧ fourE n = none := by
  refine ⟨by unfold defE; rw [if_pos h]; rfl, ?_, ?_⟩
  · cases hl : localL n with
    | true => rfl
    | false => unfold defC at h; rw [if_pos hl] at h; cases h
  · cases h4 : fourE n with
    | none => rfl
    | some x =>
      unfold defC at h
      rw [h4] at h
      split at h
      · cases h
      · split at h
        · cases h
        · simp at h

theorem def_range (L : EnL) (n t : List UInt8) : 0 ≤ defC L n t ∧ defC L n t ≤ 15 := by
  unfold defC
  repeat' split
  all_goals omega

theorem app_bytes (a b : ByteArray) : (⟨(a.data.toList ++ b.data.toList).toArray⟩ : ByteArray) = a ++ b := by
  apply ByteArray.ext
  simp
theorem ref_bytes (fr name : ByteArray) : (((fr ++ (⟨#[38]⟩ : ByteArray)) ++ name) ++ (⟨#[59]⟩ : ByteArray)).data.toList = fr.data.toList ++ 38 :: (name.data.toList ++ [59]) := by
  simp
theorem tells_yes {n t fr : List UInt8} {k : Nat} (h4 : fourE n = none) (hl : localL n = true) (hf : ∀ c ∈ fr, c ≠ 38) (hk : k < 40) :
    fillL (onesE n t) (fr ++ 38 :: (n ++ [59])) k = ⟨fr ++ t, 0, fr.length + 1 + n.length + 1, k + 1⟩ := by
  rw [fill_tells _ _ _ _ hf hl, ones_get h4, if_neg (show ¬ 40 ≤ k by omega)]
  simp
theorem tells_no {n t fr : List UInt8} {k : Nat} (h4 : fourE n = none) (hl : localL n = true) (hf : ∀ c ∈ fr, c ≠ 38) (hk : 40 ≤ k) :
    fillL (onesE n t) (fr ++ 38 :: (n ++ [59])) k = ⟨[], 13, fr.length + 1 + n.length, k⟩ := by
  rw [fill_tells _ _ _ _ hf hl, ones_get h4, if_pos hk]
  simp

set_option maxHeartbeats 8000000 in
theorem walk_EntitiesTells (name : ByteArray) (hn : name.size ≤ 140737488355328) (text : ByteArray) (ht : text.size ≤ 140737488355328) (front : ByteArray) (hf : front.size ≤ 140737488355328) (w : World) :
    Calls Try.prog 5 #[.string name, .string text, .string front] w fun e w' => e = .returned (.bool true) ∧ Below w.heap.size w w' := by
  obtain ⟨D, hD⟩ : ∃ D, defC [] name.data.toList text.data.toList = D := ⟨_, rfl⟩
  have HD := Lib.hid hD
  by_cases h0 : D = 0
  · subst h0
    obtain ⟨hE, hlo, h4⟩ := def_ones hD
    have HE := Lib.hid hE
    have HLo := Lib.hid hlo
    have H4 := Lib.hid h4
    have h16 := local_len hlo
    have hns : name.data.toList.length = name.size := by simp
    have hts : text.size ≤ 200 := by
      have := def_size (L := []) (n := name.data.toList) (t := text.data.toList) (by decide)
      rw [hE] at this
      simp [onesE, sizeE] at this
      omega
    have hn16 : name.size ≤ 16 := by omega
    clear hD hE hlo h4
    go_enter Try.func5, Try.ntmps5
    go_wp2_with (first
      | (go_at_call 7; refine (enew_any _).mono ?_; rintro x w1 ⟨e, mb, rfl, he, hm, h1, hb1⟩)
      | (go_at_call 15; refine (edefine_any _ e mb _ _ _ _ h1 hn ht).mono ?_; rw [HD.out, HE.out]; rintro x w2 ⟨rfl, h2, t2⟩; have hb2 := hb1.trans (t2.below hb1.size he hm)))
    all_goals
      first
        | (have hfr : (front.extract 0 100).size ≤ 100 := (by rw [ByteArray.size_extract]; omega)
           obtain ⟨fr, hfq⟩ : ∃ fr, front.extract 0 100 = fr := ⟨_, rfl⟩
           rw [hfq] at hfr
           rw [hfq]
           clear hfq)
        | (obtain ⟨fr, hfr, hfq⟩ : ∃ fr, fr.size ≤ 100 ∧ front = fr := ⟨front, by omega, rfl⟩
           rw [hfq]
           clear hfq)
      go_loop [8] (fun i => ∃ k : Nat, k ≤ fr.size ∧ i = .int .i64 k ∧ Hid (∀ j (hj : j < fr.size), j < k → fr[j] ≠ 38)) (fun i => fr.size - (intOf i).toNat)
      case atStart => exact ⟨0, Nat.zero_le _, rfl, Lib.hid fun j _ hj => absurd hj (by omega)⟩
      case round =>
      obtain ⟨k, hk, rfl, HN⟩ := hrel
      by_cases hlt : k < fr.size
      · have hle := byte_le fr[k]
        by_cases h38 : fr[k] = 38
        · have z0 : (fr[k].toNat : Int) = 38 := by rw [h38]; rfl
          have z1 : ((fr[k].toNat : Int) == 38) = true := by simp [z0]
          clear h38 z0
          go_wp2_with (first
            | (go_at_call 13; refine (lives13_any _).mono ?_; rintro x w5 ⟨rfl, hb5⟩))
          go_ret
          exact ⟨rfl, hb2.trans (hb5.mono hb2.size)⟩
        · have hnn : ¬ (fr[k].toNat : Int) = 38 := fun e => h38 (by apply UInt8.toNat_inj.1; rw [show (38 : UInt8).toNat = 38 from rfl]; omega)
          have z1 : ((fr[k].toNat : Int) == 38) = false := by simpa using hnn
          have H38 := Lib.hid h38
          clear h38 hnn
          go_wp2
          go_round
          case rel =>
            refine ⟨k + 1, hlt, by go_num, Lib.hid fun j hj hjk => ?_⟩
            by_cases hjk' : j < k
            · exact HN.out j hj hjk'
            · obtain rfl : j = k := by omega
              exact H38.out
          case measure => first | (simp [intOf]; done) | (simp [intOf]; omega)
      · have HFr := Lib.hid (show ∀ c ∈ fr.data.toList, c ≠ 38 by
          intro c hc
          obtain ⟨j, hj, rfl⟩ := List.getElem_of_mem hc
          have hj' : j < fr.size := by simpa using hj
          have := HN.out j hj' (by omega)
          simpa [ByteArray.getElem_eq_getElem_data] using this)
        have hns2 : ¬ (k : Int) < (fr.size : Int) := by omega
        have h4' := H4.out
        clear hlt hk HN
        go_wp2
        go_loopw [9] (fun i wr => ∃ (q T : Nat), q ≤ 45 ∧ i = .int .i64 q ∧ Hid (T = min q 40) ∧ EAt wr e mb (onesE name.data.toList text.data.toList) T ∧ Below w.heap.size w wr) (fun i _ => 45 - (intOf i).toNat)
        case atStart => exact ⟨0, 0, Nat.zero_le _, rfl, Lib.hid rfl, h2, hb2⟩
        case round =>
        obtain ⟨q, T, hq, rfl, HT, hs, hb⟩ := hrel
        clear h1 hb1 h2 hb2 t2 h4'
        by_cases hq45 : q < 45
        · obtain ⟨P, hP⟩ : ∃ P : Int, (q : Int) % 2 = P := ⟨_, rfl⟩
          have hP2 : P = 0 ∨ P = 1 := by omega
          have e2 : (0 : Int) ≤ (q : Int) := by omega
          have e3 : ((q : Int)).tmod 2 = P := by rw [Int.tmod_eq_emod_of_nonneg e2, hP]
          have hq45' : (q : Int) < 45 := by omega
          clear hP
          by_cases h40 : q < 40
          · have h40' : ¬ (40 : Int) ≤ (q : Int) := by omega
            have hTq : T = q := by have := HT.out; omega
            have hT40 : ¬ 40 ≤ T := by omega
            have HT1 := Lib.hid (show T + 1 = min (q + 1) 40 by omega)
            rcases hP2 with rfl | rfl
            · have HG := Lib.hid (show getE (onesE name.data.toList text.data.toList) T name.data.toList = ⟨text.data.toList, 0, T + 1⟩ by rw [ones_get H4.out, if_neg hT40])
              clear HT hTq hT40 h40
              go_wp2_with (first
                | (go_at_call 16; refine (eget_any _ e mb _ _ name hs hn).mono ?_; rw [HG.out]; rintro x w3 ⟨rfl, hs3, t3⟩; have hb3 := hb.trans (t3.below hb.size he hm)))
              go_roundw
              case rel => exact ⟨q + 1, T + 1, by omega, by go_num, HT1, hs3, hb3⟩
              case measure => first | (simp [intOf]; done) | (simp [intOf]; omega)
            · have hbsz : (((fr ++ (⟨#[38]⟩ : ByteArray)) ++ name) ++ (⟨#[59]⟩ : ByteArray)).size ≤ 100000000 := by
                rw [ByteArray.size_append, ByteArray.size_append, ByteArray.size_append]
                have a1 : (⟨#[38]⟩ : ByteArray).size = 1 := rfl
                have a2 : (⟨#[59]⟩ : ByteArray).size = 1 := rfl
                omega
              have HG := Lib.hid (show fillL (onesE name.data.toList text.data.toList) (((fr ++ (⟨#[38]⟩ : ByteArray)) ++ name) ++ (⟨#[59]⟩ : ByteArray)).data.toList T = ⟨fr.data.toList ++ text.data.toList, 0, fr.data.toList.length + 1 + name.data.toList.length + 1, T + 1⟩ by rw [ref_bytes]; exact tells_yes H4.out HLo.out HFr.out (by omega))
              clear HT hTq hT40 h40
              go_wp2_with (first
                | (go_at_call 14; refine (efill_any _ e mb _ _ (((fr ++ (⟨#[38]⟩ : ByteArray)) ++ name) ++ (⟨#[59]⟩ : ByteArray)) hs hbsz).mono ?_; rw [HG.out]; simp only; rw [app_bytes]; rintro x w3 ⟨rfl, hs3, t3⟩; have hb3 := hb.trans (t3.below hb.size he hm)))
              go_roundw
              case rel => exact ⟨q + 1, T + 1, by omega, by go_num, HT1, hs3, hb3⟩
              case measure => first | (simp [intOf]; done) | (simp [intOf]; omega)
          · have h40' : (40 : Int) ≤ (q : Int) := by omega
            have hTq : T = 40 := by have := HT.out; omega
            have HT1 := Lib.hid (show T = min (q + 1) 40 by omega)
            rcases hP2 with rfl | rfl
            · have HG := Lib.hid (show getE (onesE name.data.toList text.data.toList) T name.data.toList = ⟨[], 13, T⟩ by rw [ones_get H4.out, if_pos (by omega)])
              clear HT hTq h40
              go_wp2_with (first
                | (go_at_call 16; refine (eget_any _ e mb _ _ name hs hn).mono ?_; rw [HG.out]; rintro x w3 ⟨rfl, hs3, t3⟩; have hb3 := hb.trans (t3.below hb.size he hm)))
              go_roundw
              case rel => exact ⟨q + 1, T, by omega, by go_num, HT1, hs3, hb3⟩
              case measure => first | (simp [intOf]; done) | (simp [intOf]; omega)
            · have hbsz : (((fr ++ (⟨#[38]⟩ : ByteArray)) ++ name) ++ (⟨#[59]⟩ : ByteArray)).size ≤ 100000000 := by
                rw [ByteArray.size_append, ByteArray.size_append, ByteArray.size_append]
                have a1 : (⟨#[38]⟩ : ByteArray).size = 1 := rfl
                have a2 : (⟨#[59]⟩ : ByteArray).size = 1 := rfl
                omega
              have HG := Lib.hid (show fillL (onesE name.data.toList text.data.toList) (((fr ++ (⟨#[38]⟩ : ByteArray)) ++ name) ++ (⟨#[59]⟩ : ByteArray)).data.toList T = ⟨[], 13, fr.data.toList.length + 1 + name.data.toList.length, T⟩ by rw [ref_bytes]; exact tells_no H4.out HLo.out HFr.out (by omega))
              clear HT hTq h40
              go_wp2_with (first
                | (go_at_call 14; refine (efill_any _ e mb _ _ (((fr ++ (⟨#[38]⟩ : ByteArray)) ++ name) ++ (⟨#[59]⟩ : ByteArray)) hs hbsz).mono ?_; rw [HG.out]; rintro x w3 ⟨rfl, hs3, t3⟩; have hb3 := hb.trans (t3.below hb.size he hm)))
              go_roundw
              case rel => exact ⟨q + 1, T, by omega, by go_num, HT1, hs3, hb3⟩
              case measure => first | (simp [intOf]; done) | (simp [intOf]; omega)
        · have hqe : q = 45 := by omega
          have hT4 : T = 40 := by have := HT.out; omega
          subst hqe
          subst hT4
          go_wp2_with (first
            | (go_at_call 12; refine (etold_any _ e mb _ _ hs).mono ?_; rintro x w4 ⟨rfl, rfl⟩)
            | (go_at_call 13; refine (lives13_any _).mono ?_; rintro x w5 ⟨rfl, hb5⟩))
          go_ret
          exact ⟨rfl, hb.trans (hb5.mono hb.size)⟩
  · have d0 : (D == 0) = false := by simpa using h0
    have d1 : (D != 0) = true := by simpa using h0
    clear hD h0
    go_enter Try.func5, Try.ntmps5
    go_wp2_with (first
      | (go_at_call 7; refine (enew_any _).mono ?_; rintro x w1 ⟨e, mb, rfl, he, hm, h1, hb1⟩)
      | (go_at_call 15; refine (edefine_any _ e mb _ _ _ _ h1 hn ht).mono ?_; rw [HD.out]; rintro x w2 ⟨rfl, h2, t2⟩; have hb2 := hb1.trans (t2.below hb1.size he hm))
      | (go_at_call 13; refine (lives13_any _).mono ?_; rintro x w5 ⟨rfl, hb5⟩))
    go_ret
    exact ⟨rfl, hb2.trans (hb5.mono hb2.size)⟩
end Go.Proofs.Ytmbjeagmnjkemaa

/-
  Slices of ints and of bytes that can be read: nil, or their cells at an address.
  The reference's One: the character at the beginning.
  The reference's One where the character has two bytes by its first.
  The reference's One where the character has three bytes by its first.
  The reference's One where the character has four bytes by its first.
  A text stepped through, byte by byte, has characters just if all is whole in the end. No program is read here.
-/
import Derived.Test.YtfciacigamjfkabGreatDmS05
import Derived.Test.YtfciacigamjfkabGreatDmS01
namespace Go.Proofs.YtfciacigamjfkabGreat
open Go.RowKit

def IRead (w : World) (v : Value) (xs : List Int) : Prop := ∃ A c, v = .slice A xs.length c ∧ (0 < xs.length → ∃ ad : Addr, A = some ad ∧ ∀ j (h : j < xs.length), w.cell? (ad.add j) = some (.int .i64 xs[j]))
def BRead (w : World) (v : Value) (xs : List UInt8) : Prop := ∃ A c, v = .slice A xs.length c ∧ (0 < xs.length → ∃ ad : Addr, A = some ad ∧ ∀ j (h : j < xs.length), w.cell? (ad.add j) = some (.int .u8 (xs[j].toNat : Int)))

theorem addr_add0 (g j : Nat) : (⟨g, 0, none⟩ : Addr).add j = ⟨g, j, none⟩ := by unfold Addr.add; split <;> simp_all
theorem IRead.nil (w : World) (c : Nat) : IRead w (.slice none 0 c) [] := ⟨none, c, rfl, fun h => absurd h (by simp)⟩
theorem BRead.nil (w : World) (c : Nat) : BRead w (.slice none 0 c) [] := ⟨none, c, rfl, fun h => absurd h (by simp)⟩
theorem IRead.of_row {w : World} {base : Nat} {e : TypeId} {v : Value} {xs : List Int} (h : ORow w base e v (xs.map iV)) : IRead w v xs := by
  rcases h.form with ⟨rfl, hn⟩ | ⟨g, cap, rfl, _⟩
  · have : xs = [] := by simpa using hn
    subst this
    exact IRead.nil _ _
  · refine ⟨some ⟨g, 0, none⟩, cap, by simp, fun _ => ⟨_, rfl, fun j hj => ?_⟩⟩
    obtain ⟨g', hg, _, _, hc⟩ := h.cell (k := j) (by simpa using hj)
    injection hg with hg
    injection hg with hg
    subst hg
    rw [addr_add0, hc]
    simp [iV]
theorem BRead.of_row {w : World} {base : Nat} {e : TypeId} {v : Value} {xs : List UInt8} (h : ORow w base e v (xs.map bV)) : BRead w v xs := by
  rcases h.form with ⟨rfl, hn⟩ | ⟨g, cap, rfl, _⟩
  · have : xs = [] := by simpa using hn
    subst this
    exact BRead.nil _ _
  · refine ⟨some ⟨g, 0, none⟩, cap, by simp, fun _ => ⟨_, rfl, fun j hj => ?_⟩⟩
    obtain ⟨g', hg, _, _, hc⟩ := h.cell (k := j) (by simpa using hj)
    injection hg with hg
    injection hg with hg
    subst hg
    rw [addr_add0, hc]
    simp [bV]
theorem IRead.of_cells {w : World} {x : Addr} {l c B : Nat} {zs : List Int} (hz : zs.length = c) (hl : l ≤ c) (hcell : ∀ i, i < zs.length → w.cell? (x.add i) = some (.int .i64 (zs.getD i 0))) (_hwz : ∀ n ∈ zs, (Lit.int .i64 n).wf = true) (hB : l ≤ B) :
    ∃ xs : List Int, IRead w (.slice (some x) l c) xs ∧ xs.length ≤ B := by
  have hlen : (zs.take l).length = l := by simp; omega
  refine ⟨zs.take l, ⟨some x, c, by rw [hlen], fun _ => ⟨x, rfl, fun j hj => ?_⟩⟩, by omega⟩
  rw [hcell j (by omega), List.getElem_take]
  simp [List.getD_eq_getElem?_getD, List.getElem?_eq_getElem (show j < zs.length by omega)]
theorem wf_u8 {n : Int} (h : (Lit.int .u8 n).wf = true) : 0 ≤ n ∧ n ≤ 255 := by simpa [Lit.wf, IntKind.min, IntKind.max, IntKind.signed, IntKind.bits] using h
theorem BRead.of_cells {w : World} {x : Addr} {l c B : Nat} {zs : List Int} (hz : zs.length = c) (hl : l ≤ c) (hcell : ∀ i, i < zs.length → w.cell? (x.add i) = some (.int .u8 (zs.getD i 0))) (hwz : ∀ n ∈ zs, (Lit.int .u8 n).wf = true) (hB : l ≤ B) :
    ∃ xs : List UInt8, BRead w (.slice (some x) l c) xs ∧ xs.length ≤ B := by
  have hlen : ((zs.take l).map fun n => UInt8.ofNat n.toNat).length = l := by simp; omega
  refine ⟨(zs.take l).map fun n => UInt8.ofNat n.toNat, ⟨some x, c, by rw [hlen], fun _ => ⟨x, rfl, fun j hj => ?_⟩⟩, by omega⟩
  have hj' : j < zs.length := by omega
  have hw := wf_u8 (hwz zs[j] (List.getElem_mem hj'))
  rw [hcell j hj']
  simp only [List.getElem_map, List.getElem_take]
  have e1 : (UInt8.ofNat (zs[j]).toNat).toNat = (zs[j]).toNat := UInt8.toNat_ofNat_of_lt' (show (zs[j]).toNat < 256 by omega)
  rw [e1, List.getD_eq_getElem?_getD, List.getElem?_eq_getElem hj']
  congr 2
  simp
  omega
theorem IRead.keep {w w' : World} {v : Value} {xs : List Int} (h : IRead w v xs) (hk : ∀ p : Addr, (∃ u, w.cell? p = some u) → w'.cell? p = w.cell? p) : IRead w' v xs := by
  obtain ⟨A, c, hv, hr⟩ := h
  refine ⟨A, c, hv, fun hp => ?_⟩
  obtain ⟨ad, hA, hc⟩ := hr hp
  exact ⟨ad, hA, fun j hj => (hk _ ⟨_, hc j hj⟩).trans (hc j hj)⟩
theorem BRead.keep {w w' : World} {v : Value} {xs : List UInt8} (h : BRead w v xs) (hk : ∀ p : Addr, (∃ u, w.cell? p = some u) → w'.cell? p = w.cell? p) : BRead w' v xs := by
  obtain ⟨A, c, hv, hr⟩ := h
  refine ⟨A, c, hv, fun hp => ?_⟩
  obtain ⟨ad, hA, hc⟩ := hr hp
  exact ⟨ad, hA, fun j hj => (hk _ ⟨_, hc j hj⟩).trans (hc j hj)⟩
theorem cell_lt {w : World} {p : Addr} {u : Value} (h : w.cell? p = some u) : p.block < w.heap.size := by
  rcases Nat.lt_or_ge p.block w.heap.size with hlt | hge
  · exact hlt
  · unfold World.cell? at h
    rw [Array.getElem?_eq_none hge] at h
    simp at h
theorem IRead.below {w w' : World} {v : Value} {xs : List Int} (h : IRead w v xs) (hb : Below w.heap.size w w') : IRead w' v xs :=
  h.keep fun _ ⟨_, hu⟩ => hb.cell (cell_lt hu)
theorem BRead.below {w w' : World} {v : Value} {xs : List UInt8} (h : BRead w v xs) (hb : Below w.heap.size w w') : BRead w' v xs :=
  h.keep fun _ ⟨_, hu⟩ => hb.cell (cell_lt hu)
end Go.Proofs.YtfciacigamjfkabGreat
namespace Go.Proofs.YtfciacigamjfkabGreat
open Go.RowKit
set_option maxRecDepth 100000

theorem bytes_cons (s : ByteArray) (h : 0 < s.size) : s.data.toList = s[0] :: s.data.toList.drop 1 := by
  have : s.data.toList = s.data.toList.drop 0 := rfl
  rw [this, List.drop_eq_getElem_cons (by simpa using h)]
  rfl
theorem bytes_take (s : ByteArray) (k : Nat) (h1 : 1 ≤ k) (h : k < s.size) : (s.data.toList.drop 1).take k = (s.data.toList.drop 1).take (k - 1) ++ [s[k]] := by
  obtain ⟨j, rfl⟩ : ∃ j, k = j + 1 := ⟨k - 1, by omega⟩
  simp only [Nat.add_sub_cancel]
  rw [List.take_succ_eq_append_getElem (by simp; omega)]
  congr 1
  simp [ByteArray.getElem_eq_getElem_data]

def OneEnd (l : List UInt8) (e : Ending) : Prop := e = .returned (.tuple #[.int .i64 (oneL l).1, .int .i64 (oneL l).2])
theorem oneEnd_of {l : List UInt8} {r n : Int} (h : oneL l = (r, n)) : OneEnd l (.returned (.tuple #[.int .i64 r, .int .i64 n])) := by unfold OneEnd; rw [h]

theorem one_0 (s : ByteArray) (w : World) (h : s.size = 0) :
    Calls Tryz.prog 81 #[.string s] w fun e w' => OneEnd s.data.toList e ∧ w = w' := by
  have hl : s.data.toList = [] := List.eq_nil_of_length_eq_zero (by simpa using h)
  have hb : ((s.size : Int) == 0) = true := by simp [h]
  rw [hl]
  clear h hl
  go_enter Tryz.func81, Tryz.ntmps81
  go_wp2
  go_ret2
  exact ⟨oneEnd_of rfl, rfl⟩

theorem one_1 (s : ByteArray) (w : World) (hm : s.size ≤ 140737488355328) (h : 0 < s.size) (hc : (s[0].toNat : Int) < 128) :
    Calls Tryz.prog 81 #[.string s] w fun e w' => OneEnd s.data.toList e ∧ w = w' := by
  have hb : ((s.size : Int) == 0) = false := beq_eq_false_iff_ne.2 (by omega)
  have hone : oneL s.data.toList = ((s[0].toNat : Int), 1) := by rw [bytes_cons s h, oneL, if_pos hc]
  have HO := Lib.hid hone
  clear hone
  go_enter Tryz.func81, Tryz.ntmps81
  go_wp2
  go_ret2
  exact ⟨oneEnd_of HO.out, rfl⟩

theorem one_bad (s : ByteArray) (w : World) (hm : s.size ≤ 140737488355328) (h : 0 < s.size) (hc : 128 ≤ (s[0].toNat : Int)) (hn : (s[0].toNat : Int) < 192 ∨ 248 ≤ (s[0].toNat : Int)) :
    Calls Tryz.prog 81 #[.string s] w fun e w' => OneEnd s.data.toList e ∧ w = w' := by
  have hb : ((s.size : Int) == 0) = false := beq_eq_false_iff_ne.2 (by omega)
  have hone : oneL s.data.toList = (0, 0) := by
    have : leadN (s[0].toNat : Int) = 0 := by unfold leadN; rw [if_neg (by omega), if_neg (by omega), if_neg (by omega)]
    rw [bytes_cons s h, oneL, if_neg (by omega), if_pos (.inl this)]
  have HO := Lib.hid hone
  clear hone
  have hle := byte_le s[0]
  rcases hn with hn | hn
  all_goals
    go_enter Tryz.func81, Tryz.ntmps81
    go_wp2
    go_ret2
    exact ⟨oneEnd_of HO.out, rfl⟩

theorem one_short (s : ByteArray) (w : World) (hm : s.size ≤ 140737488355328) (h : 0 < s.size) (hc : 192 ≤ (s[0].toNat : Int)) (hn : (s[0].toNat : Int) < 248) (hs : (s.size : Int) < leadN s[0].toNat) :
    Calls Tryz.prog 81 #[.string s] w fun e w' => OneEnd s.data.toList e ∧ w = w' := by
  have hb : ((s.size : Int) == 0) = false := beq_eq_false_iff_ne.2 (by omega)
  have hone : oneL s.data.toList = (0, 0) := by
    have hz : ((s.data.toList.drop 1).length : Int) + 1 = s.size := by simp; omega
    rw [bytes_cons s h, oneL, if_neg (by omega), if_pos (.inr (by omega))]
  have HO := Lib.hid hone
  clear hone
  rcases (show ((s[0].toNat : Int) < 224 ∧ (s.size : Int) < 2) ∨ (224 ≤ (s[0].toNat : Int) ∧ (s[0].toNat : Int) < 240 ∧ (s.size : Int) < 3) ∨ (240 ≤ (s[0].toNat : Int) ∧ (s.size : Int) < 4) by
    unfold leadN at hs
    split at hs
    · omega
    · split at hs
      · omega
      · split at hs <;> omega) with ⟨g1, g2⟩ | ⟨g1, g2, g3⟩ | ⟨g1, g2⟩
  all_goals
    clear hs
    go_enter Tryz.func81, Tryz.ntmps81
    go_wp2
    go_ret2
    exact ⟨oneEnd_of HO.out, rfl⟩

end Go.Proofs.YtfciacigamjfkabGreat
namespace Go.Proofs.YtfciacigamjfkabGreat
open Go.RowKit
set_option maxRecDepth 100000

set_option maxHeartbeats 1000000 in
theorem one_2b (s : ByteArray) (w : World) (hm : s.size ≤ 140737488355328) (h : 0 < s.size) (a : 192 ≤ (s[0].toNat : Int)) (b : (s[0].toNat : Int) < 224) (hs : 2 ≤ s.size)
    (hone : oneL s.data.toList = oneFin 2 (tails ((s[0].toNat : Int) - 192) ((s.data.toList.drop 1).take 1))) :
    Calls Tryz.prog 81 #[.string s] w fun e w' => OneEnd s.data.toList e ∧ w = w' := by
  have hb : ((s.size : Int) == 0) = false := beq_eq_false_iff_ne.2 (by omega)
  have HO := Lib.hid hone
  clear hone
  go_enter Tryz.func81, Tryz.ntmps81
  go_wp2
  generalize hV : (s[0].toNat : Int) - 192 = V at *
  have hV0 : 0 ≤ V ∧ V < 64 := by omega
  have HV := Lib.hid hV
  clear hV
  go_loop [6, 7] (fun u i => ∃ (k : Nat) (x : Int), 1 ≤ k ∧ k ≤ 2 ∧ i = .int .i64 k ∧ u = .int .i64 x ∧ 0 ≤ x ∧ x < ((64 ^ k : Nat) : Int) ∧ Hid (tails V ((s.data.toList.drop 1).take (k - 1)) = some x)) (fun _ i => 2 - (intOf i).toNat)
  case atStart => exact ⟨1, V, by omega, by omega, rfl, rfl, hV0.1, hV0.2, Lib.hid rfl⟩
  case round =>
    obtain ⟨k, x, hk1, hk, rfl, rfl, hx0, hx1, HT⟩ := hrel
    by_cases hlt : k < 2
    · have hbt := bytes_take s k hk1 (by omega)
      have hsn := tails_snoc V ((s.data.toList.drop 1).take (k - 1)) s[k]
      rw [← hbt, HT.out] at hsn
      simp only [Option.bind_some] at hsn
      have HS := Lib.hid hsn
      clear hsn hbt
      have hpow : ((64 ^ (k + 1) : Nat) : Int) = 64 * ((64 ^ k : Nat) : Int) := by rw [Nat.pow_succ]; omega
      have hpw := Lib.hid hpow
      clear hpow
      have hp4 : ((64 ^ k : Nat) : Int) ≤ 262144 := by
        have : 64 ^ k ≤ 64 ^ 3 := Nat.pow_le_pow_right (by decide) (by omega)
        omega
      have hle := byte_le s[k]
      by_cases hd : (s[k].toNat : Int) < 128
      · go_wp2
        go_ret2
        have hnone : tails V ((s.data.toList.drop 1).take 1) = none := tails_none_take _ _ k _ (by omega) (by rw [HS.out, if_pos (.inl hd)])
        refine ⟨oneEnd_of ?_, rfl⟩
        rw [HO.out, hnone]; rfl
      by_cases hd2 : (s[k].toNat : Int) < 192
      · have hx2 : x ≤ 262143 := by omega
        go_wp2
        go_round
        case rel => exact ⟨k + 1, 64 * x + (s[k].toNat : Int) - 128, by omega, by omega, by go_num, by first | rfl | go_num, by omega, by rw [hpw.out]; omega, Lib.hid (by rw [Nat.add_sub_cancel, HS.out, if_neg (by omega)])⟩
        case measure => simp [intOf]; omega
      · have hd3 : 192 ≤ (s[k].toNat : Int) := by omega
        go_wp2
        go_ret2
        have hnone : tails V ((s.data.toList.drop 1).take 1) = none := tails_none_take _ _ k _ (by omega) (by rw [HS.out, if_pos (.inr hd3)])
        refine ⟨oneEnd_of ?_, rfl⟩
        rw [HO.out, hnone]; rfl
    · have hkN : k = 2 := by omega
      subst hkN
      have hfin : oneL s.data.toList = oneFin 2 (some x) := by rw [HO.out]; exact congrArg _ HT.out
      clear HO HT
      have HF := Lib.hid hfin
      clear hfin
      by_cases hmy : mayB x = true
      · have HM := Lib.hid hmy
        clear hmy
        by_cases hlg : longI x = 2
        · have hne : (longI x != 2) = false := by simp [hlg]
          have HL := Lib.hid hlg
          clear hlg
          go_wp2_with (first
            | (go_at_call 96; refine (may_any _ _).mono ?_; rintro e w' ⟨rfl, rfl⟩; rw [HM.out])
            | (go_at_call 97; refine (long_any _ _).mono ?_; rintro e w' ⟨rfl, rfl⟩))
          go_ret2
          exact ⟨oneEnd_of (by rw [HF.out]; exact if_pos ⟨HM.out, HL.out⟩), rfl⟩
        · have hne : (longI x != 2) = true := bne_iff_ne.2 hlg
          go_wp2_with (first
            | (go_at_call 96; refine (may_any _ _).mono ?_; rintro e w' ⟨rfl, rfl⟩; rw [HM.out])
            | (go_at_call 97; refine (long_any _ _).mono ?_; rintro e w' ⟨rfl, rfl⟩))
          go_ret2
          exact ⟨oneEnd_of (by rw [HF.out]; exact if_neg (fun h => hlg h.2)), rfl⟩
      · have hmf : mayB x = false := by simpa using hmy
        have HM := Lib.hid hmf
        clear hmf
        have HM2 := Lib.hid hmy
        clear hmy
        go_wp2_with (first
          | (go_at_call 96; refine (may_any _ _).mono ?_; rintro e w' ⟨rfl, rfl⟩; rw [HM.out]))
        go_ret2
        exact ⟨oneEnd_of (by rw [HF.out]; exact if_neg (fun h => HM2.out h.1)), rfl⟩

end Go.Proofs.YtfciacigamjfkabGreat
namespace Go.Proofs.YtfciacigamjfkabGreat
open Go.RowKit
set_option maxRecDepth 100000

set_option maxHeartbeats 1000000 in
theorem one_3b (s : ByteArray) (w : World) (hm : s.size ≤ 140737488355328) (h : 0 < s.size) (a : 224 ≤ (s[0].toNat : Int)) (b : (s[0].toNat : Int) < 240) (hs : 3 ≤ s.size)
    (hone : oneL s.data.toList = oneFin 3 (tails ((s[0].toNat : Int) - 224) ((s.data.toList.drop 1).take 2))) :
    Calls Tryz.prog 81 #[.string s] w fun e w' => OneEnd s.data.toList e ∧ w = w' := by
  have hb : ((s.size : Int) == 0) = false := beq_eq_false_iff_ne.2 (by omega)
  have HO := Lib.hid hone
  clear hone
  go_enter Tryz.func81, Tryz.ntmps81
  go_wp2
  generalize hV : (s[0].toNat : Int) - 224 = V at *
  have hV0 : 0 ≤ V ∧ V < 64 := by omega
  have HV := Lib.hid hV
  clear hV
  go_loop [6, 7] (fun u i => ∃ (k : Nat) (x : Int), 1 ≤ k ∧ k ≤ 3 ∧ i = .int .i64 k ∧ u = .int .i64 x ∧ 0 ≤ x ∧ x < ((64 ^ k : Nat) : Int) ∧ Hid (tails V ((s.data.toList.drop 1).take (k - 1)) = some x)) (fun _ i => 3 - (intOf i).toNat)
  case atStart => exact ⟨1, V, by omega, by omega, rfl, rfl, hV0.1, hV0.2, Lib.hid rfl⟩
  case round =>
    obtain ⟨k, x, hk1, hk, rfl, rfl, hx0, hx1, HT⟩ := hrel
    by_cases hlt : k < 3
    · have hbt := bytes_take s k hk1 (by omega)
      have hsn := tails_snoc V ((s.data.toList.drop 1).take (k - 1)) s[k]
      rw [← hbt, HT.out] at hsn
      simp only [Option.bind_some] at hsn
      have HS := Lib.hid hsn
      clear hsn hbt
      have hpow : ((64 ^ (k + 1) : Nat) : Int) = 64 * ((64 ^ k : Nat) : Int) := by rw [Nat.pow_succ]; omega
      have hpw := Lib.hid hpow
      clear hpow
      have hp4 : ((64 ^ k : Nat) : Int) ≤ 262144 := by
        have : 64 ^ k ≤ 64 ^ 3 := Nat.pow_le_pow_right (by decide) (by omega)
        omega
      have hle := byte_le s[k]
      by_cases hd : (s[k].toNat : Int) < 128
      · go_wp2
        go_ret2
        have hnone : tails V ((s.data.toList.drop 1).take 2) = none := tails_none_take _ _ k _ (by omega) (by rw [HS.out, if_pos (.inl hd)])
        refine ⟨oneEnd_of ?_, rfl⟩
        rw [HO.out, hnone]; rfl
      by_cases hd2 : (s[k].toNat : Int) < 192
      · have hx2 : x ≤ 262143 := by omega
        go_wp2
        go_round
        case rel => exact ⟨k + 1, 64 * x + (s[k].toNat : Int) - 128, by omega, by omega, by go_num, by first | rfl | go_num, by omega, by rw [hpw.out]; omega, Lib.hid (by rw [Nat.add_sub_cancel, HS.out, if_neg (by omega)])⟩
        case measure => simp [intOf]; omega
      · have hd3 : 192 ≤ (s[k].toNat : Int) := by omega
        go_wp2
        go_ret2
        have hnone : tails V ((s.data.toList.drop 1).take 2) = none := tails_none_take _ _ k _ (by omega) (by rw [HS.out, if_pos (.inr hd3)])
        refine ⟨oneEnd_of ?_, rfl⟩
        rw [HO.out, hnone]; rfl
    · have hkN : k = 3 := by omega
      subst hkN
      have hfin : oneL s.data.toList = oneFin 3 (some x) := by rw [HO.out]; exact congrArg _ HT.out
      clear HO HT
      have HF := Lib.hid hfin
      clear hfin
      by_cases hmy : mayB x = true
      · have HM := Lib.hid hmy
        clear hmy
        by_cases hlg : longI x = 3
        · have hne : (longI x != 3) = false := by simp [hlg]
          have HL := Lib.hid hlg
          clear hlg
          go_wp2_with (first
            | (go_at_call 96; refine (may_any _ _).mono ?_; rintro e w' ⟨rfl, rfl⟩; rw [HM.out])
            | (go_at_call 97; refine (long_any _ _).mono ?_; rintro e w' ⟨rfl, rfl⟩))
          go_ret2
          exact ⟨oneEnd_of (by rw [HF.out]; exact if_pos ⟨HM.out, HL.out⟩), rfl⟩
        · have hne : (longI x != 3) = true := bne_iff_ne.2 hlg
          go_wp2_with (first
            | (go_at_call 96; refine (may_any _ _).mono ?_; rintro e w' ⟨rfl, rfl⟩; rw [HM.out])
            | (go_at_call 97; refine (long_any _ _).mono ?_; rintro e w' ⟨rfl, rfl⟩))
          go_ret2
          exact ⟨oneEnd_of (by rw [HF.out]; exact if_neg (fun h => hlg h.2)), rfl⟩
      · have hmf : mayB x = false := by simpa using hmy
        have HM := Lib.hid hmf
        clear hmf
        have HM2 := Lib.hid hmy
        clear hmy
        go_wp2_with (first
          | (go_at_call 96; refine (may_any _ _).mono ?_; rintro e w' ⟨rfl, rfl⟩; rw [HM.out]))
        go_ret2
        exact ⟨oneEnd_of (by rw [HF.out]; exact if_neg (fun h => HM2.out h.1)), rfl⟩

end Go.Proofs.YtfciacigamjfkabGreat
namespace Go.Proofs.YtfciacigamjfkabGreat
open Go.RowKit
set_option maxRecDepth 100000

set_option maxHeartbeats 1000000 in
theorem one_4b (s : ByteArray) (w : World) (hm : s.size ≤ 140737488355328) (h : 0 < s.size) (a : 240 ≤ (s[0].toNat : Int)) (b : (s[0].toNat : Int) < 248) (hs : 4 ≤ s.size)
    (hone : oneL s.data.toList = oneFin 4 (tails ((s[0].toNat : Int) - 240) ((s.data.toList.drop 1).take 3))) :
    Calls Tryz.prog 81 #[.string s] w fun e w' => OneEnd s.data.toList e ∧ w = w' := by
  have hb : ((s.size : Int) == 0) = false := beq_eq_false_iff_ne.2 (by omega)
  have HO := Lib.hid hone
  clear hone
  go_enter Tryz.func81, Tryz.ntmps81
  go_wp2
  generalize hV : (s[0].toNat : Int) - 240 = V at *
  have hV0 : 0 ≤ V ∧ V < 64 := by omega
  have HV := Lib.hid hV
  clear hV
  go_loop [6, 7] (fun u i => ∃ (k : Nat) (x : Int), 1 ≤ k ∧ k ≤ 4 ∧ i = .int .i64 k ∧ u = .int .i64 x ∧ 0 ≤ x ∧ x < ((64 ^ k : Nat) : Int) ∧ Hid (tails V ((s.data.toList.drop 1).take (k - 1)) = some x)) (fun _ i => 4 - (intOf i).toNat)
  case atStart => exact ⟨1, V, by omega, by omega, rfl, rfl, hV0.1, hV0.2, Lib.hid rfl⟩
  case round =>
    obtain ⟨k, x, hk1, hk, rfl, rfl, hx0, hx1, HT⟩ := hrel
    by_cases hlt : k < 4
    · have hbt := bytes_take s k hk1 (by omega)
      have hsn := tails_snoc V ((s.data.toList.drop 1).take (k - 1)) s[k]
      rw [← hbt, HT.out] at hsn
      simp only [Option.bind_some] at hsn
      have HS := Lib.hid hsn
      clear hsn hbt
      have hpow : ((64 ^ (k + 1) : Nat) : Int) = 64 * ((64 ^ k : Nat) : Int) := by rw [Nat.pow_succ]; omega
      have hpw := Lib.hid hpow
      clear hpow
      have hp4 : ((64 ^ k : Nat) : Int) ≤ 262144 := by
        have : 64 ^ k ≤ 64 ^ 3 := Nat.pow_le_pow_right (by decide) (by omega)
        omega
      have hle := byte_le s[k]
      by_cases hd : (s[k].toNat : Int) < 128
      · go_wp2
        go_ret2
        have hnone : tails V ((s.data.toList.drop 1).take 3) = none := tails_none_take _ _ k _ (by omega) (by rw [HS.out, if_pos (.inl hd)])
        refine ⟨oneEnd_of ?_, rfl⟩
        rw [HO.out, hnone]; rfl
      by_cases hd2 : (s[k].toNat : Int) < 192
      · have hx2 : x ≤ 262143 := by omega
        go_wp2
        go_round
        case rel => exact ⟨k + 1, 64 * x + (s[k].toNat : Int) - 128, by omega, by omega, by go_num, by first | rfl | go_num, by omega, by rw [hpw.out]; omega, Lib.hid (by rw [Nat.add_sub_cancel, HS.out, if_neg (by omega)])⟩
        case measure => simp [intOf]; omega
      · have hd3 : 192 ≤ (s[k].toNat : Int) := by omega
        go_wp2
        go_ret2
        have hnone : tails V ((s.data.toList.drop 1).take 3) = none := tails_none_take _ _ k _ (by omega) (by rw [HS.out, if_pos (.inr hd3)])
        refine ⟨oneEnd_of ?_, rfl⟩
        rw [HO.out, hnone]; rfl
    · have hkN : k = 4 := by omega
      subst hkN
      have hfin : oneL s.data.toList = oneFin 4 (some x) := by rw [HO.out]; exact congrArg _ HT.out
      clear HO HT
      have HF := Lib.hid hfin
      clear hfin
      by_cases hmy : mayB x = true
      · have HM := Lib.hid hmy
        clear hmy
        by_cases hlg : longI x = 4
        · have hne : (longI x != 4) = false := by simp [hlg]
          have HL := Lib.hid hlg
          clear hlg
          go_wp2_with (first
            | (go_at_call 96; refine (may_any _ _).mono ?_; rintro e w' ⟨rfl, rfl⟩; rw [HM.out])
            | (go_at_call 97; refine (long_any _ _).mono ?_; rintro e w' ⟨rfl, rfl⟩))
          go_ret2
          exact ⟨oneEnd_of (by rw [HF.out]; exact if_pos ⟨HM.out, HL.out⟩), rfl⟩
        · have hne : (longI x != 4) = true := bne_iff_ne.2 hlg
          go_wp2_with (first
            | (go_at_call 96; refine (may_any _ _).mono ?_; rintro e w' ⟨rfl, rfl⟩; rw [HM.out])
            | (go_at_call 97; refine (long_any _ _).mono ?_; rintro e w' ⟨rfl, rfl⟩))
          go_ret2
          exact ⟨oneEnd_of (by rw [HF.out]; exact if_neg (fun h => hlg h.2)), rfl⟩
      · have hmf : mayB x = false := by simpa using hmy
        have HM := Lib.hid hmf
        clear hmf
        have HM2 := Lib.hid hmy
        clear hmy
        go_wp2_with (first
          | (go_at_call 96; refine (may_any _ _).mono ?_; rintro e w' ⟨rfl, rfl⟩; rw [HM.out]))
        go_ret2
        exact ⟨oneEnd_of (by rw [HF.out]; exact if_neg (fun h => HM2.out h.1)), rfl⟩

end Go.Proofs.YtfciacigamjfkabGreat
namespace Go.Proofs.YtfciacigamjfkabGreat
set_option maxRecDepth 8000

theorem stL_range {l b : Int} (h0 : 0 ≤ l) (h3 : l ≤ 3) : 0 ≤ stL l b ∧ stL l b ≤ 3 := by
  unfold stL; repeat' split
  all_goals omega
/-- All were taken up to here, and the machine stands so. -/
def UtfAt (L : List UInt8) (k : Nat) (l lo hi : Int) : Prop := ∃ num out, runesL L = runesGo ⟨l, lo, hi, num, out⟩ (L.drop k)
theorem utf_step {L : List UInt8} {k : Nat} {b : UInt8} {l lo hi : Int} (hd : L.drop k = b :: L.drop (k + 1)) (h : UtfAt L k l lo hi) (hok : stOk l lo hi b.toNat = true) : UtfAt L (k + 1) (stL l b.toNat) (stLo l b.toNat) (stHi l b.toNat) := by
  obtain ⟨num, out, h⟩ := h
  rw [hd] at h
  simp only [runesGo, rnStep, hok, if_true] at h
  split at h
  · rename_i heq
    split at heq <;> cases heq
  · rename_i s' heq
    split at heq
    · cases heq; exact ⟨_, _, h⟩
    · cases heq; exact ⟨_, _, h⟩
theorem utf_bad {L : List UInt8} {k : Nat} {b : UInt8} {l lo hi : Int} (hd : L.drop k = b :: L.drop (k + 1)) (h : UtfAt L k l lo hi) (hok : stOk l lo hi b.toNat = false) : (runesL L).isSome = false := by
  obtain ⟨num, out, h⟩ := h
  rw [hd] at h
  simp only [runesGo, rnStep, hok] at h
  simp at h
  rw [h]; rfl
theorem utf_end {L : List UInt8} {l lo hi : Int} {k : Nat} (hk : L.length ≤ k) (h : UtfAt L k l lo hi) : (runesL L).isSome = decide (l = 0) := by
  obtain ⟨num, out, h⟩ := h
  rw [h, List.drop_eq_nil_of_le hk]
  simp only [runesGo]
  split <;> simp_all

theorem drop_cons (s : ByteArray) (k : Nat) (h : k < s.size) : s.data.toList.drop k = s[k] :: s.data.toList.drop (k + 1) := by
  rw [List.drop_eq_getElem_cons (by simpa using h)]; rfl

theorem extract_all (s : ByteArray) (a : Nat) : (s.extract a s.size).data.toList = s.data.toList.drop a := by
  rw [show (s.extract a s.size).data.toList = (s.data.toList.drop a).take (s.size - a) from by simp, List.take_of_length_le]
  simp
end Go.Proofs.YtfciacigamjfkabGreat

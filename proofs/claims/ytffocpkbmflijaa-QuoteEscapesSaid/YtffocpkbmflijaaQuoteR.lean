/-
  The walk of QuoteEscapes: a character may stand by its number.
-/
import Derived.Test.YtffocpkbmflijaaQuoteM
import Derived.Test.YtffocpkbmflijaaQuoteI
namespace Go.Proofs.Ytffocpkbmflijaa
open Go.RowKit Go.Maps
set_option maxRecDepth 100000

/-- The digit of a number, with letters of either case. -/
def hexB (big : Bool) (n : Int) : Int := if n < 10 then 48 + n else if big = true then 55 + n else 87 + n
theorem hexB_rg (big : Bool) (n : Int) (h0 : 0 ≤ n) (h1 : n < 16) : 0 ≤ hexB big n ∧ hexB big n < 256 := by
  unfold hexB
  repeat' split
  all_goals omega
theorem hexI_hexB (big : Bool) (n : Int) (h0 : 0 ≤ n) (h1 : n < 16) : hexI (hexB big n) = n := by
  unfold hexB
  repeat' split
  · unfold hexI; rw [if_pos (by omega)]; omega
  · unfold hexI; rw [if_neg (by omega), if_neg (by omega), if_pos (by omega)]; omega
  · unfold hexI; rw [if_neg (by omega), if_pos (by omega)]; omega
theorem lowAt_all : ∀ m : Fin 16, (((⟨#[48, 49, 50, 51, 52, 53, 54, 55, 56, 57, 97, 98, 99, 100, 101, 102]⟩ : ByteArray)[m.val]'(by have := m.isLt; exact this)).toNat : Int) = hexB false (m.val : Int) := by decide
theorem lowAt (n : Int) (h0 : 0 ≤ n) (h1 : n < 16) (h : n.toNat < (⟨#[48, 49, 50, 51, 52, 53, 54, 55, 56, 57, 97, 98, 99, 100, 101, 102]⟩ : ByteArray).size) :
    (((⟨#[48, 49, 50, 51, 52, 53, 54, 55, 56, 57, 97, 98, 99, 100, 101, 102]⟩ : ByteArray)[n.toNat]'h).toNat : Int) = hexB false n := by
  have := lowAt_all ⟨n.toNat, h⟩
  simp only at this
  rw [this]
  congr 1
  omega
theorem bigAt_all : ∀ m : Fin 16, (((⟨#[48, 49, 50, 51, 52, 53, 54, 55, 56, 57, 65, 66, 67, 68, 69, 70]⟩ : ByteArray)[m.val]'(by have := m.isLt; exact this)).toNat : Int) = hexB true (m.val : Int) := by decide
theorem bigAt (n : Int) (h0 : 0 ≤ n) (h1 : n < 16) (h : n.toNat < (⟨#[48, 49, 50, 51, 52, 53, 54, 55, 56, 57, 65, 66, 67, 68, 69, 70]⟩ : ByteArray).size) :
    (((⟨#[48, 49, 50, 51, 52, 53, 54, 55, 56, 57, 65, 66, 67, 68, 69, 70]⟩ : ByteArray)[n.toNat]'h).toNat : Int) = hexB true n := by
  have := bigAt_all ⟨n.toNat, h⟩
  simp only at this
  rw [this]
  congr 1
  omega

theorem step_digitB (xs : List UInt8) (d n v : Int) (b : UInt8) (hb : hexI (b.toNat : Int) = v) (h0 : 0 ≤ v) (hd : d < 3) : qStep ⟨xs, 2, d, n⟩ (b.toNat : Int) = ⟨false, 0, ⟨xs, 2, d + 1, n * 16 + v⟩⟩ := by
  show qDigit _ _ = _
  unfold qDigit
  rw [hb, if_neg (by omega), if_pos hd]

/-- What a character's number says. -/
theorem all_num (c1 c2 c3 c4 : UInt8) (v1 v2 v3 v4 : Int) (h1 : hexI (c1.toNat : Int) = v1) (h2 : hexI (c2.toNat : Int) = v2) (h3 : hexI (c3.toNat : Int) = v3) (h4 : hexI (c4.toNat : Int) = v4)
    (g1 : 0 ≤ v1) (g2 : 0 ≤ v2) (g3 : 0 ≤ v3) (g4 : 0 ≤ v4) (R : Int) (hR : ((v1 * 16 + v2) * 16 + v3) * 16 + v4 = R) :
    qAll [92, 117, c1, c2, c3, c4, 34] = if mayB R = true then ⟨putL R, 6, true, 0⟩ else ⟨[], 5, false, 9⟩ := by
  have s1 : qStep ⟨[], 2, 0, 0⟩ (c1.toNat : Int) = ⟨false, 0, ⟨[], 2, 1, v1⟩⟩ := by
    have := step_digitB [] 0 0 v1 c1 h1 g1 (by decide)
    rw [this]
    simp
  have s2 : qStep ⟨[], 2, 1, v1⟩ (c2.toNat : Int) = ⟨false, 0, ⟨[], 2, 2, v1 * 16 + v2⟩⟩ := step_digitB [] 1 v1 v2 c2 h2 g2 (by decide)
  have s3 : qStep ⟨[], 2, 2, v1 * 16 + v2⟩ (c3.toNat : Int) = ⟨false, 0, ⟨[], 2, 3, (v1 * 16 + v2) * 16 + v3⟩⟩ := step_digitB [] 2 _ v3 c3 h3 g3 (by decide)
  have hq : qStep ⟨[], 2, 3, (v1 * 16 + v2) * 16 + v3⟩ (c4.toNat : Int) = if mayB R = true then ⟨false, 0, plainQ (putL R)⟩ else ⟨false, 9, ⟨[], 2, 3, (v1 * 16 + v2) * 16 + v3⟩⟩ := by
    show qDigit _ _ = _
    unfold qDigit
    rw [h4, if_neg (by omega), if_neg (show ¬ (3 : Int) < 3 by decide), hR]
    split
    · have hlen : (putL R).length ≤ 4 := by
        unfold putL
        repeat' split
        all_goals simp
      exact qAdd_ok (by simp; omega)
    · rfl
  unfold qAll
  rw [qRun_on (b := 92) (step_stroke []), qRun_on (b := 117) (step_u []), qRun_on s1, qRun_on s2, qRun_on s3]
  split
  · rename_i hm
    rw [if_pos hm] at hq
    rw [qRun_on hq, qRun_done (b := 34) (quote_step _)]
  · rename_i hm
    rw [if_neg hm] at hq
    rw [qRun_err hq (by decide)]

/-- The bytes of a character, as the model has them. -/
theorem encode_put (R : Int) (h0 : 0 ≤ R) (h1 : R < 65536) (hm : mayB R = true) : Utf8.encode R = ⟨(putL R).toArray⟩ := by
  have hv : Utf8.valid R = true := by
    rw [validRune_eq]
    unfold mayB at hm
    rw [decide_eq_true_iff] at hm
    unfold validRune
    simp
    omega
  obtain ⟨m, rfl⟩ := Int.eq_ofNat_of_zero_le h0
  have ht : ((m : Int)).toNat = m := by simp
  have e1 : b8 (m : Int) = UInt8.ofNat m := by unfold b8; rw [ht]
  have e2 : b8 (192 + (m : Int) / 64) = UInt8.ofNat (192 + m / 64) := by unfold b8; congr 1
  have e3 : b8 (128 + (m : Int) % 64) = UInt8.ofNat (128 + m % 64) := by unfold b8; congr 1
  have e4 : b8 (224 + (m : Int) / 4096) = UInt8.ofNat (224 + m / 4096) := by unfold b8; congr 1
  have e5 : b8 (128 + (m : Int) / 64 % 64) = UInt8.ofNat (128 + m / 64 % 64) := by unfold b8; congr 1
  unfold Utf8.encode putL
  simp only [hv, if_true, ht]
  by_cases c1 : m < 128
  · rw [if_pos c1, if_pos (show (m : Int) < 128 by omega), e1]
  · rw [if_neg c1, if_neg (show ¬ (m : Int) < 128 by omega)]
    by_cases c2 : m < 2048
    · rw [if_pos c2, if_pos (show (m : Int) < 2048 by omega), e2, e3]
    · rw [if_neg c2, if_neg (show ¬ (m : Int) < 2048 by omega), if_pos (show m < 65536 by omega), if_pos (show (m : Int) < 65536 by omega), e3, e4, e5]

set_option maxHeartbeats 4000000 in
theorem esc_low (r : Int) (R : Int) (h0 : 0 ≤ r) (h1 : r < 9223372036854775808) (hR : r.tmod 65536 = R) (hR0 : 0 ≤ R) (hR1 : R < 65536) (w : World) :
    Calls Try.prog 8 #[.int .i64 r, .bool false] w fun e w' => e = .returned (.bool true) ∧ Below w.heap.size w w' := by
  have q1 : R.tdiv 4096 = R / 4096 := Int.tdiv_eq_ediv_of_nonneg hR0
  have q2 : R.tdiv 256 = R / 256 := Int.tdiv_eq_ediv_of_nonneg hR0
  have q3 : R.tdiv 16 = R / 16 := Int.tdiv_eq_ediv_of_nonneg hR0
  have q4 : (R / 256).tmod 16 = R / 256 % 16 := Int.tmod_eq_emod_of_nonneg (by omega)
  have q5 : (R / 16).tmod 16 = R / 16 % 16 := Int.tmod_eq_emod_of_nonneg (by omega)
  have q6 : R.tmod 16 = R % 16 := Int.tmod_eq_emod_of_nonneg hR0
  have a0 : 0 ≤ R / 4096 := by omega
  have a1 : R / 4096 < 16 := by omega
  have b0 : 0 ≤ R / 256 % 16 := by omega
  have b1 : R / 256 % 16 < 16 := by omega
  have c0 : 0 ≤ R / 16 % 16 := by omega
  have c1 : R / 16 % 16 < 16 := by omega
  have d0 : 0 ≤ R % 16 := by omega
  have d1 : R % 16 < 16 := by omega
  have ga := lowAt (R / 4096) a0 a1 (by show _ < 16; omega)
  have gb := lowAt (R / 256 % 16) b0 b1 (by show _ < 16; omega)
  have gc := lowAt (R / 16 % 16) c0 c1 (by show _ < 16; omega)
  have gd := lowAt (R % 16) d0 d1 (by show _ < 16; omega)
  have ra := hexB_rg false _ a0 a1
  have rb := hexB_rg false _ b0 b1
  have rc := hexB_rg false _ c0 c1
  have rd := hexB_rg false _ d0 d1
  have ia := hexI_hexB false _ a0 a1
  have ib := hexI_hexB false _ b0 b1
  have ic := hexI_hexB false _ c0 c1
  have id' := hexI_hexB false _ d0 d1
  generalize hexB false (R / 4096) = A at *
  generalize hexB false (R / 256 % 16) = B at *
  generalize hexB false (R / 16 % 16) = C at *
  generalize hexB false (R % 16) = D at *
  have hall := all_num (b8 A) (b8 B) (b8 C) (b8 D) _ _ _ _ (by rw [b8_nat A ra.1 ra.2]; exact ia) (by rw [b8_nat B rb.1 rb.2]; exact ib) (by rw [b8_nat C rc.1 rc.2]; exact ic) (by rw [b8_nat D rd.1 rd.2]; exact id') a0 b0 c0 d0 R (by omega)
  have hrow : ORow ((w.alloc (.cells #[.int .u8 A, .int .u8 B, .int .u8 C, .int .u8 D] 5)).drew) w.heap.size 5 (.slice (some ⟨w.heap.size, 0, none⟩) 4 4) ([b8 A, b8 B, b8 C, b8 D].map bV) := by
    simp only [List.map_cons, List.map_nil]
    rw [bV_b8 _ ra.1 ra.2, bV_b8 _ rb.1 rb.2, bV_b8 _ rc.1 rc.2, bV_b8 _ rd.1 rd.2]
    exact (ORow.lit w w.heap.size 5 #[.int .u8 A, .int .u8 B, .int .u8 C, .int .u8 D] (Nat.le_refl _) (by simp [maxLen])).drew
  have hstr := put_str _ hrow
  obtain ⟨X, hX⟩ : ∃ X : ByteArray, X = ⟨[b8 A, b8 B, b8 C, b8 D].toArray⟩ := ⟨_, rfl⟩
  have hXs : X.size = 4 := by rw [hX]; rfl
  have hS : ((⟨#[92, 117]⟩ : ByteArray) ++ X ++ (⟨#[34]⟩ : ByteArray)).data.toList = [92, 117, b8 A, b8 B, b8 C, b8 D, 34] := by rw [hX]; rfl
  rw [← hX] at hstr
  have HX := Lib.hid hX
  have HS := Lib.hid hS
  have HA := Lib.hid hall
  clear hX hS hall ia ib ic id' ra rb rc rd hrow
  have bel1 : Below w.heap.size w ((w.alloc (.cells #[.int .u8 A, .int .u8 B, .int .u8 C, .int .u8 D] 5)).drew) := below_drew ((Below.refl _ _).alloc (Nat.le_refl _) _)
  have hsz1 := bel1.size
  go_enter Try.func8, Try.ntmps8
  go_wp2_with fail
  go_region
  generalize ((w.alloc (.cells #[.int .u8 A, .int .u8 B, .int .u8 C, .int .u8 D] 5)).drew) = w1 at *
  clear hstr q1 q2 q3 q4 q5 q6 a0 a1 b0 b1 c0 c1 d0 d1 ga gb gc gd
  by_cases hm : mayB R = true
  · have henc := encode_put R hR0 hR1 hm
    have hr := HA.out
    rw [if_pos hm] at hr
    have hcase : R < 55296 ∨ 57343 < R := by
      unfold mayB at hm
      rw [decide_eq_true_iff] at hm
      omega
    obtain ⟨Z, hZ⟩ : ∃ Z : ByteArray, Z = ⟨(putL R).toArray⟩ := ⟨_, rfl⟩
    rw [← hZ] at henc
    have HZ := Lib.hid hZ
    have hend : AllEnd (qAll (((⟨#[92, 117]⟩ : ByteArray) ++ X ++ (⟨#[34]⟩ : ByteArray)).data.toList)) = .returned (.tuple #[.string Z, .int .i64 6, .bool true, .int .i64 0]) := by
      rw [HS.out, hr, hZ]
      rfl
    have HE := Lib.hid hend
    clear hend hZ hr hm
    rcases hcase with hc | hc
    all_goals
      go_wp2_with fail
      refine (all_any _ _ ?_).mono ?_
      · rw [ByteArray.size_append, ByteArray.size_append, hXs]; decide
      rintro e w2 ⟨rfl, hb2⟩
      rw [HE.out]
      have bel2 := bel1.trans (hb2.mono hsz1)
      have hsz2 := bel2.size
      go_wp2_with (first
        | (go_at_call 11; refine (lives_any _).mono ?_; rintro e w3 ⟨rfl, hb3⟩))
      go_ret
      exact ⟨rfl, bel2.trans (hb3.mono hsz2)⟩
  · have hr := HA.out
    rw [if_neg hm] at hr
    have hcase : 55296 ≤ R ∧ R ≤ 57343 := by
      unfold mayB at hm
      rw [decide_eq_true_iff] at hm
      omega
    obtain ⟨hc1, hc2⟩ := hcase
    have hend : AllEnd (qAll (((⟨#[92, 117]⟩ : ByteArray) ++ X ++ (⟨#[34]⟩ : ByteArray)).data.toList)) = .returned (.tuple #[.string ⟨#[]⟩, .int .i64 5, .bool false, .int .i64 9]) := by
      rw [HS.out, hr]
      rfl
    have HE := Lib.hid hend
    clear hend hr hm
    go_wp2_with fail
    refine (all_any _ _ ?_).mono ?_
    · rw [ByteArray.size_append, ByteArray.size_append, hXs]; decide
    rintro e w2 ⟨rfl, hb2⟩
    rw [HE.out]
    have bel2 := bel1.trans (hb2.mono hsz1)
    have hsz2 := bel2.size
    go_wp2_with (first
      | (go_at_call 11; refine (lives_any _).mono ?_; rintro e w3 ⟨rfl, hb3⟩))
    go_ret
    exact ⟨rfl, bel2.trans (hb3.mono hsz2)⟩

set_option maxHeartbeats 4000000 in
theorem esc_lowneg (r : Int) (R : Int) (h0 : r < 0) (h1 : -9223372036854775808 ≤ r) (hR : (-(r + 1)).tmod 65536 = R) (hR0 : 0 ≤ R) (hR1 : R < 65536) (w : World) :
    Calls Try.prog 8 #[.int .i64 r, .bool false] w fun e w' => e = .returned (.bool true) ∧ Below w.heap.size w w' := by
  have q1 : R.tdiv 4096 = R / 4096 := Int.tdiv_eq_ediv_of_nonneg hR0
  have q2 : R.tdiv 256 = R / 256 := Int.tdiv_eq_ediv_of_nonneg hR0
  have q3 : R.tdiv 16 = R / 16 := Int.tdiv_eq_ediv_of_nonneg hR0
  have q4 : (R / 256).tmod 16 = R / 256 % 16 := Int.tmod_eq_emod_of_nonneg (by omega)
  have q5 : (R / 16).tmod 16 = R / 16 % 16 := Int.tmod_eq_emod_of_nonneg (by omega)
  have q6 : R.tmod 16 = R % 16 := Int.tmod_eq_emod_of_nonneg hR0
  have a0 : 0 ≤ R / 4096 := by omega
  have a1 : R / 4096 < 16 := by omega
  have b0 : 0 ≤ R / 256 % 16 := by omega
  have b1 : R / 256 % 16 < 16 := by omega
  have c0 : 0 ≤ R / 16 % 16 := by omega
  have c1 : R / 16 % 16 < 16 := by omega
  have d0 : 0 ≤ R % 16 := by omega
  have d1 : R % 16 < 16 := by omega
  have ga := lowAt (R / 4096) a0 a1 (by show _ < 16; omega)
  have gb := lowAt (R / 256 % 16) b0 b1 (by show _ < 16; omega)
  have gc := lowAt (R / 16 % 16) c0 c1 (by show _ < 16; omega)
  have gd := lowAt (R % 16) d0 d1 (by show _ < 16; omega)
  have ra := hexB_rg false _ a0 a1
  have rb := hexB_rg false _ b0 b1
  have rc := hexB_rg false _ c0 c1
  have rd := hexB_rg false _ d0 d1
  have ia := hexI_hexB false _ a0 a1
  have ib := hexI_hexB false _ b0 b1
  have ic := hexI_hexB false _ c0 c1
  have id' := hexI_hexB false _ d0 d1
  generalize hexB false (R / 4096) = A at *
  generalize hexB false (R / 256 % 16) = B at *
  generalize hexB false (R / 16 % 16) = C at *
  generalize hexB false (R % 16) = D at *
  have hall := all_num (b8 A) (b8 B) (b8 C) (b8 D) _ _ _ _ (by rw [b8_nat A ra.1 ra.2]; exact ia) (by rw [b8_nat B rb.1 rb.2]; exact ib) (by rw [b8_nat C rc.1 rc.2]; exact ic) (by rw [b8_nat D rd.1 rd.2]; exact id') a0 b0 c0 d0 R (by omega)
  have hrow : ORow ((w.alloc (.cells #[.int .u8 A, .int .u8 B, .int .u8 C, .int .u8 D] 5)).drew) w.heap.size 5 (.slice (some ⟨w.heap.size, 0, none⟩) 4 4) ([b8 A, b8 B, b8 C, b8 D].map bV) := by
    simp only [List.map_cons, List.map_nil]
    rw [bV_b8 _ ra.1 ra.2, bV_b8 _ rb.1 rb.2, bV_b8 _ rc.1 rc.2, bV_b8 _ rd.1 rd.2]
    exact (ORow.lit w w.heap.size 5 #[.int .u8 A, .int .u8 B, .int .u8 C, .int .u8 D] (Nat.le_refl _) (by simp [maxLen])).drew
  have hstr := put_str _ hrow
  obtain ⟨X, hX⟩ : ∃ X : ByteArray, X = ⟨[b8 A, b8 B, b8 C, b8 D].toArray⟩ := ⟨_, rfl⟩
  have hXs : X.size = 4 := by rw [hX]; rfl
  have hS : ((⟨#[92, 117]⟩ : ByteArray) ++ X ++ (⟨#[34]⟩ : ByteArray)).data.toList = [92, 117, b8 A, b8 B, b8 C, b8 D, 34] := by rw [hX]; rfl
  rw [← hX] at hstr
  have HX := Lib.hid hX
  have HS := Lib.hid hS
  have HA := Lib.hid hall
  clear hX hS hall ia ib ic id' ra rb rc rd hrow
  have bel1 : Below w.heap.size w ((w.alloc (.cells #[.int .u8 A, .int .u8 B, .int .u8 C, .int .u8 D] 5)).drew) := below_drew ((Below.refl _ _).alloc (Nat.le_refl _) _)
  have hsz1 := bel1.size
  go_enter Try.func8, Try.ntmps8
  go_wp2_with fail
  go_region
  generalize ((w.alloc (.cells #[.int .u8 A, .int .u8 B, .int .u8 C, .int .u8 D] 5)).drew) = w1 at *
  clear hstr q1 q2 q3 q4 q5 q6 a0 a1 b0 b1 c0 c1 d0 d1 ga gb gc gd
  by_cases hm : mayB R = true
  · have henc := encode_put R hR0 hR1 hm
    have hr := HA.out
    rw [if_pos hm] at hr
    have hcase : R < 55296 ∨ 57343 < R := by
      unfold mayB at hm
      rw [decide_eq_true_iff] at hm
      omega
    obtain ⟨Z, hZ⟩ : ∃ Z : ByteArray, Z = ⟨(putL R).toArray⟩ := ⟨_, rfl⟩
    rw [← hZ] at henc
    have HZ := Lib.hid hZ
    have hend : AllEnd (qAll (((⟨#[92, 117]⟩ : ByteArray) ++ X ++ (⟨#[34]⟩ : ByteArray)).data.toList)) = .returned (.tuple #[.string Z, .int .i64 6, .bool true, .int .i64 0]) := by
      rw [HS.out, hr, hZ]
      rfl
    have HE := Lib.hid hend
    clear hend hZ hr hm
    rcases hcase with hc | hc
    all_goals
      go_wp2_with fail
      refine (all_any _ _ ?_).mono ?_
      · rw [ByteArray.size_append, ByteArray.size_append, hXs]; decide
      rintro e w2 ⟨rfl, hb2⟩
      rw [HE.out]
      have bel2 := bel1.trans (hb2.mono hsz1)
      have hsz2 := bel2.size
      go_wp2_with (first
        | (go_at_call 11; refine (lives_any _).mono ?_; rintro e w3 ⟨rfl, hb3⟩))
      go_ret
      exact ⟨rfl, bel2.trans (hb3.mono hsz2)⟩
  · have hr := HA.out
    rw [if_neg hm] at hr
    have hcase : 55296 ≤ R ∧ R ≤ 57343 := by
      unfold mayB at hm
      rw [decide_eq_true_iff] at hm
      omega
    obtain ⟨hc1, hc2⟩ := hcase
    have hend : AllEnd (qAll (((⟨#[92, 117]⟩ : ByteArray) ++ X ++ (⟨#[34]⟩ : ByteArray)).data.toList)) = .returned (.tuple #[.string ⟨#[]⟩, .int .i64 5, .bool false, .int .i64 9]) := by
      rw [HS.out, hr]
      rfl
    have HE := Lib.hid hend
    clear hend hr hm
    go_wp2_with fail
    refine (all_any _ _ ?_).mono ?_
    · rw [ByteArray.size_append, ByteArray.size_append, hXs]; decide
    rintro e w2 ⟨rfl, hb2⟩
    rw [HE.out]
    have bel2 := bel1.trans (hb2.mono hsz1)
    have hsz2 := bel2.size
    go_wp2_with (first
      | (go_at_call 11; refine (lives_any _).mono ?_; rintro e w3 ⟨rfl, hb3⟩))
    go_ret
    exact ⟨rfl, bel2.trans (hb3.mono hsz2)⟩

set_option maxHeartbeats 4000000 in
theorem esc_big (r : Int) (R : Int) (h0 : 0 ≤ r) (h1 : r < 9223372036854775808) (hR : r.tmod 65536 = R) (hR0 : 0 ≤ R) (hR1 : R < 65536) (w : World) :
    Calls Try.prog 8 #[.int .i64 r, .bool true] w fun e w' => e = .returned (.bool true) ∧ Below w.heap.size w w' := by
  have q1 : R.tdiv 4096 = R / 4096 := Int.tdiv_eq_ediv_of_nonneg hR0
  have q2 : R.tdiv 256 = R / 256 := Int.tdiv_eq_ediv_of_nonneg hR0
  have q3 : R.tdiv 16 = R / 16 := Int.tdiv_eq_ediv_of_nonneg hR0
  have q4 : (R / 256).tmod 16 = R / 256 % 16 := Int.tmod_eq_emod_of_nonneg (by omega)
  have q5 : (R / 16).tmod 16 = R / 16 % 16 := Int.tmod_eq_emod_of_nonneg (by omega)
  have q6 : R.tmod 16 = R % 16 := Int.tmod_eq_emod_of_nonneg hR0
  have a0 : 0 ≤ R / 4096 := by omega
  have a1 : R / 4096 < 16 := by omega
  have b0 : 0 ≤ R / 256 % 16 := by omega
  have b1 : R / 256 % 16 < 16 := by omega
  have c0 : 0 ≤ R / 16 % 16 := by omega
  have c1 : R / 16 % 16 < 16 := by omega
  have d0 : 0 ≤ R % 16 := by omega
  have d1 : R % 16 < 16 := by omega
  have ga := bigAt (R / 4096) a0 a1 (by show _ < 16; omega)
  have gb := bigAt (R / 256 % 16) b0 b1 (by show _ < 16; omega)
  have gc := bigAt (R / 16 % 16) c0 c1 (by show _ < 16; omega)
  have gd := bigAt (R % 16) d0 d1 (by show _ < 16; omega)
  have ra := hexB_rg true _ a0 a1
  have rb := hexB_rg true _ b0 b1
  have rc := hexB_rg true _ c0 c1
  have rd := hexB_rg true _ d0 d1
  have ia := hexI_hexB true _ a0 a1
  have ib := hexI_hexB true _ b0 b1
  have ic := hexI_hexB true _ c0 c1
  have id' := hexI_hexB true _ d0 d1
  generalize hexB true (R / 4096) = A at *
  generalize hexB true (R / 256 % 16) = B at *
  generalize hexB true (R / 16 % 16) = C at *
  generalize hexB true (R % 16) = D at *
  have hall := all_num (b8 A) (b8 B) (b8 C) (b8 D) _ _ _ _ (by rw [b8_nat A ra.1 ra.2]; exact ia) (by rw [b8_nat B rb.1 rb.2]; exact ib) (by rw [b8_nat C rc.1 rc.2]; exact ic) (by rw [b8_nat D rd.1 rd.2]; exact id') a0 b0 c0 d0 R (by omega)
  have hrow : ORow ((w.alloc (.cells #[.int .u8 A, .int .u8 B, .int .u8 C, .int .u8 D] 5)).drew) w.heap.size 5 (.slice (some ⟨w.heap.size, 0, none⟩) 4 4) ([b8 A, b8 B, b8 C, b8 D].map bV) := by
    simp only [List.map_cons, List.map_nil]
    rw [bV_b8 _ ra.1 ra.2, bV_b8 _ rb.1 rb.2, bV_b8 _ rc.1 rc.2, bV_b8 _ rd.1 rd.2]
    exact (ORow.lit w w.heap.size 5 #[.int .u8 A, .int .u8 B, .int .u8 C, .int .u8 D] (Nat.le_refl _) (by simp [maxLen])).drew
  have hstr := put_str _ hrow
  obtain ⟨X, hX⟩ : ∃ X : ByteArray, X = ⟨[b8 A, b8 B, b8 C, b8 D].toArray⟩ := ⟨_, rfl⟩
  have hXs : X.size = 4 := by rw [hX]; rfl
  have hS : ((⟨#[92, 117]⟩ : ByteArray) ++ X ++ (⟨#[34]⟩ : ByteArray)).data.toList = [92, 117, b8 A, b8 B, b8 C, b8 D, 34] := by rw [hX]; rfl
  rw [← hX] at hstr
  have HX := Lib.hid hX
  have HS := Lib.hid hS
  have HA := Lib.hid hall
  clear hX hS hall ia ib ic id' ra rb rc rd hrow
  have bel1 : Below w.heap.size w ((w.alloc (.cells #[.int .u8 A, .int .u8 B, .int .u8 C, .int .u8 D] 5)).drew) := below_drew ((Below.refl _ _).alloc (Nat.le_refl _) _)
  have hsz1 := bel1.size
  go_enter Try.func8, Try.ntmps8
  go_wp2_with fail
  go_region
  generalize ((w.alloc (.cells #[.int .u8 A, .int .u8 B, .int .u8 C, .int .u8 D] 5)).drew) = w1 at *
  clear hstr q1 q2 q3 q4 q5 q6 a0 a1 b0 b1 c0 c1 d0 d1 ga gb gc gd
  by_cases hm : mayB R = true
  · have henc := encode_put R hR0 hR1 hm
    have hr := HA.out
    rw [if_pos hm] at hr
    have hcase : R < 55296 ∨ 57343 < R := by
      unfold mayB at hm
      rw [decide_eq_true_iff] at hm
      omega
    obtain ⟨Z, hZ⟩ : ∃ Z : ByteArray, Z = ⟨(putL R).toArray⟩ := ⟨_, rfl⟩
    rw [← hZ] at henc
    have HZ := Lib.hid hZ
    have hend : AllEnd (qAll (((⟨#[92, 117]⟩ : ByteArray) ++ X ++ (⟨#[34]⟩ : ByteArray)).data.toList)) = .returned (.tuple #[.string Z, .int .i64 6, .bool true, .int .i64 0]) := by
      rw [HS.out, hr, hZ]
      rfl
    have HE := Lib.hid hend
    clear hend hZ hr hm
    rcases hcase with hc | hc
    all_goals
      go_wp2_with fail
      refine (all_any _ _ ?_).mono ?_
      · rw [ByteArray.size_append, ByteArray.size_append, hXs]; decide
      rintro e w2 ⟨rfl, hb2⟩
      rw [HE.out]
      have bel2 := bel1.trans (hb2.mono hsz1)
      have hsz2 := bel2.size
      go_wp2_with (first
        | (go_at_call 11; refine (lives_any _).mono ?_; rintro e w3 ⟨rfl, hb3⟩))
      go_ret
      exact ⟨rfl, bel2.trans (hb3.mono hsz2)⟩
  · have hr := HA.out
    rw [if_neg hm] at hr
    have hcase : 55296 ≤ R ∧ R ≤ 57343 := by
      unfold mayB at hm
      rw [decide_eq_true_iff] at hm
      omega
    obtain ⟨hc1, hc2⟩ := hcase
    have hend : AllEnd (qAll (((⟨#[92, 117]⟩ : ByteArray) ++ X ++ (⟨#[34]⟩ : ByteArray)).data.toList)) = .returned (.tuple #[.string ⟨#[]⟩, .int .i64 5, .bool false, .int .i64 9]) := by
      rw [HS.out, hr]
      rfl
    have HE := Lib.hid hend
    clear hend hr hm
    go_wp2_with fail
    refine (all_any _ _ ?_).mono ?_
    · rw [ByteArray.size_append, ByteArray.size_append, hXs]; decide
    rintro e w2 ⟨rfl, hb2⟩
    rw [HE.out]
    have bel2 := bel1.trans (hb2.mono hsz1)
    have hsz2 := bel2.size
    go_wp2_with (first
      | (go_at_call 11; refine (lives_any _).mono ?_; rintro e w3 ⟨rfl, hb3⟩))
    go_ret
    exact ⟨rfl, bel2.trans (hb3.mono hsz2)⟩

set_option maxHeartbeats 4000000 in
theorem esc_bigneg (r : Int) (R : Int) (h0 : r < 0) (h1 : -9223372036854775808 ≤ r) (hR : (-(r + 1)).tmod 65536 = R) (hR0 : 0 ≤ R) (hR1 : R < 65536) (w : World) :
    Calls Try.prog 8 #[.int .i64 r, .bool true] w fun e w' => e = .returned (.bool true) ∧ Below w.heap.size w w' := by
  have q1 : R.tdiv 4096 = R / 4096 := Int.tdiv_eq_ediv_of_nonneg hR0
  have q2 : R.tdiv 256 = R / 256 := Int.tdiv_eq_ediv_of_nonneg hR0
  have q3 : R.tdiv 16 = R / 16 := Int.tdiv_eq_ediv_of_nonneg hR0
  have q4 : (R / 256).tmod 16 = R / 256 % 16 := Int.tmod_eq_emod_of_nonneg (by omega)
  have q5 : (R / 16).tmod 16 = R / 16 % 16 := Int.tmod_eq_emod_of_nonneg (by omega)
  have q6 : R.tmod 16 = R % 16 := Int.tmod_eq_emod_of_nonneg hR0
  have a0 : 0 ≤ R / 4096 := by omega
  have a1 : R / 4096 < 16 := by omega
  have b0 : 0 ≤ R / 256 % 16 := by omega
  have b1 : R / 256 % 16 < 16 := by omega
  have c0 : 0 ≤ R / 16 % 16 := by omega
  have c1 : R / 16 % 16 < 16 := by omega
  have d0 : 0 ≤ R % 16 := by omega
  have d1 : R % 16 < 16 := by omega
  have ga := bigAt (R / 4096) a0 a1 (by show _ < 16; omega)
  have gb := bigAt (R / 256 % 16) b0 b1 (by show _ < 16; omega)
  have gc := bigAt (R / 16 % 16) c0 c1 (by show _ < 16; omega)
  have gd := bigAt (R % 16) d0 d1 (by show _ < 16; omega)
  have ra := hexB_rg true _ a0 a1
  have rb := hexB_rg true _ b0 b1
  have rc := hexB_rg true _ c0 c1
  have rd := hexB_rg true _ d0 d1
  have ia := hexI_hexB true _ a0 a1
  have ib := hexI_hexB true _ b0 b1
  have ic := hexI_hexB true _ c0 c1
  have id' := hexI_hexB true _ d0 d1
  generalize hexB true (R / 4096) = A at *
  generalize hexB true (R / 256 % 16) = B at *
  generalize hexB true (R / 16 % 16) = C at *
  generalize hexB true (R % 16) = D at *
  have hall := all_num (b8 A) (b8 B) (b8 C) (b8 D) _ _ _ _ (by rw [b8_nat A ra.1 ra.2]; exact ia) (by rw [b8_nat B rb.1 rb.2]; exact ib) (by rw [b8_nat C rc.1 rc.2]; exact ic) (by rw [b8_nat D rd.1 rd.2]; exact id') a0 b0 c0 d0 R (by omega)
  have hrow : ORow ((w.alloc (.cells #[.int .u8 A, .int .u8 B, .int .u8 C, .int .u8 D] 5)).drew) w.heap.size 5 (.slice (some ⟨w.heap.size, 0, none⟩) 4 4) ([b8 A, b8 B, b8 C, b8 D].map bV) := by
    simp only [List.map_cons, List.map_nil]
    rw [bV_b8 _ ra.1 ra.2, bV_b8 _ rb.1 rb.2, bV_b8 _ rc.1 rc.2, bV_b8 _ rd.1 rd.2]
    exact (ORow.lit w w.heap.size 5 #[.int .u8 A, .int .u8 B, .int .u8 C, .int .u8 D] (Nat.le_refl _) (by simp [maxLen])).drew
  have hstr := put_str _ hrow
  obtain ⟨X, hX⟩ : ∃ X : ByteArray, X = ⟨[b8 A, b8 B, b8 C, b8 D].toArray⟩ := ⟨_, rfl⟩
  have hXs : X.size = 4 := by rw [hX]; rfl
  have hS : ((⟨#[92, 117]⟩ : ByteArray) ++ X ++ (⟨#[34]⟩ : ByteArray)).data.toList = [92, 117, b8 A, b8 B, b8 C, b8 D, 34] := by rw [hX]; rfl
  rw [← hX] at hstr
  have HX := Lib.hid hX
  have HS := Lib.hid hS
  have HA := Lib.hid hall
  clear hX hS hall ia ib ic id' ra rb rc rd hrow
  have bel1 : Below w.heap.size w ((w.alloc (.cells #[.int .u8 A, .int .u8 B, .int .u8 C, .int .u8 D] 5)).drew) := below_drew ((Below.refl _ _).alloc (Nat.le_refl _) _)
  have hsz1 := bel1.size
  go_enter Try.func8, Try.ntmps8
  go_wp2_with fail
  go_region
  generalize ((w.alloc (.cells #[.int .u8 A, .int .u8 B, .int .u8 C, .int .u8 D] 5)).drew) = w1 at *
  clear hstr q1 q2 q3 q4 q5 q6 a0 a1 b0 b1 c0 c1 d0 d1 ga gb gc gd
  by_cases hm : mayB R = true
  · have henc := encode_put R hR0 hR1 hm
    have hr := HA.out
    rw [if_pos hm] at hr
    have hcase : R < 55296 ∨ 57343 < R := by
      unfold mayB at hm
      rw [decide_eq_true_iff] at hm
      omega
    obtain ⟨Z, hZ⟩ : ∃ Z : ByteArray, Z = ⟨(putL R).toArray⟩ := ⟨_, rfl⟩
    rw [← hZ] at henc
    have HZ := Lib.hid hZ
    have hend : AllEnd (qAll (((⟨#[92, 117]⟩ : ByteArray) ++ X ++ (⟨#[34]⟩ : ByteArray)).data.toList)) = .returned (.tuple #[.string Z, .int .i64 6, .bool true, .int .i64 0]) := by
      rw [HS.out, hr, hZ]
      rfl
    have HE := Lib.hid hend
    clear hend hZ hr hm
    rcases hcase with hc | hc
    all_goals
      go_wp2_with fail
      refine (all_any _ _ ?_).mono ?_
      · rw [ByteArray.size_append, ByteArray.size_append, hXs]; decide
      rintro e w2 ⟨rfl, hb2⟩
      rw [HE.out]
      have bel2 := bel1.trans (hb2.mono hsz1)
      have hsz2 := bel2.size
      go_wp2_with (first
        | (go_at_call 11; refine (lives_any _).mono ?_; rintro e w3 ⟨rfl, hb3⟩))
      go_ret
      exact ⟨rfl, bel2.trans (hb3.mono hsz2)⟩
  · have hr := HA.out
    rw [if_neg hm] at hr
    have hcase : 55296 ≤ R ∧ R ≤ 57343 := by
      unfold mayB at hm
      rw [decide_eq_true_iff] at hm
      omega
    obtain ⟨hc1, hc2⟩ := hcase
    have hend : AllEnd (qAll (((⟨#[92, 117]⟩ : ByteArray) ++ X ++ (⟨#[34]⟩ : ByteArray)).data.toList)) = .returned (.tuple #[.string ⟨#[]⟩, .int .i64 5, .bool false, .int .i64 9]) := by
      rw [HS.out, hr]
      rfl
    have HE := Lib.hid hend
    clear hend hr hm
    go_wp2_with fail
    refine (all_any _ _ ?_).mono ?_
    · rw [ByteArray.size_append, ByteArray.size_append, hXs]; decide
    rintro e w2 ⟨rfl, hb2⟩
    rw [HE.out]
    have bel2 := bel1.trans (hb2.mono hsz1)
    have hsz2 := bel2.size
    go_wp2_with (first
      | (go_at_call 11; refine (lives_any _).mono ?_; rintro e w3 ⟨rfl, hb3⟩))
    go_ret
    exact ⟨rfl, bel2.trans (hb3.mono hsz2)⟩

theorem walk_QuoteEscapes (r : Int) (hr : (Lit.int .i64 r).wf = true) (big : Bool) (w : World) :
    Calls Try.prog 8 #[.int .i64 r, .bool big] w fun e w' => e = .returned (.bool true) ∧ Below w.heap.size w w' := by
  have hb : -9223372036854775808 ≤ r ∧ r < 9223372036854775808 := by
    simp [Lit.wf, IntKind.min, IntKind.max, IntKind.signed, IntKind.bits] at hr
    omega
  by_cases h0 : 0 ≤ r
  · have e : r.tmod 65536 = r % 65536 := Int.tmod_eq_emod_of_nonneg h0
    cases big
    · exact esc_low r _ h0 hb.2 rfl (by omega) (by omega) w
    · exact esc_big r _ h0 hb.2 rfl (by omega) (by omega) w
  · have e : (-(r + 1)).tmod 65536 = (-(r + 1)) % 65536 := Int.tmod_eq_emod_of_nonneg (by omega)
    cases big
    · exact esc_lowneg r _ (by omega) hb.1 rfl (by omega) (by omega) w
    · exact esc_bigneg r _ (by omega) hb.1 rfl (by omega) (by omega) w
end Go.Proofs.Ytffocpkbmflijaa

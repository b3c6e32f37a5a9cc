/-
  quote: digit and Step: what a byte does is the machine's step.
-/
import Derived.Test.YtmboonmefmobcaaQuoteC
namespace Go.Proofs.Ytmboonmefmobcaa
open Go.RowKit Go.Maps
set_option maxRecDepth 100000

/-- '[]byte(s)': a new row of its bytes. -/
theorem bytes_of (w : World) (l : List UInt8) :
    ∃ c w', (convert 9 30 (.string ⟨l.toArray⟩)).run Try.prog w = .ok (.slice (some ⟨w.heap.size, 0, none⟩) l.length c) w' ∧
      (∀ j u, (l.map bV)[j]? = some u → w'.cell? ((⟨w.heap.size, 0, none⟩ : Addr).add j) = some u) ∧ Below w.heap.size w w' := by
  have h := run_bytes_of_string (P := Try.prog) w 9 30 5 ⟨l.toArray⟩ Try.underlying9 Try.underlying30 Try.underlying5
  have hs : (ByteArray.mk l.toArray).size = l.length := by simp [ByteArray.size]
  rw [hs] at h
  refine ⟨_, _, h, ?_, ?_⟩
  · intro j u hj
    rw [addr_add0]
    have hjl : j < l.length := by
      rcases Nat.lt_or_ge j l.length with h | h
      · exact h
      · rw [List.getElem?_eq_none (by simpa using h)] at hj; cases hj
    have hc := World.cell?_alloc_mark w.drew (bytesRow ⟨l.toArray⟩ (grownCap w l.length 0 5)) 5 ((bytesRow ⟨l.toArray⟩ (grownCap w l.length 0 5)).size, (bytesRow ⟨l.toArray⟩ (grownCap w l.length 0 5)).size + 1) j
    have hh : w.drew.heap.size = w.heap.size := rfl
    rw [hh] at hc
    rw [hc, bytesRow_at _ _ _ (by simpa using hjl)]
    rw [List.getElem?_map, List.getElem?_eq_getElem hjl] at hj
    simpa [bV] using hj
  · exact (below_drew (Below.refl _ _)).alloc (Nat.le_refl _) _

theorem digit_any (w : World) (g : Nat) (q : QS) (b : Int) (h0 : 0 ≤ b) (h1 : b ≤ 255) (hq : QAt w g q) (hst : q.st = 2) (hinv : QInv q) :
    Calls Try.prog 21 #[.pointer (some ⟨g, 0, none⟩), .int .u8 b] w fun e w' => e = .returned (.int .i64 (qDigit q b).e) ∧ Stepd w g (qDigit q b) w' := by
  obtain ⟨d, n, hq, h2⟩ := hq
  obtain ⟨rfl, rfl⟩ := h2 hst
  obtain ⟨hl, hs⟩ := hinv
  have hn : 0 ≤ q.n ∧ q.n < 4096 ∧ 0 ≤ q.d ∧ q.d ≤ 3 := by rcases hs with h | h | h | h <;> omega
  obtain ⟨hn0, hn1, hd0, hd1⟩ := hn
  clear hs
  have hlt := hq.lt
  have hx := hexI_lt b
  by_cases hneg : hexI b < 0
  · have hr : qDigit q b = ⟨false, 9, q⟩ := by unfold qDigit; rw [if_pos hneg]
    have hdec : decide (0 ≤ hexI b) = false := by simp; omega
    rw [hr]
    have HD := Lib.hid hdec
    clear hr hdec hneg
    go_enter Try.func21, Try.ntmps21
    go_wp2_with (first
      | (go_at_call 26; refine (dig_any b h0 h1 _).mono ?_; rintro e w' ⟨rfl, rfl⟩; rw [HD.out]))
    go_ret
    exact ⟨rfl, ⟨_, _, hq, fun _ => ⟨rfl, rfl⟩⟩, Below.refl _ _⟩
  have hv : hexV b = hexI b := by unfold hexV; rw [if_neg hneg]
  have hdec : decide (0 ≤ hexI b) = true := by simp; omega
  have hj : bits .or .i64 (q.n * 16) (hexI b) = q.n * 16 + hexI b := bits_join .i64 63 (by decide) (fun n a b => by rw [IntKind.wrap_i64]; omega) 4 (q.n * 16) (hexI b) (by omega) (by omega) (by omega) (by omega) (by omega) (by omega)
  have HD := Lib.hid hdec
  have HJ := Lib.hid hj
  have HV := Lib.hid hv
  have hq' := hq
  obtain ⟨v, hk, _⟩ := hq'
  have c2 : w.cell? ⟨g, 2, none⟩ = some (.int .i64 q.d) := hk.cell 2
  have c3 : w.cell? ⟨g, 3, none⟩ = some (.int .i64 q.n) := hk.cell 3
  have f2 := hk.frozen 2
  have f3 := hk.frozen 3
  clear hk hdec hj hv
  by_cases hd : q.d < 3
  · have hr : qDigit q b = ⟨false, 0, ⟨q.xs, 2, q.d + 1, q.n * 16 + hexI b⟩⟩ := by unfold qDigit; rw [if_neg hneg, if_pos hd]
    rw [hr]
    clear hr
    go_enter Try.func21, Try.ntmps21
    go_wp2_with (first
      | (go_at_call 26; refine (dig_any b h0 h1 _).mono ?_; rintro e w' ⟨rfl, rfl⟩; rw [HD.out, HV.out]))
    go_ret
    rw [HJ.out]
    have hq2 := (hq.set2 (q.d + 1)).set3 (q.n * 16 + hexI b)
    rw [hst] at hq2
    exact ⟨rfl, ⟨_, _, hq2, fun _ => ⟨rfl, rfl⟩⟩, (((Below.refl g w).setCell (Nat.le_refl g) _).setCell (Nat.le_refl g) _)⟩
  have hnd : ¬ (q.d < 3) := hd
  by_cases hm : mayB (q.n * 16 + hexI b) = true
  · have hr : qDigit q b = qAdd q (putL (q.n * 16 + hexI b)) := by unfold qDigit; rw [if_neg hneg, if_neg hd, if_pos hm]
    have hput : putS (q.n * 16 + hexI b) = ⟨(putL (q.n * 16 + hexI b)).toArray⟩ := by unfold putS; rw [if_pos hm]
    have hlen : (putL (q.n * 16 + hexI b)).length ≤ 4 := by
      unfold putL
      repeat' split
      all_goals simp
    rw [hr]
    have e0 : (qAdd q (putL (q.n * 16 + hexI b))).e = addE q.xs (putL (q.n * 16 + hexI b)) := by rw [qadd_eq]
    rw [e0]
    have HM := Lib.hid hm
    have HP := Lib.hid hput
    clear hr hput e0 hm
    go_enter Try.func21, Try.ntmps21
    go_wp2_with (first
      | (go_at_call 26; refine (dig_any b h0 h1 _).mono ?_; rintro e w' ⟨rfl, rfl⟩; rw [HD.out, HV.out]))
    rw [HJ.out]
    refine (put_any _ _).mono ?_
    rintro e w1 ⟨rfl, hb1⟩
    rw [HM.out, HP.out]
    obtain ⟨c, w2, hrun, hcells, hb2⟩ := bytes_of w1 (putL (q.n * 16 + hexI b))
    have hs1 := hb1.size
    go_wp2_with fail
    refine (end_any _ g q.xs q.st q.d q.n ((hq.below hb1).below hb2) hl ⟨w1.heap.size, 0, none⟩ _ c hlen hcells).mono ?_
    rintro e w3 ⟨rfl, hq3, hb3⟩
    go_wp2
    go_ret
    exact ⟨rfl, qat_add (fun _ => ⟨rfl, rfl⟩) hq3, ((hb1.mono (by omega)).trans (hb2.mono (by omega))).trans hb3⟩
  · have hr : qDigit q b = ⟨false, 9, q⟩ := by unfold qDigit; rw [if_neg hneg, if_neg hd, if_neg hm]
    have hmf : mayB (q.n * 16 + hexI b) = false := by simpa using hm
    rw [hr]
    have HM := Lib.hid hmf
    clear hr hm hmf
    go_enter Try.func21, Try.ntmps21
    go_wp2_with (first
      | (go_at_call 26; refine (dig_any b h0 h1 _).mono ?_; rintro e w' ⟨rfl, rfl⟩; rw [HD.out, HV.out]))
    rw [HJ.out]
    refine (put_any _ _).mono ?_
    rintro e w1 ⟨rfl, hb1⟩
    rw [HM.out]
    go_wp2
    go_ret
    exact ⟨rfl, ⟨_, _, hq.below hb1, fun _ => ⟨rfl, rfl⟩⟩, hb1.mono (by omega)⟩
end Go.Proofs.Ytmboonmefmobcaa

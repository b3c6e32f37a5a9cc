/-
  The reference's Close (hexaplaref04).
-/
import Derived.Test.YtgpnhgjiglnmmaaNamesN
namespace Go.Proofs.Ytgpnhgjiglnmmaa
open Go.RowKit Go.Maps
set_option maxRecDepth 100000

/-- What stays when the scope N is closed, of the first k. -/
def keepL (N : Nat) (l : List Pr) : List Pr := l.filter fun x => decide (x.n < N)
theorem keep_snoc (N : Nat) (l : List Pr) (x : Pr) : keepL N (l ++ [x]) = if x.n < N then keepL N l ++ [x] else keepL N l := by
  unfold keepL
  rw [List.filter_append]
  by_cases h : x.n < N <;> simp [h]
theorem keep_len (N : Nat) (l : List Pr) : (keepL N l).length ≤ l.length := List.length_filter_le _ _

set_option maxHeartbeats 4000000 in
theorem rclose_any (w : World) (base h : Nat) (st : St) (hr : RAt w base h st) (hn : ((refL st).length + 1) * 40 ≤ 140737488355328) (hst : st.length ≤ 9223372036854775807) :
    Calls Try.prog 37 #[.pointer (some ⟨h, 0, none⟩)] w fun e w' => e = .returned (.int .i64 (closeE st)) ∧ RAt w' base h (closeS st) ∧ Tch base rObj w w' := by
  cases st with
  | nil =>
    have hr' := hr
    obtain ⟨A, cap, hg, hk, ho⟩ := hr
    have hlt := hk.lt
    have hc1 : w.cell? ⟨h, 1, none⟩ = some (.int .i64 0) := hk.cell 1
    clear hk ho
    go_enter Try.func37, Try.ntmps37
    go_wp2
    go_ret
    exact ⟨rfl, hr', Tch.refl _ _ _⟩
  | cons m r =>
    have hr' := hr
    obtain ⟨A, cap, hg, hk, ho⟩ := hr
    have hlt := hk.lt
    have hll : (refL (m :: r)).length ≤ 3518437208882 := by omega
    have hf := filter_close m r
    obtain ⟨L, hL⟩ : ∃ L, refL (m :: r) = L := ⟨_, rfl⟩
    obtain ⟨N, hN⟩ : ∃ N : Nat, (m :: r).length = N := ⟨_, rfl⟩
    rw [hL] at hk ho hll hf
    rw [show r.length + 1 = N from hN] at hf
    rw [hN] at hk
    have HK := Lib.hid (show keepL N L = refL r from hf)
    have HN := Lib.hid (show r.length + 1 = N from hN)
    have hN1 : 1 ≤ N := by rw [← hN]; simp
    have hc0 : w.cell? ⟨h, 0, none⟩ = some (.slice A L.length cap) := hk.cell 0
    have hc1 : w.cell? ⟨h, 1, none⟩ = some (.int .i64 N) := hk.cell 1
    have HO := Lib.hid ho
    have hbase : base ≤ w.heap.size := by omega
    have hNb : N ≤ 9223372036854775807 := by rw [← hN]; exact hst
    have hN0 : ((N : Int) == 0) = false := by rw [beq_eq_false_iff_ne]; omega
    clear hf hL hN ho hn hr' hst
    go_enter Try.func37, Try.ntmps37
    go_wp2
    go_loopw [3, 4] (fun v i wr => ∃ (k : Nat) (B : Option Addr) (c : Nat), k ≤ L.length ∧ i = .int .i64 k ∧ v = .slice B (keepL N (L.take k)).length c ∧ Below w.heap.size w wr ∧ PRow wr w.heap.size v (keepL N (L.take k))) (fun _ i _ => L.length - (intOf i).toNat)
    case atStart => exact ⟨0, none, 0, Nat.zero_le _, rfl, rfl, Below.refl _ _, World.ownsRow_nil _ _ _ _⟩
    case round =>
      obtain ⟨k, B, c, hkl, rfl, rfl, hbw, hrow⟩ := hrel
      have hkr := hk.below hbw hlt
      have e0 : _ = some (Value.slice A L.length cap) := hkr.cell 0
      have e1 : _ = some (Value.int .i64 N) := hkr.cell 1
      have hown := PRow.below HO.out hbw
      have hkk := keep_len N (L.take k)
      have hlk' : (L.take k).length ≤ k := List.length_take_le _ _
      by_cases hlk : k < L.length
      · obtain ⟨rb, rfl, _, hrl, hcap, hcm, d0, d1, d2⟩ := hown.cell hlk
        have hcm2 : cap ≤ 9223372036854775807 := by simpa [maxLen] using hcm
        have hks := keep_snoc N (L.take k) L[k]
        have htk : L.take (k + 1) = L.take k ++ [L[k]] := List.take_succ_eq_append_getElem hlk
        rw [← htk] at hks
        clear hown hcm htk
        by_cases hnn : (L[k]).n < N
        · rw [if_pos hnn] at hks
          have HKS := Lib.hid hks
          clear hks
          have hni : ((L[k]).n : Int) < (N : Int) := by omega
          have HX := Lib.hid (show pc L[k] = [.string ⟨(L[k]).p.toArray⟩, .string ⟨(L[k]).s.toArray⟩, .int .i64 (L[k]).n] from rfl)
          generalize (⟨(L[k]).p.toArray⟩ : ByteArray) = xp at *
          generalize (⟨(L[k]).s.toArray⟩ : ByteArray) = xs at *
          generalize ((L[k]).n : Int) = xn at *
          clear hnn
          go_wp2_with fail
          go_quiet (fail)
          rename_i nq
          have e0' : (wr.drewN nq).cell? ⟨h, 0, none⟩ = some (Value.slice (some ⟨rb, 0, none⟩) L.length cap) := e0
          have d0' : (wr.drewN nq).cell? ⟨rb, k * 3, none⟩ = some (.string xp) := d0
          have d1' : (wr.drewN nq).cell? ⟨rb, k * 3 + 1, none⟩ = some (.string xs) := d1
          have d2' : (wr.drewN nq).cell? ⟨rb, k * 3 + 2, none⟩ = some (.int .i64 xn) := d2
          have hrow' : PRow (wr.drewN nq) w.heap.size (.slice B (keepL N (L.take k)).length c) (keepL N (L.take k)) := hrow.below (below_drewN (Below.refl _ _) nq)
          have hbw' := below_drewN hbw nq
          have hbs' : w.heap.size ≤ (wr.drewN nq).heap.size := hbw'.size
          generalize wr.drewN nq = w2 at *
          clear hrow hbw d0 d1 d2 e0
          go_wp2_with (first
            | (at_builtin; refine wp_appG rfl _ _ 33 rfl w.heap.size 61 _ 3 40 Try.underlying33 Try.infoPr rfl (by decide) (.slice B (keepL N (L.take k)).length c) (keepL N (L.take k)).length (pcs (keepL N (L.take k))) [.string xp, .string xs, .int .i64 xn] rfl (by exact PRow.alloc hrow' _) (by simp [Value.oneCell']) ⟨w2.heap.size, 0, none⟩ 1 1 rfl rfl (by exact cells3 w2 _ _ _ _) (by simp only [maxLen]; omega) (by omega) (by simp; omega) ?_; intro v3 w3 hown3 hg3; obtain ⟨A3, c3, rfl⟩ := row_shapeN hown3))
          have hb3 : Below w.heap.size w w3 := by
            refine hbw'.trans ⟨hg3.os, hg3.tape, hg3.output, Nat.le_trans (by simp) hg3.size, fun j hj => (hg3.block j (by simp; omega) ?_).trans (Below.heap_alloc w2 _ j (by omega))⟩
            intro e
            have := (World.ownsRow.lt hrow' j e.symm).1
            omega
          go_roundw
          case rel =>
            have hlen : (keepL N (L.take (k + 1))).length = (keepL N (L.take k)).length + 1 := by rw [HKS.out]; simp
            refine ⟨k + 1, A3, c3, hlk, by go_num, by rw [hlen], hb3, ?_⟩
            unfold PRow
            rw [hlen, HKS.out, pcs_snoc, HX.out]
            exact hown3
          case measure => first | (simp [intOf]; done) | (simp [intOf]; omega)
        · rw [if_neg hnn] at hks
          have HKS := Lib.hid hks
          have hni : ¬ ((L[k]).n : Int) < (N : Int) := by omega
          clear hks hnn
          go_wp2_with fail
          go_quiet (fail)
          go_wp2
          go_roundw
          case rel => exact ⟨k + 1, B, c, hlk, by go_num, by rw [HKS.out], below_drewN hbw _, by rw [HKS.out]; exact hrow⟩
          case measure => first | (simp [intOf]; done) | (simp [intOf]; omega)
      · have htk : L.take k = L := List.take_of_length_le (by omega)
        rw [htk] at hrow
        rw [htk]
        have hkl2 := HK.out
        rw [hkl2] at hrow
        rw [hkl2]
        have f0 := hkr.frozen 0
        have f1 := hkr.frozen 1
        have hltr := hkr.lt
        clear htk hkl2
        go_wp2
        go_ret
        have g1 := hkr.set_ 0 (.slice B (refL r).length c)
        have g2 := g1.set_ 1 (.int .i64 ((N : Int) - 1))
        have T0 : Tch base rObj w wr := Tch.of_below hbw
        have T1 := T0.set hkr hg (.inl rfl) 0 (.slice B (refL r).length c)
        have T2 := T1.set g1 hg (.inl rfl) 1 (.int .i64 ((N : Int) - 1))
        refine ⟨rfl, ⟨B, c, hg, ?_, ?_⟩, T2⟩
        · have e : (N : Int) - 1 = (r.length : Int) := by have := HN.out; omega
          rw [e] at g2 ⊢
          exact g2
        · have hne : ∀ b, (Value.slice B (refL r).length c).ownBlock = some b → b ≠ h := by
            intro b hb hbh
            subst hbh
            have := (World.ownsRow.lt hrow b hb).1
            omega
          refine World.ownsRow.kept (row := some h) (w := wr) ?_ (only_setCell (p := ⟨h, 1, none⟩) (only_setCell (p := ⟨h, 0, none⟩) (World.grownBy.refl _ (some h)) (.inl rfl) _) (.inl rfl) _) (.inr fun e => hne h e rfl)
          refine ⟨hrow.1, ?_⟩
          rcases hrow.2 with hh | ⟨b, c', cur, hv, hb, rest⟩
          · exact .inl hh
          · exact .inr ⟨b, c', cur, hv, by omega, rest⟩
end Go.Proofs.Ytgpnhgjiglnmmaa

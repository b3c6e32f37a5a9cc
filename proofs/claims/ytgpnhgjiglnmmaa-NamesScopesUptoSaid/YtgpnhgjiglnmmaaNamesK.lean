/-
  names: the open scopes visited from the innermost on.
-/
import Derived.Test.YtgpnhgjiglnmmaaNamesJ
import Derived.Test.YtgpnhgjiglnmmaaRange
import Derived.RangeFuncBound
import Derived.Shelf.Abstract
import Derived.Shelf.RegionOpen
import Derived.OwnWalkIn
import Derived.TacticsInMore
import Derived.LoopNIn
import Derived.LoopIn
namespace Go.Proofs.Ytgpnhgjiglnmmaa
open Go.RowKit Go.Maps Go.Shelf
attribute [local go_sem] Oper.semAt_some
set_option maxRecDepth 100000

set_option maxHeartbeats 2000000 in
theorem visits_any (F : Fence) (n : Nat) (hF : F.fn 38) (hro : F.round = none) (hn : 1 ≤ n) (w0 : World) (n0 base g : Nat) (A : Option Addr) (cap : Nat) (bs : List Nat)
    (hg : g < n0) (hk : Blk w0 g 52 #[.slice A bs.length cap]) (ho : ORow w0 base 56 (.slice A bs.length cap) (bs.reverse.map mV)) (hr : ∀ r, A = some ⟨r, 0, none⟩ → r < n0) :
    Visits F n Try.prog 38 #[.pointer (some ⟨g, 0, none⟩)] #[] (fun k => #[mV (bs.getD k 0)]) bs.length (Below n0) w0 := by
  intro l J Jx W hW hY h0
  have hcW : W.cell? ⟨g, 0, none⟩ = some (.slice A bs.length cap) := (hW.cell (p := ⟨g, 0, none⟩) hg).trans (hk.cell 0)
  show CallsIn F n Try.prog 38 #[.pointer (some ⟨g, 0, none⟩), .func (.yield l) #[] #[]] W _
  refine callsIn_of_wp Try.func38 rfl hF ?_ hro
  simp only [Try.ntmps38, List.size_toArray, List.length_cons, List.length_nil, Nat.reduceAdd, Nat.reduceSub, Array.replicate_succ, Array.replicate_zero, List.push_toArray, List.append_toArray, List.nil_append, List.cons_append]
  have hl63 : bs.length ≤ 9223372036854775807 := by
    rcases ho.form with ⟨_, h⟩ | ⟨g', c', hv, _, _, hlc, hcm⟩
    · simp at h; subst h; simp
    · simp only [maxLen] at hcm; simp at hlc; omega
  gi_wp2
  gi_loopw [4] (fun i wr => ∃ k : Nat, k ≤ bs.length ∧ i = .int .i64 ((bs.length : Int) - 1 - (k : Int)) ∧ J k wr ∧ Below n0 w0 wr) (fun i _ => (intOf i + 1).toNat)
  case atStart => exact ⟨0, Nat.zero_le _, by simp, h0, hW⟩
  case round =>
    obtain ⟨k, hkn, rfl, hJ, hwr⟩ := hrel
    have hcr : wr.cell? ⟨g, 0, none⟩ = some (.slice A bs.length cap) := (hwr.cell (p := ⟨g, 0, none⟩) hg).trans (hk.cell 0)
    by_cases hlt : k < bs.length
    · obtain ⟨r, rfl, _, hrl, hcap, hcm, _, _⟩ := row_block ho (by simp; omega)
      obtain ⟨j, hj⟩ : ∃ j : Nat, j = bs.length - 1 - k := ⟨_, rfl⟩
      have hjl : j < bs.length := by omega
      have hcl : wr.cell? ⟨r, j, none⟩ = some (mV (bs.getD k 0)) := by
        rw [hwr.cell (p := ⟨r, j, none⟩) (hr r rfl)]
        obtain ⟨g', h1, _, _, h4⟩ := ho.cell (k := j) (by simpa using hjl)
        injection h1 with h1
        injection h1 with h1
        subst h1
        rw [h4]
        simp only [List.getElem_map, List.getElem_reverse]
        rw [List.getD_eq_getElem?_getD, List.getElem?_eq_getElem hlt]
        simp only [Option.getD_some]
        have hx : bs.length - 1 - j = k := by omega
        simp only [hx]
      have hji : (bs.length : Int) - 1 - (k : Int) = (j : Int) := by omega
      obtain ⟨fn, tmps, assign, body, hy, hR⟩ := hY k wr hlt hJ
      generalize bs.getD k 0 = b at *
      rw [hji]
      have hcap2 : bs.length ≤ cap := by simpa using hcap
      have hcm2 : cap ≤ 9223372036854775807 := by simpa [maxLen] using hcm
      have HJ := Lib.hid hj
      have HI := Lib.hid hji
      clear hj hji
      unfold mV at hcl hy
      clear hr ho hk hcW
      gi_wp2
      refine hR.mono ?_
      rintro e W3 (⟨rfl, hJ3, hk3⟩ | ⟨rfl, hJx3⟩)
      · gi_wp2
        go_roundw
        case rel => exact ⟨k + 1, hlt, by have := HI.out; first | go_num | (congr 1; omega), hJ3, hwr.trans hk3⟩
        case measure => first | (simp [intOf]; done) | (simp [intOf]; omega)
      · gi_wp2
        refine bodyPost_ret (results_none rfl _ _ _) rfl ?_
        exact ⟨⟨_, rfl⟩, .inr hJx3⟩
    · have hke : k = bs.length := by omega
      subst hke
      have hm1 : (bs.length : Int) - 1 - (bs.length : Int) = -1 := by omega
      rw [hm1]
      clear hm1
      gi_wp2
      go_end0
      exact ⟨⟨_, rfl⟩, .inl hJ⟩
end Go.Proofs.Ytgpnhgjiglnmmaa

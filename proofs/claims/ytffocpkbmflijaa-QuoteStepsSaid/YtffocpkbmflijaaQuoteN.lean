/-
  The walks of QuoteSteps, QuotePrints and QuoteGrows.
-/
import Derived.Test.YtffocpkbmflijaaQuoteM
import Derived.Test.YtffocpkbmflijaaQuoteK
import Derived.Test.YtffocpkbmflijaaQuoteL
namespace Go.Proofs.Ytffocpkbmflijaa
open Go.RowKit Go.Maps
set_option maxRecDepth 100000

set_option maxHeartbeats 1000000 in
theorem walk_QuoteSteps (s : ByteArray) (hs : s.size ≤ 140737488355328) (w : World) :
    Calls Try.prog 3 #[.string s] w fun e w' => e = .returned (.bool true) ∧ Below w.heap.size w w' := by
  have hf := all_facts s.data.toList
  go_enter Try.func3, Try.ntmps3
  go_wp2_with fail
  refine (all_any s _ hs).mono ?_
  rintro e w1 ⟨rfl, hb1⟩
  generalize hR : qAll s.data.toList = R at *
  have HR := Lib.hid hR
  obtain ⟨text, n, dn, er⟩ := R
  have hn : n ≤ 140737488355328 := by have := hf.2.2.2; simp at this; omega
  have hf1 : er ≠ 0 → dn = false := hf.1
  have hf2 : er = 0 → dn = false → n = s.size := by have := hf.2.1; simpa using this
  clear hR hf
  unfold AllEnd
  simp only
  go_wp2_with fail
  refine (read_any s _ hs).mono ?_
  rintro e w2 ⟨rfl, hb2⟩
  rw [HR.out]
  have hb := hb1.trans (hb2.mono hb1.size)
  have hsz := hb.size
  unfold ReadEnd
  simp only
  have hrf : (er != er) = false := by simp
  by_cases he : er = 0
  · subst he
    cases dn
    · have hnn := hf2 rfl rfl
      subst hnn
      clear hf1 hf2 hn
      go_wp2_with (first
        | (go_at_call 11; refine (lives_any _).mono ?_; rintro e w3 ⟨rfl, hb3⟩))
      go_ret
      exact ⟨rfl, hb.trans (hb3.mono hsz)⟩
    · clear hf1 hf2
      go_wp2_with (first
        | (go_at_call 11; refine (lives_any _).mono ?_; rintro e w3 ⟨rfl, hb3⟩))
      go_ret
      exact ⟨rfl, hb.trans (hb3.mono hsz)⟩
  · have hd := hf1 he
    subst hd
    have hne : (er != 0) = true := bne_iff_ne.2 he
    rw [if_neg he]
    clear hf1 hf2 he
    go_wp2_with (first
      | (go_at_call 11; refine (lives_any _).mono ?_; rintro e w3 ⟨rfl, hb3⟩))
    go_ret
    exact ⟨rfl, hb.trans (hb3.mono hsz)⟩

theorem walk_QuotePrints (s : ByteArray) (hs : s.size ≤ 1048576) (w : World) :
    Calls Try.prog 5 #[.string s] w fun e w' => e = .returned (.bool true) ∧ Below w.heap.size w w' := by
  go_enter Try.func5, Try.ntmps5
  go_wp2_with fail
  refine (print_any s _ (by omega)).mono ?_
  rintro e w1 ⟨rfl, hb1⟩
  unfold PrintEnd
  generalize hX : (ByteArray.mk (prText s.data.toList).toArray) = X
  generalize hE : prErr s.data.toList = E
  have HX := Lib.hid hX
  have HE := Lib.hid hE
  clear hX hE
  go_wp2_with fail
  refine (rprint_any s _ (by omega)).mono ?_
  rintro e w2 ⟨rfl, hb2⟩
  unfold PrintEnd
  rw [HX.out, HE.out]
  have hb := hb1.trans (hb2.mono hb1.size)
  have hsz := hb.size
  go_wp2_with (first
    | (go_at_call 11; refine (lives_any _).mono ?_; rintro e w3 ⟨rfl, hb3⟩))
  go_ret
  exact ⟨rfl, hb.trans (hb3.mono hsz)⟩
end Go.Proofs.Ytffocpkbmflijaa

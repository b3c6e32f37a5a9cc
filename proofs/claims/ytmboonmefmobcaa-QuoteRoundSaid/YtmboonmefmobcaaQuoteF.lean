/-
  The steps of a text (hexaplalaw03.all) are the machine's run; isUTF tells whether a text has characters.
-/
import Derived.Test.YtmboonmefmobcaaQuoteE
import Derived.Test.YtmboonmefmobcaaSrcD
import Derived.Test.YtmboonmefmobcaaUtf
namespace Go.Proofs.Ytmboonmefmobcaa
open Go.RowKit Go.Maps
set_option maxRecDepth 100000

theorem results_tmp4 {fn : Func} {t u v x : Tmp} (h : fn.results = #[.tmp t, .tmp u, .tmp v, .tmp x]) (tmps : Array Value) (P : Program) (w : World) :
    (results fn tmps).run P w = .ok (.tuple #[tmps.getD t undef, tmps.getD u undef, tmps.getD v undef, tmps.getD x undef]) w := by
  simp [results, h]

def AllEnd (r : QE) : Ending := .returned (.tuple #[.string ⟨r.text.toArray⟩, .int .i64 r.n, .bool r.done, .int .i64 r.e])

set_option maxHeartbeats 1000000 in
theorem all_any (s : ByteArray) (w : World) (hm : s.size ≤ 140737488355328) :
    Calls Try.prog 9 #[.string s] w fun e w' => e = AllEnd (qAll s.data.toList) ∧ Below w.heap.size w w' := by
  go_enter Try.func9, Try.ntmps9
  go_wp2_with (first
    | (go_at_call 13; refine (qnew_any _).mono ?_; rintro e w1 ⟨rfl, hq1, hb1⟩))
  go_loopw [7] (fun i wr => ∃ (k : Nat) (q : QS), k ≤ s.size ∧ i = .int .i64 k ∧ QAt wr w.heap.size q ∧ QInv q ∧ Below w.heap.size w wr ∧ Hid (qAll s.data.toList = qRun q k (s.data.toList.drop k))) (fun i _ => s.size - (intOf i).toNat)
  case atStart => exact ⟨0, plainQ [], Nat.zero_le _, rfl, hq1, qInv0, hb1, Lib.hid rfl⟩
  case round =>
    obtain ⟨k, q, hk, rfl, hq, hinv, hbel, HR⟩ := hrel
    have hl48 := hinv.1
    by_cases hlt : k < s.size
    · have hle := byte_le s[k]
      have hdc := drop_cons s k hlt
      have hrun := HR.out
      rw [hdc] at hrun
      generalize hS : qStep q (s[k].toNat : Int) = R at *
      have hinv1 : QInv R.q := by rw [← hS]; exact qInv_step hinv
      obtain ⟨dn, er, q1⟩ := R
      have HS := Lib.hid hS
      have HU := Lib.hid hrun
      clear hS hrun hdc HR
      go_wp2_with fail
      refine (qstep_any _ _ q _ (by omega) hle hq hinv).mono ?_
      rintro e w1 ⟨rfl, hq1, hb1⟩
      rw [HS.out] at hq1 ⊢
      unfold StepEnd
      have hbel1 : Below w.heap.size w w1 := hbel.trans hb1
      simp only at hq1 hinv1 ⊢
      clear hq hb1 hbel
      cases dn
      · by_cases he : er = 0
        · subst he
          have hon := qRun_on (i := k) (t := s.data.toList.drop (k + 1)) HS.out
          have HN := Lib.hid (HU.out.trans hon)
          clear hon
          go_wp2
          go_roundw
          case rel => exact ⟨k + 1, q1, by omega, by go_num, hq1, hinv1, hbel1, HN⟩
          case measure => simp [intOf]; omega
        · have herr := qRun_err (i := k) (t := s.data.toList.drop (k + 1)) HS.out he
          have HN := Lib.hid (HU.out.trans herr)
          have hne : (er != 0) = true := bne_iff_ne.2 he
          obtain ⟨d', n', hr1, _⟩ := hq1
          clear herr he
          go_wp2_with (first
            | (go_at_call 15; refine (text_any _ _ _ _ _ _ hr1).mono ?_; rintro e w' ⟨rfl, rfl⟩))
          ((try simp only [Exit.inBlock, Exit.then]); refine bodyPost_ret (results_tmp4 rfl _ _ _) rfl ?_)
          rw [HN.out]
          exact ⟨rfl, hbel1⟩
      · by_cases he : er = 0
        · subst he
          have herr := qRun_done (i := k) (t := s.data.toList.drop (k + 1)) HS.out
          have HN := Lib.hid (HU.out.trans herr)
          obtain ⟨d', n', hr1, _⟩ := hq1
          clear herr
          go_wp2_with (first
            | (go_at_call 15; refine (text_any _ _ _ _ _ _ hr1).mono ?_; rintro e w' ⟨rfl, rfl⟩))
          ((try simp only [Exit.inBlock, Exit.then]); refine bodyPost_ret (results_tmp4 rfl _ _ _) rfl ?_)
          rw [HN.out]
          exact ⟨rfl, hbel1⟩
        · have herr := qRun_err (i := k) (t := s.data.toList.drop (k + 1)) HS.out he
          have HN := Lib.hid (HU.out.trans herr)
          obtain ⟨d', n', hr1, _⟩ := hq1
          have hne : (er != 0) = true := bne_iff_ne.2 he
          clear herr he
          go_wp2_with (first
            | (go_at_call 15; refine (text_any _ _ _ _ _ _ hr1).mono ?_; rintro e w' ⟨rfl, rfl⟩))
          ((try simp only [Exit.inBlock, Exit.then]); refine bodyPost_ret (results_tmp4 rfl _ _ _) rfl ?_)
          rw [HN.out]
          exact ⟨rfl, hbel1⟩
    · have hkn : k = s.size := by omega
      subst hkn
      have hfin : qAll s.data.toList = ⟨q.xs, s.size, false, 0⟩ := by
        rw [HR.out, List.drop_eq_nil_of_le (by simp)]
        rfl
      have HN := Lib.hid hfin
      obtain ⟨d', n', hr1, _⟩ := hq
      clear hfin
      go_wp2_with (first
        | (go_at_call 15; refine (text_any _ _ _ _ _ _ hr1).mono ?_; rintro e w' ⟨rfl, rfl⟩))
      ((try simp only [Exit.inBlock, Exit.then]); refine bodyPost_ret (results_tmp4 rfl _ _ _) rfl ?_)
      rw [HN.out]
      exact ⟨rfl, hbel⟩
end Go.Proofs.Ytmboonmefmobcaa

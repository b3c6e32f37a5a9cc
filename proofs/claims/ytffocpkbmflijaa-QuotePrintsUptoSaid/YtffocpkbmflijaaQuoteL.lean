/-
  The reference's Read (hexaplaref03): it tells what the machine's run tells.
-/
import Derived.Test.YtffocpkbmflijaaQuoteH
import Derived.Test.YtffocpkbmflijaaSrcC
namespace Go.Proofs.Ytffocpkbmflijaa
open Go.RowKit Go.Maps
set_option maxRecDepth 100000

def ReadEnd (r : QE) : Ending := .returned (.tuple #[.string ⟨r.text.toArray⟩, .int .i64 (if r.done = true then r.n + 1 else -1), .int .i64 r.e, .int .i64 (if r.e = 0 then 0 else r.n)])
theorem readEnd_done {r : QE} {xs : List UInt8} {k : Nat} (h : r = ⟨xs, k, true, 0⟩) : ReadEnd r = .returned (.tuple #[.string ⟨xs.toArray⟩, .int .i64 (k + 1), .int .i64 0, .int .i64 0]) := by rw [h]; rfl
theorem readEnd_err {r : QE} {xs : List UInt8} {k : Nat} {e : Int} (h : r = ⟨xs, k, false, e⟩) (he : e ≠ 0) : ReadEnd r = .returned (.tuple #[.string ⟨xs.toArray⟩, .int .i64 (-1), .int .i64 e, .int .i64 k]) := by
  rw [h]; unfold ReadEnd; simp [he]
theorem readEnd_end {r : QE} {xs : List UInt8} {k : Nat} (h : r = ⟨xs, k, false, 0⟩) : ReadEnd r = .returned (.tuple #[.string ⟨xs.toArray⟩, .int .i64 (-1), .int .i64 0, .int .i64 0]) := by rw [h]; rfl

/-- Between the digits: the machine stands behind so many of them; behind the fourth it is known what comes. -/
def InnerAt (R : QE) (xs L : List UInt8) (k1 m : Nat) (nn : Int) : Prop :=
  if m < 4 then R = qRun ⟨xs, 2, m, nn⟩ (k1 + 1 + m) (L.drop (k1 + 1 + m))
  else R = if mayB nn = true then (if 48 < xs.length + (putL nn).length then ⟨xs, k1 + 4, false, 4⟩ else qRun (plainQ (xs ++ putL nn)) (k1 + 5) (L.drop (k1 + 5))) else ⟨xs, k1 + 4, false, 9⟩

theorem inner_end {R : QE} {xs L : List UInt8} {k1 m : Nat} {nn : Int} {p : Nat} (hp : p = k1 + 1 + m) (h : InnerAt R xs L k1 m nn) (hm : m < 4) (hl : L.length ≤ p) : R = ⟨xs, p, false, 0⟩ := by
  subst hp
  unfold InnerAt at h
  rw [if_pos hm, List.drop_eq_nil_of_le hl] at h
  exact h
theorem inner_bad {R : QE} {xs L : List UInt8} {k1 m : Nat} {nn : Int} {c : UInt8} {p : Nat} (hp : p = k1 + 1 + m) (h : InnerAt R xs L k1 m nn) (hm : m < 4) (hd : L.drop p = c :: L.drop (p + 1)) (hx : hexI (c.toNat : Int) < 0) : R = ⟨xs, p, false, 9⟩ := by
  subst hp
  unfold InnerAt at h
  rw [if_pos hm, hd] at h
  refine h.trans (qRun_err (q' := ⟨xs, 2, m, nn⟩) ?_ (by decide))
  show qDigit _ _ = _
  unfold qDigit
  rw [if_pos hx]
theorem inner_step {R : QE} {xs L : List UInt8} {k1 m : Nat} {nn : Int} {c : UInt8} {p : Nat} (hp : p = k1 + 1 + m) (h : InnerAt R xs L k1 m nn) (hm : m < 4) (hd : L.drop p = c :: L.drop (p + 1)) (hx : 0 ≤ hexI (c.toNat : Int)) : InnerAt R xs L k1 (m + 1) (16 * nn + hexI (c.toNat : Int)) := by
  subst hp
  unfold InnerAt at h ⊢
  rw [if_pos hm, hd] at h
  have e : 16 * nn + hexI (c.toNat : Int) = nn * 16 + hexI (c.toNat : Int) := by omega
  rw [e]
  by_cases h3 : m < 3
  · rw [if_pos (by omega)]
    refine h.trans (qRun_on (q' := ⟨xs, 2, ((m + 1 : Nat) : Int), nn * 16 + hexI (c.toNat : Int)⟩) ?_)
    show qDigit _ _ = _
    unfold qDigit
    rw [if_neg (by omega), if_pos (by show (m : Int) < 3; omega)]
    simp
  · have hm3 : m = 3 := by omega
    subst hm3
    rw [if_neg (by omega)]
    have hs : qStep ⟨xs, 2, ((3 : Nat) : Int), nn⟩ (c.toNat : Int) = if mayB (nn * 16 + hexI (c.toNat : Int)) = true then qAdd ⟨xs, 2, ((3 : Nat) : Int), nn⟩ (putL (nn * 16 + hexI (c.toNat : Int))) else ⟨false, 9, ⟨xs, 2, ((3 : Nat) : Int), nn⟩⟩ := by
      show qDigit _ _ = _
      unfold qDigit
      rw [if_neg (by omega), if_neg (by show ¬ ((3 : Nat) : Int) < 3; omega)]
    by_cases hmay : mayB (nn * 16 + hexI (c.toNat : Int)) = true
    · rw [if_pos hmay] at hs ⊢
      by_cases hov : 48 < xs.length + (putL (nn * 16 + hexI (c.toNat : Int))).length
      · rw [if_pos hov]
        refine h.trans (qRun_err (q' := ⟨xs, 2, ((3 : Nat) : Int), nn⟩) ?_ (by decide))
        rw [hs]; unfold qAdd; rw [if_pos hov]
      · rw [if_neg hov]
        refine h.trans (qRun_on ?_)
        rw [hs]; unfold qAdd; rw [if_neg hov]
    · rw [if_neg hmay] at hs ⊢
      exact h.trans (qRun_err hs (by decide))
def nnOk (m : Nat) (nn : Int) : Prop := 0 ≤ nn ∧ (m = 0 → nn < 1) ∧ (m = 1 → nn < 16) ∧ (m = 2 → nn < 256) ∧ (m = 3 → nn < 4096) ∧ (m = 4 → nn < 65536)
theorem nnOk_step {m : Nat} {nn v : Int} (h : nnOk m nn) (hm : m < 4) (h0 : 0 ≤ v) (h1 : v < 16) : nnOk (m + 1) (16 * nn + v) := by
  unfold nnOk at h ⊢
  omega

set_option maxHeartbeats 2000000 in
theorem read_any (s : ByteArray) (w : World) (hm : s.size ≤ 140737488355328) :
    Calls Try.prog 10 #[.string s, .int .i64 0] w fun e w' => e = ReadEnd (qAll s.data.toList) ∧ Below w.heap.size w w' := by
  go_enter Try.func10, Try.ntmps10
  go_wp2
  go_loopw [8, 9] (fun v i wr => ∃ (k : Nat) (xs : List UInt8), k ≤ s.size ∧ i = .int .i64 k ∧ ORow wr w.heap.size 5 v (xs.map bV) ∧ xs.length ≤ 48 ∧ Below w.heap.size w wr ∧ Hid (qAll s.data.toList = qRun (plainQ xs) k (s.data.toList.drop k))) (fun _ i _ => s.size - (intOf i).toNat)
  case atStart => exact ⟨0, [], Nat.zero_le _, rfl, ORow.nil _ _ _, by simp, Below.refl _ _, Lib.hid rfl⟩
  case round =>
    obtain ⟨k, xs, hk, rfl, hown, hl, hbel, HR⟩ := hrel
    have hbs := hbel.size
    obtain ⟨A, cap, hv⟩ := hown.shape
    subst hv
    rw [List.length_map] at hown
    rw [List.length_map]
    have hstr := put_str xs hown
    by_cases hlt : k < s.size
    · have hle := byte_le s[k]
      have hdc := drop_cons s k hlt
      have hrun := HR.out
      rw [hdc] at hrun
      obtain ⟨c, hc⟩ : ∃ c : UInt8, c = s[k] := ⟨_, rfl⟩
      have hci : (s[k].toNat : Int) = (c.toNat : Int) := by rw [hc]
      rw [← hc] at hrun hle
      have HC := Lib.hid hc
      clear hc hdc HR
      by_cases c34 : (c.toNat : Int) = 34
      · have hfin : qAll s.data.toList = ⟨xs, k, true, 0⟩ := hrun.trans (qRun_done (b := c) (q' := ⟨xs, 3, 0, 0⟩) (by rw [c34]; exact quote_step xs))
        have HN := Lib.hid (readEnd_done hfin)
        clear hfin hrun
        go_wp2
        ((try simp only [Exit.inBlock, Exit.then]); refine bodyPost_ret (results_tmp4 rfl _ _ _) rfl ?_)
        rw [HN.out]
        exact ⟨rfl, hbel⟩
      by_cases c32 : (c.toNat : Int) < 32
      · have hfin : qAll s.data.toList = ⟨xs, k, false, 2⟩ := hrun.trans (qRun_err (b := c) (q' := plainQ xs) (by show qPlain _ _ = _; unfold qPlain; rw [if_pos c32]) (by decide))
        have HN := Lib.hid (readEnd_err hfin (by decide))
        have n34 : ((c.toNat : Int) == 34) = false := beq_eq_false_iff_ne.2 c34
        clear hfin hrun c34
        go_wp2
        ((try simp only [Exit.inBlock, Exit.then]); refine bodyPost_ret (results_tmp4 rfl _ _ _) rfl ?_)
        rw [HN.out]
        exact ⟨rfl, hbel⟩
      have n34 : ((c.toNat : Int) == 34) = false := beq_eq_false_iff_ne.2 c34
      by_cases c92 : (c.toNat : Int) = 92
      · have hst : qStep (plainQ xs) (c.toNat : Int) = ⟨false, 0, ⟨xs, 1, 0, 0⟩⟩ := by rw [c92]; exact step_stroke xs
        have hrun1 : qAll s.data.toList = qRun ⟨xs, 1, 0, 0⟩ (k + 1) (s.data.toList.drop (k + 1)) := hrun.trans (qRun_on hst)
        obtain ⟨k1, hk1⟩ : ∃ k1 : Nat, (k : Int) + 1 = (k1 : Int) := ⟨k + 1, by omega⟩
        have hkk : k1 = k + 1 := by omega
        rw [← hkk] at hrun1
        have HKK := Lib.hid hkk
        clear hst hrun hkk c34 c32
        have hown1 := hown.alloc (.cells #[.int .u8 92] 5)
        have hbel1 := hbel.alloc hbs (.cells #[.int .u8 92] 5)
        have hstr1 := put_str xs hown1
        by_cases hlt1 : k1 < s.size
        · have hle1 := byte_le s[k1]
          have hdc1 := drop_cons s k1 hlt1
          rw [hdc1] at hrun1
          obtain ⟨b, hb⟩ : ∃ b : UInt8, b = s[k1] := ⟨_, rfl⟩
          have hbi : (s[k1].toNat : Int) = (b.toNat : Int) := by rw [hb]
          rw [← hb] at hrun1 hle1
          have HB := Lib.hid hb
          clear hb hdc1
          by_cases hu : (b.toNat : Int) = 117
          · have hesc : escI 117 = -1 := by decide
            have hon : qAll s.data.toList = qRun ⟨xs, 2, ((0 : Nat) : Int), 0⟩ (k1 + 1 + 0) (s.data.toList.drop (k1 + 1 + 0)) := hrun1.trans (qRun_on (b := b) (by rw [hu]; exact step_u xs))
            have HI : InnerAt (qAll s.data.toList) xs s.data.toList k1 0 0 := by unfold InnerAt; rw [if_pos (by decide)]; exact hon
            have HI0 := Lib.hid HI
            have hpl : decide (0 ≤ escI 117) = false := by decide
            have hpv : escV 117 = 0 := by decide
            have HPL := Lib.hid hpl
            have HPV := Lib.hid hpv
            clear hon HI hrun1 hesc hpl hpv
            go_wp2_with (first
              | (go_at_call 17; refine (plain_any _ (by omega) (by omega) _).mono ?_; rintro e w' ⟨rfl, rfl⟩; rw [HPL.out, HPV.out]))
            have hown3 := hown1.alloc (.cells #[.int .u8 0] 5)
            have hbel3 := hbel1.alloc (by simp; omega) (.cells #[.int .u8 0] 5)
            have hsz3 : w.heap.size ≤ ((wr.alloc (.cells #[.int .u8 92] 5)).alloc (.cells #[.int .u8 0] 5)).heap.size := hbel3.size
            have hstr3 := put_str xs hown3
            generalize hw3 : ((wr.alloc (.cells #[.int .u8 92] 5)).alloc (.cells #[.int .u8 0] 5)) = w3 at *
            clear hw3
            go_loop [9, 14, 15] (fun at_ n j => ∃ (p m : Nat) (nn : Int), m ≤ 4 ∧ j = .int .i64 m ∧ at_ = .int .i64 p ∧ n = .int .i64 nn ∧ p < s.size ∧ 0 ≤ nn ∧ nn < 65536 ∧ Hid (p = k1 + m ∧ nnOk m nn ∧ InnerAt (qAll s.data.toList) xs s.data.toList k1 m nn)) (fun _ _ j => 4 - (intOf j).toNat)
            case atStart => exact ⟨k1, 0, 0, by omega, rfl, rfl, rfl, hlt1, by omega, by omega, Lib.hid ⟨rfl, by unfold nnOk; omega, HI0.out⟩⟩
            case round =>
              obtain ⟨p, m, nn, hm4, rfl, rfl, rfl, hps, hn0, hn1, HH⟩ := hrel
              obtain ⟨p1, hp1⟩ : ∃ p1 : Nat, (p : Int) + 1 = (p1 : Int) := ⟨p + 1, by omega⟩
              have HP1 := Lib.hid (show p1 = k1 + 1 + m from by have := HH.out.1; omega)
              by_cases hmlt : m < 4
              · by_cases hpl1 : p1 < s.size
                · have hle2 := byte_le s[p1]
                  have hdc := drop_cons s p1 hpl1
                  obtain ⟨c3, hc3⟩ : ∃ c3 : UInt8, c3 = s[p1] := ⟨_, rfl⟩
                  have hc3i : (s[p1].toNat : Int) = (c3.toNat : Int) := by rw [hc3]
                  have hx := hexI_lt (c3.toNat : Int)
                  rw [← hc3] at hdc
                  rw [hc3i] at hle2
                  have HC3 := Lib.hid hc3
                  clear hc3
                  by_cases hneg : hexI (c3.toNat : Int) < 0
                  · have HN := Lib.hid (readEnd_err (inner_bad HP1.out HH.out.2.2 hmlt hdc hneg) (by decide))
                    clear hdc
                    go_wp2_with (first
                      | (go_at_call 18; refine (hex_any _ (by omega) (by omega) _).mono ?_; rintro e w' ⟨rfl, rfl⟩))
                    ((try simp only [Exit.inBlock, Exit.then]); refine bodyPost_ret (results_tmp4 rfl _ _ _) rfl ?_)
                    rw [HN.out]
                    exact ⟨rfl, hbel3⟩
                  · have HS := Lib.hid (inner_step HP1.out HH.out.2.2 hmlt hdc (by omega))
                    have HO := Lib.hid (nnOk_step HH.out.2.1 hmlt (by omega) hx)
                    have hr : 0 ≤ 16 * nn + hexI (c3.toNat : Int) ∧ 16 * nn + hexI (c3.toNat : Int) < 65536 := by
                      have := HO.out
                      unfold nnOk at this
                      omega
                    obtain ⟨hr0, hr1⟩ := hr
                    clear hdc
                    go_wp2_with (first
                      | (go_at_call 18; refine (hex_any _ (by omega) (by omega) _).mono ?_; rintro e w' ⟨rfl, rfl⟩))
                    go_round
                    case rel => exact ⟨p1, m + 1, 16 * nn + hexI (c3.toNat : Int), by omega, by go_num, rfl, rfl, hpl1, hr0, hr1, Lib.hid ⟨by have := HP1.out; omega, HO.out, HS.out⟩⟩
                    case measure => simp [intOf]; omega
                · have HN := Lib.hid (readEnd_end (inner_end HP1.out HH.out.2.2 hmlt (by simp; omega)))
                  have hke : ((p1 : Int) == (s.size : Int)) = true := by rw [beq_iff_eq]; omega
                  go_wp2
                  ((try simp only [Exit.inBlock, Exit.then]); refine bodyPost_ret (results_tmp4 rfl _ _ _) rfl ?_)
                  rw [HN.out]
                  exact ⟨rfl, hbel3⟩
              · have hfour : m = 4 := by omega
                have hR := HH.out.2.2
                rw [hfour] at hR
                unfold InnerAt at hR
                rw [if_neg (by decide)] at hR
                have hpk : p = k1 + 4 := by have := HH.out.1; omega
                rw [← hpk] at hR
                have HPK := Lib.hid hpk
                clear hfour hpk
                go_wp2_with fail
                refine (rput_any nn _).mono ?_
                rintro e w4 ⟨rfl, hb4⟩
                have hown4 := hown3.below hb4 (fun g' hg => (World.ownsRow.lt hown3 g' hg).2)
                have hbel4 := hbel3.trans (hb4.mono hsz3)
                have hsz4 := hbel4.size
                have hstr4 := put_str xs hown4
                by_cases hmay : mayB nn = true
                · rw [if_pos hmay] at hR
                  have hput : putS nn = ⟨(putL nn).toArray⟩ := by unfold putS; rw [if_pos hmay]
                  have hlen : (putL nn).length ≤ 4 := by
                    unfold putL
                    repeat' split
                    all_goals simp
                  obtain ⟨cc, w5, hcv, hcells, hb5⟩ := bytes_of w4 (putL nn)
                  have hcellw : w4.heap.size < w4.heap.size + 1 := Nat.lt_succ_self _
                  have hown6 := hown4.below hb5 (fun g' hg => (World.ownsRow.lt hown4 g' hg).2)
                  have hbel6 := hbel4.trans (hb5.mono hsz4)
                  have hsz6 := hbel6.size
                  have hstr6 := put_str xs hown6
                  have HM := Lib.hid hmay
                  have HPT := Lib.hid hput
                  have hnl : xs.length + (putL nn).length ≤ 52 := by omega
                  rw [HM.out, HPT.out]
                  clear hmay hput hlen hcellw
                  by_cases hov : 48 < xs.length + (putL nn).length
                  · rw [if_pos hov] at hR
                    have HN := Lib.hid (readEnd_err hR (by decide))
                    clear hR
                    go_wp2
                    ((try simp only [Exit.inBlock, Exit.then]); refine bodyPost_ret (results_tmp4 rfl _ _ _) rfl ?_)
                    rw [HN.out]
                    exact ⟨rfl, hbel6⟩
                  · rw [if_neg hov] at hR
                    have hp5 : k1 + 5 = p + 1 := by have := HPK.out; omega
                    rw [hp5] at hR
                    have HN := Lib.hid hR
                    have hov2 : xs.length + (putL nn).length ≤ 48 := by omega
                    have hu1 : ∀ u ∈ (putL nn).map bV, u.oneCell' = true := by
                      intro u hu
                      obtain ⟨b', _, rfl⟩ := List.mem_map.1 hu
                      rfl
                    clear hR hp5 hov
                    go_wp2_with (first
                      | (at_builtin; refine wp_appS rfl _ _ 34 rfl w.heap.size 5 (.int .u8 0) 1 Try.underlying34 Try.info5 rfl _ _ ((putL nn).map bV) rfl (by exact hown6) (by exact hu1) ⟨w4.heap.size, 0, none⟩ (putL nn).length cc (by simp) rfl hcells (by simp [maxLen]; omega) (by simp; omega) (by first | omega | (simp; omega)) ?_; intro v2 w2 hown7 hb7))
                    go_roundw
                    case rel => exact ⟨p + 1, xs ++ putL nn, by omega, by go_num, by rw [List.map_append]; exact hown7, by simp; omega, hbel6.trans hb7, HN⟩
                    case measure => simp [intOf]; have := HPK.out; have := HKK.out; omega
                · rw [if_neg hmay] at hR
                  have hmf : mayB nn = false := by simpa using hmay
                  have HM := Lib.hid hmf
                  have HN := Lib.hid (readEnd_err hR (by decide))
                  rw [HM.out]
                  clear hmay hmf hR
                  go_wp2
                  ((try simp only [Exit.inBlock, Exit.then]); refine bodyPost_ret (results_tmp4 rfl _ _ _) rfl ?_)
                  rw [HN.out]
                  exact ⟨rfl, hbel4⟩
          · have hub : ((b.toNat : Int) == 117) = false := beq_eq_false_iff_ne.2 hu
            by_cases he : escI (b.toNat : Int) < 0
            · have hfin : qAll s.data.toList = ⟨xs, k1, false, 9⟩ := hrun1.trans (qRun_err (b := b) (q' := ⟨xs, 1, 0, 0⟩) (by show qLetter _ _ = _; unfold qLetter; rw [if_neg hu, if_pos he]) (by decide))
              have HN := Lib.hid (readEnd_err hfin (by decide))
              have hpl : decide (0 ≤ escI (b.toNat : Int)) = false := by simp; omega
              have hstr2 := put_str xs (hown1.alloc (.cells #[.int .u8 (escV (b.toNat : Int))] 5))
              have HPL := Lib.hid hpl
              clear hfin hrun1 hu he hpl
              go_wp2_with (first
                | (go_at_call 17; refine (plain_any _ (by omega) (by omega) _).mono ?_; rintro e w' ⟨rfl, rfl⟩; rw [HPL.out]))
              ((try simp only [Exit.inBlock, Exit.then]); refine bodyPost_ret (results_tmp4 rfl _ _ _) rfl ?_)
              rw [HN.out]
              exact ⟨rfl, hbel1.alloc (by simp; omega) _⟩
            · have hpl : decide (0 ≤ escI (b.toNat : Int)) = true := by simp; omega
              have hpv : escV (b.toNat : Int) = escI (b.toNat : Int) := by unfold escV; rw [if_neg he]
              have hel := escI_lt (b.toNat : Int)
              have hst : qStep ⟨xs, 1, 0, 0⟩ (b.toNat : Int) = qAdd ⟨xs, 1, 0, 0⟩ [b8 (escI (b.toNat : Int))] := by
                show qLetter _ _ = _; unfold qLetter; rw [if_neg hu, if_neg he]
              have HPL := Lib.hid hpl
              have HPV := Lib.hid hpv
              by_cases hov : 48 < xs.length + 1
              · have hfin : qAll s.data.toList = ⟨xs, k1, false, 4⟩ := hrun1.trans (qRun_err (b := b) (q' := ⟨xs, 1, 0, 0⟩) (by rw [hst]; unfold qAdd; rw [if_pos (by simpa using hov)]) (by decide))
                have HN := Lib.hid (readEnd_err hfin (by decide))
                have hstr2 := put_str xs (hown1.alloc (.cells #[.int .u8 (escI (b.toNat : Int))] 5))
                clear hfin hrun1 hu he hpl hpv hst
                go_wp2_with (first
                  | (go_at_call 17; refine (plain_any _ (by omega) (by omega) _).mono ?_; rintro e w' ⟨rfl, rfl⟩; rw [HPL.out, HPV.out]))
                ((try simp only [Exit.inBlock, Exit.then]); refine bodyPost_ret (results_tmp4 rfl _ _ _) rfl ?_)
                rw [HN.out]
                exact ⟨rfl, hbel1.alloc (by simp; omega) _⟩
              · have hon : qAll s.data.toList = qRun (plainQ (xs ++ [b8 (escI (b.toNat : Int))])) (k1 + 1) (s.data.toList.drop (k1 + 1)) := hrun1.trans (qRun_on (b := b) (by rw [hst]; exact qAdd_ok (by simp; omega)))
                have HN := Lib.hid hon
                have hlt48 : xs.length < 48 := by omega
                have hown2 := hown1.alloc (.cells #[.int .u8 (escI (b.toNat : Int))] 5)
                have hbel2 := hbel1.alloc (by simp; omega) (.cells #[.int .u8 (escI (b.toNat : Int))] 5)
                have he0 : 0 ≤ escI (b.toNat : Int) := by omega
                have hcn := cells_new (wr.alloc (.cells #[.int .u8 92] 5)) [.int .u8 (escI (b.toNat : Int))] 5
                rw [show (wr.alloc (.cells #[.int .u8 92] 5)).heap.size = wr.heap.size + 1 from by simp] at hcn
                clear hon hrun1 hu he hpl hpv hst hov
                go_wp2_with (first
                  | (go_at_call 17; refine (plain_any _ (by omega) (by omega) _).mono ?_; rintro e w' ⟨rfl, rfl⟩; rw [HPL.out, HPV.out])
                  | (at_builtin; refine wp_appS rfl _ _ 34 rfl w.heap.size 5 (.int .u8 0) 1 Try.underlying34 Try.info5 rfl _ _ [.int .u8 (escI (b.toNat : Int))] rfl (by exact hown2) (by simp [Value.oneCell']) ⟨wr.heap.size + 1, 0, none⟩ 1 1 rfl rfl hcn (by simp [maxLen]; omega) (by simp; omega) (by first | omega | (simp; omega)) ?_; intro v2 w2 hown4 hb4))
                go_roundw
                case rel => exact ⟨k1 + 1, xs ++ [b8 (escI (b.toNat : Int))], by omega, by go_num, by rw [List.map_append, List.map_cons, List.map_nil, bV_b8 _ he0 hel]; exact hown4, by simp; omega, hbel2.trans hb4, HN⟩
                case measure => simp [intOf]; omega
        · have hkn : k1 = s.size := by have := HKK.out; omega
          have hfin : qAll s.data.toList = ⟨xs, k1, false, 0⟩ := by
            rw [hrun1, List.drop_eq_nil_of_le (by simp; omega)]
            rfl
          have HN := Lib.hid (readEnd_end hfin)
          have hke : ((k1 : Int) == (s.size : Int)) = true := by rw [hkn]; simp
          clear hfin hrun1 hkn
          go_wp2
          ((try simp only [Exit.inBlock, Exit.then]); refine bodyPost_ret (results_tmp4 rfl _ _ _) rfl ?_)
          rw [HN.out]
          exact ⟨rfl, hbel1⟩
      have n92 : ((c.toNat : Int) == 92) = false := beq_eq_false_iff_ne.2 c92
      have hst : qStep (plainQ xs) (c.toNat : Int) = qAdd (plainQ xs) [c] := by
        show qPlain _ _ = _
        unfold qPlain
        rw [if_neg c32, if_neg c34, if_neg c92, b8_of]
      by_cases hov : 48 < xs.length + 1
      · have hfin : qAll s.data.toList = ⟨xs, k, false, 4⟩ := hrun.trans (qRun_err (b := c) (q' := plainQ xs) (by rw [hst]; unfold qAdd; rw [if_pos (by simp [plainQ]; omega)]) (by decide))
        have HN := Lib.hid (readEnd_err hfin (by decide))
        have hstr2 := put_str xs (hown.alloc (.cells #[.int .u8 (c.toNat : Int)] 5))
        clear hfin hrun c34 c92 hst
        go_wp2
        ((try simp only [Exit.inBlock, Exit.then]); refine bodyPost_ret (results_tmp4 rfl _ _ _) rfl ?_)
        rw [HN.out]
        exact ⟨rfl, hbel.alloc hbs _⟩
      · have hon : qAll s.data.toList = qRun (plainQ (xs ++ [c])) (k + 1) (s.data.toList.drop (k + 1)) := hrun.trans (qRun_on (b := c) (by rw [hst]; exact qAdd_ok (by simp [plainQ]; omega)))
        have HN := Lib.hid hon
        have hlt48 : xs.length < 48 := by omega
        clear hon hrun c34 c92 hst hov
        go_wp2_with (first
          | (at_builtin; refine wp_appS rfl _ _ 34 rfl w.heap.size 5 (.int .u8 0) 1 Try.underlying34 Try.info5 rfl _ _ [.int .u8 (c.toNat : Int)] rfl (by exact hown.alloc _) (by simp [Value.oneCell']) ⟨wr.heap.size, 0, none⟩ 1 1 rfl rfl (cells_new wr [.int .u8 (c.toNat : Int)] 5) (by simp [maxLen]; omega) (by simp; omega) (by simp; omega) ?_; intro v2 w2 hown2 hb2))
        go_roundw
        case rel => exact ⟨k + 1, xs ++ [c], by omega, by go_num, by rw [List.map_append]; exact hown2, by simp; omega, (hbel.alloc hbs _).trans hb2, HN⟩
        case measure => simp [intOf]; omega
    · have hkn : k = s.size := by omega
      subst hkn
      have hfin : qAll s.data.toList = ⟨xs, s.size, false, 0⟩ := by
        rw [HR.out, List.drop_eq_nil_of_le (by simp)]
        rfl
      have HN := Lib.hid (readEnd_end hfin)
      clear hfin
      go_wp2
      ((try simp only [Exit.inBlock, Exit.then]); refine bodyPost_ret (results_tmp4 rfl _ _ _) rfl ?_)
      rw [HN.out]
      exact ⟨rfl, hbel⟩
end Go.Proofs.Ytffocpkbmflijaa

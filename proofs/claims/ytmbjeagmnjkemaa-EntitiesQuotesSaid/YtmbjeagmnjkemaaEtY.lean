/-
  The walks of EntitiesPlain, EntitiesQuotes and EntitiesTells.
-/
import Derived.Test.YtmbjeagmnjkemaaEtV
import Derived.Test.YtmbjeagmnjkemaaEtQ
namespace Go.Proofs.Ytmbjeagmnjkemaa
open Go.RowKit Go.Maps
set_option maxRecDepth 100000
set_option linter.unusedSimpArgs false
set_option linter.unusedVariables false
set_option linter.unusedSectionVars false
variable [Fo]

theorem ORow.t2 {e mb base : Nat} {t : TypeId} {v : Value} {xs : List Value} {w w' : World} (h : ORow w base t v xs) (k : T2 e mb w w') (he : e < base) (hm : mb < base) : ORow w' base t v xs := by
  refine ⟨h.1, ?_⟩
  rcases h.2 with hn | ⟨g, cap, cur, hv, hg, hh, r⟩
  · exact .inl hn
  · exact .inr ⟨g, cap, cur, hv, hg, (k.block g (Blk.lt hh) (by omega) (by omega)).trans hh, r⟩

def plainF (l : List UInt8) (k : Nat) : List UInt8 := (l.take k).filter (fun c => c != 38)
theorem plainF_yes {l : List UInt8} {k : Nat} (h : k < l.length) (hc : l[k] ≠ 38) : plainF l (k + 1) = plainF l k ++ [l[k]] := by
  unfold plainF
  rw [List.take_succ_eq_append_getElem h, List.filter_append]
  simp [hc]
theorem plainF_no {l : List UInt8} {k : Nat} (h : k < l.length) (hc : l[k] = 38) : plainF l (k + 1) = plainF l k := by
  unfold plainF
  rw [List.take_succ_eq_append_getElem h, List.filter_append]
  simp [hc]
theorem plainF_len (l : List UInt8) (k : Nat) : (plainF l k).length ≤ k := by
  unfold plainF
  exact Nat.le_trans (List.length_filter_le _ _) (List.length_take_le _ _)
theorem plainF_fill (l : List UInt8) (k : Nat) : fillL [] (plainF l k) 0 = ⟨plainF l k, 0, (plainF l k).length, 0⟩ := by
  unfold fillL
  rw [fill_plain [] (plainF l k) _ 0 [] 0 ?_ (Nat.le_refl _)]
  · simp
  · intro c hc
    unfold plainF at hc
    simpa using (List.mem_filter.1 hc).2

set_option maxHeartbeats 4000000 in
theorem walk_EntitiesPlain (v : Value) (l : List UInt8) (hl : l.length ≤ 140737488355328) (w : World) (hd : BRead w v l) :
    Calls Try.prog 4 #[v] w fun e w' => e = .returned (.bool true) ∧ Below w.heap.size w w' := by
  obtain ⟨A, c, rfl, hr⟩ := hd
  have HC := Lib.hid hr
  obtain ⟨N, hN⟩ : ∃ N, l.length = N := ⟨_, rfl⟩
  have HL := Lib.hid hN
  rw [hN] at hl ⊢
  clear hr hN
  go_enter Try.func4, Try.ntmps4
  go_wp2_with (first
    | (go_at_call 7; refine (enew_any _).mono ?_; rintro x w1 ⟨e, mb, rfl, he, hm, h1, hb1⟩))
  have hel := h1.blk.lt
  have hml := h1.map.lt
  go_loopw [4, 5] (fun u i wr => ∃ k : Nat, k ≤ N ∧ k ≤ 400 ∧ i = .int .i64 k ∧ ORow wr w1.heap.size 5 u ((plainF l k).map bV) ∧ EAt wr e mb [] 0 ∧ w1.heap.size ≤ wr.heap.size ∧ Below w.heap.size w wr) (fun _ i _ => N - (intOf i).toNat)
  case atStart => exact ⟨0, Nat.zero_le _, Nat.zero_le _, rfl, ORow.nil _ _ _, h1, Nat.le_refl _, hb1⟩
  case round =>
    obtain ⟨k, hk, hk4, rfl, hrow, hs, hsz, hb⟩ := hrel
    clear h1 hb1
    by_cases hgo : k < N ∧ k < 400
    case neg =>
      have hlen := plainF_len l k
      have HF := Lib.hid (plainF_fill l k)
      obtain ⟨F, hF⟩ : ∃ F, plainF l k = F := ⟨_, rfl⟩
      rw [hF] at hrow hlen HF
      have hfl : (⟨F.toArray⟩ : ByteArray).data.toList = F := rfl
      have hfs : (⟨F.toArray⟩ : ByteArray).size = F.length := by show F.toArray.size = _; simp
      obtain ⟨A2, c2, hv⟩ := hrow.shape
      rw [List.length_map] at hv
      have hcv := run_string_of_row (P := Try.prog) 36 9 F Try.underlying36 Try.underlying5 Try.underlying9 hrow
      have hfs2 : (⟨F.toArray⟩ : ByteArray).size ≤ 100000000 := by omega
      have HF2 := Lib.hid (show fillL [] (⟨F.toArray⟩ : ByteArray).data.toList 0 = ⟨F, 0, F.length, 0⟩ from HF.out)
      subst hv
      clear hF HF hfl
      obtain ⟨fa, hfa⟩ : ∃ fa, (⟨F.toArray⟩ : ByteArray) = fa := ⟨_, rfl⟩
      have HFA := Lib.hid hfa
      rw [hfa] at hcv hfs hfs2 HF2
      by_cases hlt : k < N
      case' pos => have h300 : decide ((k : Int) < 400) = false := by rw [decide_eq_false_iff_not]; omega
      all_goals
        clear hgo hfa
        go_wp2_with (first
          | (go_at_call 14; refine (efill_any _ e mb _ _ _ hs hfs2).mono ?_; rw [HF2.out]; simp only; rw [HFA.out]; rintro x w3 ⟨rfl, hs3, t3⟩; have hb3 := hb.trans (t3.below hb.size he hm); have hcv3 := run_string_of_row (P := Try.prog) 36 9 F Try.underlying36 Try.underlying5 Try.underlying9 (hrow.t2 t3 hel hml); rw [HFA.out] at hcv3)
          | (go_at_call 12; refine (etold_any _ e mb _ _ hs3).mono ?_; rintro x w4 ⟨rfl, rfl⟩)
          | (go_at_call 13; refine (lives13_any _).mono ?_; rintro x w5 ⟨rfl, hb5⟩))
        go_ret
        exact ⟨rfl, hb3.trans (hb5.mono hb3.size)⟩
    case pos =>
      obtain ⟨hlt, h400⟩ := hgo
      have hkl : k < l.length := by rw [HL.out]; exact hlt
      obtain ⟨ad, rfl, hc⟩ := HC.out (by omega)
      have g0 := hc k hkl
      have k0 := (hb.cell (cell_lt g0)).trans g0
      clear hc g0
      have hle := byte_le l[k]
      by_cases h38 : l[k] = 38
      · have z0 : (l[k].toNat : Int) = 38 := by rw [h38]; rfl
        have z1 : ((l[k].toNat : Int) != 38) = false := by simp [z0]
        have hP := Lib.hid (plainF_no hkl h38)
        generalize l[k] = b at *
        clear h38 z0
        go_wp2
        go_roundw
        case rel => exact ⟨k + 1, hlt, by omega, by go_num, by rw [hP.out]; exact hrow, hs, hsz, hb⟩
        case measure => first | (simp [intOf]; done) | (simp [intOf]; omega)
      · have hn : ¬ (l[k].toNat : Int) = 38 := fun e => h38 (by apply UInt8.toNat_inj.1; rw [show (38 : UInt8).toNat = 38 from rfl]; omega)
        have z1 : ((l[k].toNat : Int) != 38) = true := by simpa using hn
        have hP := Lib.hid (show (plainF l (k + 1)).map bV = (plainF l k).map bV ++ [.int .u8 (l[k].toNat : Int)] by rw [plainF_yes hkl h38]; simp [bV])
        have hlen := plainF_len l k
        have h63 : ((plainF l k).map bV).length + 1 ≤ maxLen := by rw [List.length_map]; simp only [maxLen]; omega
        have h1b : (((plainF l k).map bV).length + 1) * 1 ≤ 140737488355328 := by rw [List.length_map]; omega
        generalize l[k] = b at *
        generalize (plainF l k).map bV = F at *
        clear h38 hn
        go_wp2_with (first
          | (at_builtin; refine wp_app1b rfl _ _ 36 rfl w1.heap.size 5 (.int .u8 0) 1 Try.underlying36 Try.infoByteB rfl _ _ _ rfl (by exact hrow) rfl _ rfl h63 h1b hsz ?_; intro v2 w2 hrow2 hb2))
        go_roundw
        case rel => exact ⟨k + 1, hlt, by omega, by go_num, by rw [hP.out]; exact hrow2, hs.thenB hb2 hel hml, Nat.le_trans hsz hb2.size, hb.trans (hb2.mono (by omega))⟩
        case measure => first | (simp [intOf]; done) | (simp [intOf]; omega)

theorem str_of_readE {P : Program} {w : World} {v : Value} {l : List UInt8} (src dst e : TypeId) (hs : P.underlying src = some (.slice e)) (he : P.underlying e = some (.int .u8)) (hd : P.underlying dst = some .string) (h : BRead w v l) :
    (convert src dst v).run P w = .ok (.string ⟨l.toArray⟩) w := by
  obtain ⟨A, c, rfl, hc⟩ := h
  cases A with
  | some ad =>
    refine run_convert_bytes_back w src dst e ad c l hs he hd fun j hj => ?_
    obtain ⟨ad', e1, hcell⟩ := hc (by omega)
    injection e1 with e1
    subst e1
    exact hcell j hj
  | none =>
    have h0 : l = [] := by
      rcases Nat.eq_zero_or_pos l.length with h | h
      · exact List.eq_nil_of_length_eq_zero h
      · obtain ⟨_, e1, _⟩ := hc h; cases e1
    subst h0
    exact Lib.run_convert_nil_bytes w src dst e c hs he hd
theorem BRead.takeE {w : World} {A : Option Addr} {c : Nat} {ts : List UInt8} (h : BRead w (.slice A ts.length c) ts) {k : Nat} (hk : k ≤ ts.length) : BRead w (.slice A k c) (ts.take k) := by
  obtain ⟨A', c', hv, hc⟩ := h
  injection hv with e1 _ e3
  subst e1 e3
  have hlen : (ts.take k).length = k := by simp; omega
  refine ⟨A, c, by rw [hlen], fun hp => ?_⟩
  obtain ⟨ad, hA, hc⟩ := hc (by omega)
  refine ⟨ad, hA, fun j hj => ?_⟩
  rw [hc j (by omega), List.getElem_take]

set_option maxHeartbeats 4000000 in
theorem walk_EntitiesQuotes (v : Value) (l0 : List UInt8) (hl0 : l0.length ≤ 140737488355328) (hcap0 : ∀ A n c, v = .slice A n c → n ≤ c) (w : World) (hd0 : BRead w v l0) :
    Calls Try.prog 6 #[v] w fun e w' => e = .returned (.bool true) ∧ Below w.heap.size w w' := by
  obtain ⟨A, c, hv, hr0⟩ := id hd0
  subst hv
  have hcap := hcap0 _ _ _ rfl
  obtain ⟨M, hM⟩ : ∃ M, min l0.length 200 = M := ⟨_, rfl⟩
  have hM2 : M ≤ 200 := by omega
  have hMl : M ≤ l0.length := by omega
  have hMc : M ≤ c := by omega
  have HR := Lib.hid (hd0.takeE hMl)
  obtain ⟨l, hlq⟩ : ∃ l, l0.take M = l := ⟨_, rfl⟩
  have hll : l.length = M := by rw [← hlq]; simp; omega
  rw [hlq] at HR
  obtain ⟨N, hN⟩ : ∃ N, l0.length = N := ⟨_, rfl⟩
  rw [hN] at hl0 hM hMl ⊢
  rw [hN] at hcap
  clear hd0 hcap0 hr0 hlq hN
  have HM := Lib.hid hM
  clear hM
  go_enter Try.func6, Try.ntmps6
  go_wp2_with (first
    | (go_at_call 7; refine (enew_any _).mono ?_; rintro x w1 ⟨e, mb, rfl, he, hm, h1, hb1⟩))
  all_goals
    first
      | (have hMe : M = 200 := (by have := HM.out; omega)
         rw [show Value.slice A 200 c = Value.slice A M c by rw [hMe]]
         clear hMe)
      | (have hMe : M = N := (by have := HM.out; omega)
         rw [show Value.slice A N c = Value.slice A M c by rw [hMe]]
         clear hMe)
    go_loopw [4, 5] (fun u i wr => ∃ (k : Nat) (b : ByteArray), k ≤ l.length ∧ i = .int .i64 k ∧ u = .string b ∧ Hid (b.data.toList = encL (l.take k)) ∧ b.size ≤ 6 * k ∧ EAt wr e mb [] 0 ∧ Below w.heap.size w wr) (fun _ i _ => l.length - (intOf i).toNat)
    case atStart => exact ⟨0, ⟨#[]⟩, Nat.zero_le _, rfl, rfl, Lib.hid (by simp [encL]), by decide, h1, hb1⟩
    case round =>
    obtain ⟨k, b, hk, rfl, rfl, HB, hbs, hs, hb⟩ := hrel
    clear h1 hb1
    by_cases hlk : k < l.length
    · have hlkN : (k : Int) < (l.length : Int) := by omega
      rw [hll] at hlkN
      obtain ⟨A', c', hv, hc⟩ := HR.out
      injection hv with e1 e2 e3
      clear e2
      subst e1 e3
      obtain ⟨ad, hA, hcl⟩ := hc (by omega)
      subst hA
      have g0 := hcl k hlk
      have k0 := (hb.cell (cell_lt g0)).trans g0
      clear hc hcl g0
      have hkM : k < M := by omega
      have hle := byte_le l[k]
      have HNN := Lib.hid (show ∀ n : UInt8, l[k] ≠ n → ((l[k].toNat : Int) == (n.toNat : Int)) = false from fun n hn => by
        simp only [beq_eq_false_iff_ne, ne_eq]
        intro h
        exact hn (UInt8.toNat_inj.1 (by omega)))
      by_cases h60 : l[k] = 60
      · have z0 : (l[k].toNat : Int) = 60 := by rw [h60]; rfl
        have z60 : ((l[k].toNat : Int) == 60) = true := by simp [z0]
        have HX := Lib.hid (show (b ++ (⟨#[38, 108, 116, 59]⟩ : ByteArray)).data.toList = encL (l.take (k + 1)) by
          rw [enc_step hlk, ByteArray.data_append, Array.toList_append, HB.out, show encE l[k] = [38, 108, 116, 59] by rw [h60]; rfl])
        have hbs1 : (b ++ (⟨#[38, 108, 116, 59]⟩ : ByteArray)).size ≤ 6 * (k + 1) := by
          rw [ByteArray.size_append]
          have : (⟨#[38, 108, 116, 59]⟩ : ByteArray).size ≤ 6 := by decide
          omega
        generalize l[k] = by8 at *
        clear h60 z0
        go_wp2
        go_roundw
        case rel => exact ⟨k + 1, _, hlk, by go_num, rfl, HX, hbs1, hs, hb⟩
        case measure => first | (simp [intOf]; done) | (simp [intOf]; omega)
      by_cases h62 : l[k] = 62
      · have z0 : (l[k].toNat : Int) = 62 := by rw [h62]; rfl
        have z60 : ((l[k].toNat : Int) == 60) = false := by simp [z0]
        have z62 : ((l[k].toNat : Int) == 62) = true := by simp [z0]
        have HX := Lib.hid (show (b ++ (⟨#[38, 103, 116, 59]⟩ : ByteArray)).data.toList = encL (l.take (k + 1)) by
          rw [enc_step hlk, ByteArray.data_append, Array.toList_append, HB.out, show encE l[k] = [38, 103, 116, 59] by rw [h62]; rfl])
        have hbs1 : (b ++ (⟨#[38, 103, 116, 59]⟩ : ByteArray)).size ≤ 6 * (k + 1) := by
          rw [ByteArray.size_append]
          have : (⟨#[38, 103, 116, 59]⟩ : ByteArray).size ≤ 6 := by decide
          omega
        generalize l[k] = by8 at *
        clear h62 z0
        go_wp2
        go_roundw
        case rel => exact ⟨k + 1, _, hlk, by go_num, rfl, HX, hbs1, hs, hb⟩
        case measure => first | (simp [intOf]; done) | (simp [intOf]; omega)
      by_cases h38 : l[k] = 38
      · have z0 : (l[k].toNat : Int) = 38 := by rw [h38]; rfl
        have z60 : ((l[k].toNat : Int) == 60) = false := by simp [z0]
        have z62 : ((l[k].toNat : Int) == 62) = false := by simp [z0]
        have z38 : ((l[k].toNat : Int) == 38) = true := by simp [z0]
        have HX := Lib.hid (show (b ++ (⟨#[38, 97, 109, 112, 59]⟩ : ByteArray)).data.toList = encL (l.take (k + 1)) by
          rw [enc_step hlk, ByteArray.data_append, Array.toList_append, HB.out, show encE l[k] = [38, 97, 109, 112, 59] by rw [h38]; rfl])
        have hbs1 : (b ++ (⟨#[38, 97, 109, 112, 59]⟩ : ByteArray)).size ≤ 6 * (k + 1) := by
          rw [ByteArray.size_append]
          have : (⟨#[38, 97, 109, 112, 59]⟩ : ByteArray).size ≤ 6 := by decide
          omega
        generalize l[k] = by8 at *
        clear h38 z0
        go_wp2
        go_roundw
        case rel => exact ⟨k + 1, _, hlk, by go_num, rfl, HX, hbs1, hs, hb⟩
        case measure => first | (simp [intOf]; done) | (simp [intOf]; omega)
      by_cases h34 : l[k] = 34
      · have z0 : (l[k].toNat : Int) = 34 := by rw [h34]; rfl
        have z60 : ((l[k].toNat : Int) == 60) = false := by simp [z0]
        have z62 : ((l[k].toNat : Int) == 62) = false := by simp [z0]
        have z38 : ((l[k].toNat : Int) == 38) = false := by simp [z0]
        have z34 : ((l[k].toNat : Int) == 34) = true := by simp [z0]
        have HX := Lib.hid (show (b ++ (⟨#[38, 113, 117, 111, 116, 59]⟩ : ByteArray)).data.toList = encL (l.take (k + 1)) by
          rw [enc_step hlk, ByteArray.data_append, Array.toList_append, HB.out, show encE l[k] = [38, 113, 117, 111, 116, 59] by rw [h34]; rfl])
        have hbs1 : (b ++ (⟨#[38, 113, 117, 111, 116, 59]⟩ : ByteArray)).size ≤ 6 * (k + 1) := by
          rw [ByteArray.size_append]
          have : (⟨#[38, 113, 117, 111, 116, 59]⟩ : ByteArray).size ≤ 6 := by decide
          omega
        generalize l[k] = by8 at *
        clear h34 z0
        go_wp2
        go_roundw
        case rel => exact ⟨k + 1, _, hlk, by go_num, rfl, HX, hbs1, hs, hb⟩
        case measure => first | (simp [intOf]; done) | (simp [intOf]; omega)
      · have z60 : ((l[k].toNat : Int) == 60) = false := HNN.out 60 h60
        have z62 : ((l[k].toNat : Int) == 62) = false := HNN.out 62 h62
        have z38 : ((l[k].toNat : Int) == 38) = false := HNN.out 38 h38
        have z34 : ((l[k].toNat : Int) == 34) = false := HNN.out 34 h34
        have HX := Lib.hid (show (b ++ (⟨#[l[k]]⟩ : ByteArray)).data.toList = encL (l.take (k + 1)) by
          rw [enc_step hlk, ByteArray.data_append, Array.toList_append, HB.out, show encE l[k] = [l[k]] by unfold encE; rw [if_neg h60, if_neg h62, if_neg h38, if_neg h34]])
        have hbs1 : (b ++ (⟨#[l[k]]⟩ : ByteArray)).size ≤ 6 * (k + 1) := by
          rw [ByteArray.size_append]
          have : (⟨#[l[k]]⟩ : ByteArray).size = 1 := rfl
          omega
        generalize l[k] = by8 at *
        clear h60 h62 h38 h34
        have hk1c : k + 1 ≤ c := by omega
        have hcv : (convert 36 9 (.slice (some (ad.add k)) 1 (c - k))).run Try.prog wr = .ok (.string ⟨#[by8]⟩) wr :=
          run_convert_bytes_back wr 36 9 5 (ad.add k) (c - k) [by8] Try.underlying36 Try.underlying5 Try.underlying9 (fun j hj => by
            have hj0 : j = 0 := by simpa using hj
            subst hj0
            have e0 : (ad.add k).add 0 = ad.add k := by unfold Addr.add; split <;> simp_all
            rw [e0, k0]
            simp)
        go_wp2
        go_roundw
        case rel => exact ⟨k + 1, _, hlk, by go_num, rfl, HX, hbs1, hs, hb⟩
        case measure => first | (simp [intOf]; done) | (simp [intOf]; omega)
    · have hke : k = l.length := by omega
      have hfl : b.data.toList = encL l := by have := HB.out; rw [hke, List.take_length] at this; exact this
      have hbl : (encL l).length = b.size := by rw [← hfl]; simp
      have HF := Lib.hid (show fillL [] b.data.toList 0 = ⟨l, 0, b.size, 0⟩ by
        rw [hfl]
        unfold fillL
        rw [fill_enc [] 0 l _ 0 [] (Nat.le_refl _)]
        simp [hbl])
      have hbs2 : b.size ≤ 100000000 := by omega
      have hcv0 := str_of_readE (P := Try.prog) 36 9 5 Try.underlying36 Try.underlying5 Try.underlying9 (HR.out.keep fun p ⟨u, hu⟩ => hb.cell (cell_lt hu))
      obtain ⟨fa, hfa⟩ : ∃ fa, (⟨l.toArray⟩ : ByteArray) = fa := ⟨_, rfl⟩
      have HFA := Lib.hid hfa
      have hMk : ¬ (k : Int) < (M : Int) := by omega
      clear hke hfl hbl hfa hcv0
      go_wp2_with (first
        | (go_at_call 14; refine (efill_any _ e mb _ _ _ hs hbs2).mono ?_; rw [HF.out]; simp only; rw [HFA.out]; rintro x w3 ⟨rfl, hs3, t3⟩; have hb3 := hb.trans (t3.below hb.size he hm); have hcv3 := str_of_readE (P := Try.prog) 36 9 5 Try.underlying36 Try.underlying5 Try.underlying9 (HR.out.keep fun p ⟨u, hu⟩ => hb3.cell (cell_lt hu)); rw [HFA.out] at hcv3)
        | (go_at_call 12; refine (etold_any _ e mb _ _ hs3).mono ?_; rintro x w4 ⟨rfl, rfl⟩)
        | (go_at_call 13; refine (lives13_any _).mono ?_; rintro x w5 ⟨rfl, hb5⟩))
      go_ret
      exact ⟨rfl, hb3.trans (hb5.mono hb3.size)⟩
end Go.Proofs.Ytmbjeagmnjkemaa

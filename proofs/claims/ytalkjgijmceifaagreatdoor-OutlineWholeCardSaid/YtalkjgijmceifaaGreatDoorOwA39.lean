/-
  stream: Feed, end, Close, New and Decode, for a machine whose errors are not told apart.
  outline: its machine as one that a Stream drives; New of it, Decode.
-/
import Derived.Test.YtalkjgijmceifaaGreatDoorOwA28
import Derived.Test.YtalkjgijmceifaaGreatDoorOwA04
import Derived.Test.YtalkjgijmceifaaGreatDoorOwA38
namespace Go.Proofs.YtalkjgijmceifaaGreatDoor
open Go.RowKit Go.Maps
set_option maxRecDepth 100000
set_option linter.unusedSimpArgs false
set_option linter.unusedVariables false
set_option linter.unusedSectionVars false
variable [Tab] [Fo]

section
variable {M : MachI}
theorem feedI_cons {x : Si M} {c : UInt8} {r : List UInt8} : feedI x (c :: r) = (stI x c).bind fun y => feedI y r := rfl
set_option maxHeartbeats 8000000 in
theorem feedI_any (w : World) (base s m sc o ck : Nat) (x : Si M) (v : Value) (bs : List UInt8) (h : StG w base s m sc o ck x 0 false) (hi : SiInv x 0) (hn : bs.length ≤ 600) (hv : ∀ w', Below base w w' → BRead w' v bs) :
    Calls Tryz.prog 24 #[.pointer (some ⟨s, 0, none⟩), v] w fun e w' => e = .returned (.bool true) ∧ ((∃ y, feedI x bs = some y ∧ StG w' base s m sc o ck y bs.length false ∧ SiInv y bs.length) ∨ (feedI x bs = none ∧ ∃ k rd back l, k ≠ 0 ∧ rd ≤ bs.length ∧ StF M.T w' base s m sc o ck k rd false back l)) ∧ Tch base (ssM M) w w' := by
  obtain ⟨A, c, rfl, _⟩ := hv w (Below.refl _ _)
  have c5 := h.blk.cell 5
  unfold sCells at c5
  have hbw := h.p.2.2.1
  have HV := Lib.hid hv
  have START := Lib.hid (show ∃ (k : Nat), k ≤ bs.length ∧ (0 : Int) = k ∧ Hid ((∃ y, feedI x bs = feedI y (bs.drop k) ∧ StG w base s m sc o ck y k false ∧ SiInv y k) ∨ (feedI x bs = none ∧ ∃ kk rd back l, kk ≠ 0 ∧ rd ≤ bs.length ∧ StF M.T w base s m sc o ck kk rd false back l)) ∧ Hid (Tch base (ssM M) w w) from ⟨0, Nat.zero_le _, rfl, Lib.hid (.inl ⟨x, rfl, h, hi⟩), Lib.hid (Tch.refl _ _ _)⟩)
  clear h hi hv
  go_enter Tryz.func24, Tryz.ntmps24
  go_wp2
  clear c5
  go_loopw [5] (fun i wr => ∃ (k : Nat), k ≤ bs.length ∧ i = .int .i64 k ∧ Hid ((∃ y, feedI x bs = feedI y (bs.drop k) ∧ StG wr base s m sc o ck y k false ∧ SiInv y k) ∨ (feedI x bs = none ∧ ∃ kk rd back l, kk ≠ 0 ∧ rd ≤ bs.length ∧ StF M.T wr base s m sc o ck kk rd false back l)) ∧ Hid (Tch base (ssM M) w wr)) (fun i _ => bs.length - (intOf i).toNat)
  case atStart =>
    obtain ⟨k, h1, h2, h3, h4⟩ := START.out
    exact ⟨k, h1, by rw [← h2], h3, h4⟩
  case round =>
    obtain ⟨k, hk, rfl, HQ, HT⟩ := hrel
    clear START
    rcases HQ.out with ⟨y, he, hG, hI⟩ | ⟨he, kk, rd, back, l, hk0, hrd, hF⟩
    · have c3 := hG.blk.cell 3
      have hsl := hG.blk.lt
      unfold sCells at c3
      have HG := Lib.hid hG
      have HI := Lib.hid hI
      have HE := Lib.hid he
      clear hG hI he HQ
      by_cases hlt : k < bs.length
      · obtain ⟨ad, rfl, hcell⟩ : ∃ ad : Addr, A = some ad ∧ ∀ j (h : j < bs.length), wr.cell? (ad.add j) = some (.int .u8 (bs[j].toNat : Int)) := by
          obtain ⟨A', c', hvv, hr⟩ := HV.out wr (HT.out.below hbw)
          injection hvv with e1 _ _
          obtain ⟨ad, e2, hcell⟩ := hr (by omega)
          exact ⟨ad, e1.trans e2, hcell⟩
        have hck := hcell k hlt
        have HC := Lib.hid (stepI_any wr base s m sc o ck y k false bs[k] HG.out HI.out (by omega))
        have HE2 : Hid (feedI x bs = (stI y bs[k]).bind fun z => feedI z (bs.drop (k + 1))) := Lib.hid (by rw [HE.out, List.drop_eq_getElem_cons hlt, feedI_cons])
        have HS := Lib.hid (fun z (hz : stI y bs[k] = some z) => siInv_step HI.out hz)
        clear hcell HE
        go_wp2_with fail
        refine HC.out.mono ?_
        rintro e w3 ⟨rfl, hq, ht3⟩
        have HT3 := Lib.hid (HT.out.trans ht3)
        have HQ3 : Hid ((∃ z, feedI x bs = feedI z (bs.drop (k + 1)) ∧ StG w3 base s m sc o ck z (k + 1) false ∧ SiInv z (k + 1)) ∨ (feedI x bs = none ∧ ∃ kk rd back l, kk ≠ 0 ∧ rd ≤ bs.length ∧ StF M.T w3 base s m sc o ck kk rd false back l)) := Lib.hid (by
          rcases hq with ⟨z, hz, hg⟩ | ⟨hz, kk, back, l, hk0, hf⟩
          · exact .inl ⟨z, by rw [HE2.out, hz]; rfl, hg, HS.out z hz⟩
          · exact .inr ⟨by rw [HE2.out, hz]; rfl, kk, k, back, l, hk0, by omega, hf⟩)
        clear hq ht3 HC HE2 HS HG HI HT
        go_wp2
        go_roundw
        case rel => exact ⟨k + 1, hlt, by go_num, HQ3, HT3⟩
        case measure => first | (simp [intOf]; done) | (simp [intOf]; omega)
      · have hke : k = bs.length := by omega
        subst hke
        have HE2 : Hid (feedI x bs = some y) := Lib.hid (by rw [HE.out, List.drop_of_length_le (Nat.le_refl _)]; rfl)
        clear HE
        go_wp2
        go_ret
        exact ⟨rfl, .inl ⟨y, HE2.out, HG.out, HI.out⟩, HT.out⟩
    · have c3 := hF.blk.cell 3
      have hsl := hF.blk.lt
      unfold sCells at c3
      have e0 : (kk == 0) = false := by rw [beq_eq_false_iff_ne]; exact hk0
      have HF := Lib.hid (And.intro he (And.intro hk0 (And.intro hrd hF)))
      clear hF he hk0 HQ
      by_cases hlt : k < bs.length
      · go_wp2
        go_ret
        exact ⟨rfl, .inr ⟨HF.out.1, kk, rd, back, l, HF.out.2.1, HF.out.2.2.1, HF.out.2.2.2⟩, HT.out⟩
      · have hke : k = bs.length := by omega
        subst hke
        go_wp2
        go_ret
        exact ⟨rfl, .inr ⟨HF.out.1, kk, rd, back, l, HF.out.2.1, HF.out.2.2.1, HF.out.2.2.2⟩, HT.out⟩
/-- How a text has ended. -/
def EndP (M : MachI) (r : Option (List Ev)) (k : Int) (l : List Ev) (back : Nat) : Prop := (r = some l ∧ k = 0 ∧ back = 0 ∧ doneB (runS [topP] l) = true) ∨ (r = none ∧ k ≠ 0)
set_option maxHeartbeats 8000000 in
theorem endI_any (w : World) (base s m sc o ck : Nat) (x : Si M) (rd : Nat) (cl : Bool) (h : StG w base s m sc o ck x rd cl) (hi : SiInv x rd) (hn : rd ≤ 600) :
    Calls Tryz.prog 37 #[.pointer (some ⟨s, 0, none⟩)] w fun e w' => (∃ k l back, e = .returned (.int .i64 k) ∧ EndP M (endI x) k l back ∧ StF M.T w' base s m sc o ck 0 rd cl back l) ∧ Tch base (ssM M) w w' := by
  have c0 := h.blk.cell 0
  have c1 := h.blk.cell 1
  have c2 := h.blk.cell 2
  unfold sCells at c0 c1 c2
  have hlt := h.blk.lt
  have hWh := whole_any w sc x.sl x.slo x.shi h.scan
  obtain ⟨R, hR⟩ : ∃ R, endI x = R := ⟨_, rfl⟩
  rw [hR]
  unfold endI at hR
  have HR := Lib.hid hR
  have HA := Lib.hid h
  have HInv := Lib.hid hi
  clear h hi hR
  by_cases hz : x.sl = 0
  · rw [if_pos hz] at HR
    rw [hz] at hWh
    have hE := M.end_any w.drew base m o ck x.b rd (M.ss HA.out.d (Tch.refl base ssObj w).drew) HInv.out.b hn HA.out.p.2.2.1
    rw [HR.out] at hE
    have HE := Lib.hid hE
    clear hz hE
    go_enter Tryz.func37, Tryz.ntmps37
    go_wp2_with fail
    refine hWh.mono ?_
    rintro e w' ⟨rfl, rfl⟩
    go_wp2
    refine region_g [11] (S := (fun W => W.cell? ⟨s, 0, none⟩ = some (.iface M.T (.pointer (some ⟨m, 0, none⟩))) ∧ W.cell? ⟨s, 2, none⟩ = some (.pointer (some ⟨o, 0, none⟩)))) (by kernel_rfl) ⟨c0, c2⟩ (fun hH => ?_)
    refine g_take (i := 0) (v := .pointer (some ⟨s, 0, none⟩)) (by rfl) (by kernel_rfl) (by kernel_rfl) (by kernel_rfl) (by kernel_rfl) (fun _ _ _ h => (by cases h.1)) (Or.inl ⟨by kernel_rfl, fun W hS => (by obtain ⟨s0, s2⟩ := hS; go_simp)⟩) hH ?_
    simp only [Act.put, List.setIfInBounds_toArray, List.set_cons_zero, List.set_cons_succ]
    refine g_take (i := 1) (v := .pointer (some ⟨s, 0, none⟩)) (by rfl) (by kernel_rfl) (by kernel_rfl) (by kernel_rfl) (by kernel_rfl) (fun _ _ _ h => (by cases h.1)) (Or.inl ⟨by kernel_rfl, fun W hS => (by obtain ⟨s0, s2⟩ := hS; go_simp)⟩) hH ?_
    simp only [Act.put, List.setIfInBounds_toArray, List.set_cons_zero, List.set_cons_succ]
    refine g_take (i := 2) (v := .pointer (some ⟨s, 0, none⟩)) (by rfl) (by kernel_rfl) (by kernel_rfl) (by kernel_rfl) (by kernel_rfl) (fun _ _ _ h => (by cases h.1)) (Or.inl ⟨by kernel_rfl, fun W hS => (by obtain ⟨s0, s2⟩ := hS; go_simp)⟩) hH ?_
    simp only [Act.put, List.setIfInBounds_toArray, List.set_cons_zero, List.set_cons_succ]
    refine g_take (i := 3) (v := .iface M.T (.pointer (some ⟨m, 0, none⟩))) (by rfl) (by kernel_rfl) (by kernel_rfl) (by kernel_rfl) (by kernel_rfl) (fun _ _ _ h => (by cases h.1)) (Or.inl ⟨by kernel_rfl, fun W hS => (by obtain ⟨s0, s2⟩ := hS; go_simp)⟩) hH ?_
    simp only [Act.put, List.setIfInBounds_toArray, List.set_cons_zero, List.set_cons_succ]
    refine g_take (i := 4) (v := .pointer (some ⟨s, 0, none⟩)) (by rfl) (by kernel_rfl) (by kernel_rfl) (by kernel_rfl) (by kernel_rfl) (fun _ _ _ h => (by cases h.1)) (Or.inl ⟨by kernel_rfl, fun W hS => (by obtain ⟨s0, s2⟩ := hS; go_simp)⟩) hH ?_
    simp only [Act.put, List.setIfInBounds_toArray, List.set_cons_zero, List.set_cons_succ]
    refine g_take (i := 5) (v := .pointer (some ⟨s, 0, none⟩)) (by rfl) (by kernel_rfl) (by kernel_rfl) (by kernel_rfl) (by kernel_rfl) (fun _ _ _ h => (by cases h.1)) (Or.inl ⟨by kernel_rfl, fun W hS => (by obtain ⟨s0, s2⟩ := hS; go_simp)⟩) hH ?_
    simp only [Act.put, List.setIfInBounds_toArray, List.set_cons_zero, List.set_cons_succ]
    refine g_take (i := 6) (v := .pointer (some ⟨s, 2, none⟩)) (by rfl) (by kernel_rfl) (by kernel_rfl) (by kernel_rfl) (by kernel_rfl) (fun _ _ _ h => (by cases h.1)) (Or.inl ⟨by kernel_rfl, fun W hS => (by obtain ⟨s0, s2⟩ := hS; go_simp)⟩) hH ?_
    simp only [Act.put, List.setIfInBounds_toArray, List.set_cons_zero, List.set_cons_succ]
    refine g_take (i := 7) (v := .pointer (some ⟨o, 0, none⟩)) (by rfl) (by kernel_rfl) (by kernel_rfl) (by kernel_rfl) (by kernel_rfl) (fun _ _ _ h => (by cases h.1)) (Or.inl ⟨by kernel_rfl, fun W hS => (by obtain ⟨s0, s2⟩ := hS; go_simp)⟩) hH ?_
    simp only [Act.put, List.setIfInBounds_toArray, List.set_cons_zero, List.set_cons_succ]
    refine g_take (i := 8) (v := .iface M.T (.pointer (some ⟨m, 0, none⟩))) (by rfl) (by kernel_rfl) (by kernel_rfl) (by kernel_rfl) (by kernel_rfl) (fun _ _ _ h => (by cases h.1)) (Or.inl ⟨by kernel_rfl, fun W hS => (by obtain ⟨s0, s2⟩ := hS; go_simp)⟩) hH ?_
    simp only [Act.put, List.setIfInBounds_toArray, List.set_cons_zero, List.set_cons_succ]
    refine g_take (i := 9) (v := .iface M.T (.pointer (some ⟨m, 0, none⟩))) (by rfl) (by kernel_rfl) (by kernel_rfl) (by kernel_rfl) (by kernel_rfl) (fun _ _ _ h => (by cases h.1)) (Or.inl ⟨by kernel_rfl, fun W hS => (by obtain ⟨s0, s2⟩ := hS; go_simp)⟩) hH ?_
    simp only [Act.put, List.setIfInBounds_toArray, List.set_cons_zero, List.set_cons_succ]
    refine g_one (i := 10) (by kernel_rfl) (by rfl) (fun K hK => ?_)
    have hm := M.hme ⟨m, 0, none⟩ w.drew
    have he := M.efe
    go_simp
    try rw [hm]
    try simp only [Result.andThen_ok]
    try rw [M.efe]
    try go_simp
    refine HE.out.mono ?_
    rintro e w2 ⟨hq, hT2⟩
    have hBs : Blk w2 s 51 (sCells M.T m sc o 0 rd cl false) := Blk.tch (w := w.drew) HA.out.blk hT2 (.inr (M.nss _ _ _ (.inl rfl)))
    have s0 := hBs.cell 0
    have s2 := hBs.cell 2
    unfold sCells at s0 s2
    have HT2 := Lib.hid ((Tch.refl base (ssM M) w).drew.trans (hT2.wide fun _ => .inr))
    have HBs := Lib.hid hBs
    have hb2 : base ≤ w2.heap.size := Nat.le_trans HA.out.p.2.2.1 hT2.size
    clear hm hBs hT2 HE
    have HQ : Hid (∃ k l back, e = .returned (.int .i64 k) ∧ EndP M R k l back ∧ StF M.T w2 base s m sc o ck 0 rd cl back l) := Lib.hid (by
      rcases hq with ⟨l, hr, h1, h2, h3⟩ | ⟨hr, k, l, back, hk0, hle, h1, h2⟩
      · exact ⟨0, l, 0, h1, .inl ⟨hr, rfl, rfl, h3⟩, HBs.out, h2, Nat.zero_le _, HA.out.p.1, hb2, HA.out.p.2.2.2.1⟩
      · exact ⟨k, l, back, h1, .inr ⟨hr, hk0⟩, HBs.out, h2, hle, HA.out.p.1, hb2, HA.out.p.2.2.2.1⟩)
    clear hq
    obtain ⟨k, l, back, rfl, hP, hF⟩ := HQ.out
    have HF := Lib.hid (And.intro hP hF)
    clear hP hF HQ HA
    refine hK.out _ _ (fun _ => ⟨s0, s2⟩) (fun _ => ?_)
    clear hK K
    refine g_one (i := 11) (by kernel_rfl) (by rfl) (fun K hK => ?_)
    go_simp
    refine hK.out _ _ (fun h => absurd (List.mem_singleton.2 rfl) h) (fun _ => ?_)
    clear hK K
    refine g_done (by kernel_rfl) ⟨by first | rfl | trivial, ?_⟩ _
    go_wp2
    go_ret
    exact ⟨⟨k, l, back, rfl, HF.out.1, HF.out.2⟩, HT2.out⟩
  · rw [if_neg hz] at HR
    have e1 : decide (x.sl = 0) = false := by simpa using hz
    rw [e1] at hWh
    obtain ⟨l, hO⟩ := M.bad HA.out.d
    have HF : Hid (StF M.T w base s m sc o ck 0 rd cl 0 l) := Lib.hid ⟨HA.out.blk, hO, Nat.zero_le _, HA.out.p.1, HA.out.p.2.2.1, HA.out.p.2.2.2.1⟩
    clear hz hO e1 HA
    go_enter Tryz.func37, Tryz.ntmps37
    go_wp2_with fail
    refine hWh.mono ?_
    rintro e w' ⟨rfl, rfl⟩
    go_wp2
    go_ret
    exact ⟨⟨3, l, 0, rfl, .inr ⟨HR.out.symm, by decide⟩, HF.out⟩, Tch.refl _ _ _⟩
set_option maxHeartbeats 4000000 in
theorem closeG_any (w : World) (base s m sc o ck : Nat) (x : Si M) (rd : Nat) (h : StG w base s m sc o ck x rd false) (hi : SiInv x rd) (hn : rd ≤ 600) :
    Calls Tryz.prog 25 #[.pointer (some ⟨s, 0, none⟩)] w fun e w' => e = .returned (.tuple #[]) ∧ (∃ k l back, EndP M (endI x) k l back ∧ StF M.T w' base s m sc o ck k rd true back l) ∧ Tch base (ssM M) w w' := by
  have c5 := h.blk.cell 5
  have c3 := h.blk.cell 3
  unfold sCells at c5 c3
  have hlt := h.blk.lt
  have HC := Lib.hid (endI_any w base s m sc o ck x rd false h hi hn)
  clear h hi
  go_enter Tryz.func25, Tryz.ntmps25
  go_wp2_with fail
  refine HC.out.mono ?_
  rintro e w1 ⟨⟨k, l, back, rfl, hP, hF⟩, hT⟩
  have g3 := hF.blk.cell 3
  have gf3 := hF.blk.frozen 3
  have gl := hF.blk.lt
  unfold sCells at g3
  obtain ⟨hF2, ht2⟩ := hF.set 3 (.int .i64 k) k rd false hF.le rfl
  obtain ⟨hF3, ht3⟩ := hF2.set 5 (.bool true) k rd true hF2.le rfl
  have k5 := hF2.blk.cell 5
  have kf5 := hF2.blk.frozen 5
  have kl := hF2.blk.lt
  unfold sCells at k5
  have HF := Lib.hid (And.intro hP (And.intro hF3 (hT.trans ((ht2.trans ht3).wide fun _ => .inl))))
  clear HC hP hF hT hF2 ht2 hF3 ht3 c5 c3 hlt
  go_wp2
  go_end0
  exact ⟨rfl, ⟨k, l, back, HF.out.1, HF.out.2.1⟩, HF.out.2.2⟩
set_option maxHeartbeats 4000000 in
theorem closeF_any (w : World) (T : TypeId) (base s m sc o ck : Nat) (k : Int) (hk : k ≠ 0) (rd back : Nat) (l : List Ev) (h : StF T w base s m sc o ck k rd false back l) :
    Calls Tryz.prog 25 #[.pointer (some ⟨s, 0, none⟩)] w fun e w' => e = .returned (.tuple #[]) ∧ StF T w' base s m sc o ck k rd true back l ∧ Tch base ssObj w w' := by
  have c5 := h.blk.cell 5
  have c3 := h.blk.cell 3
  have f5 := h.blk.frozen 5
  unfold sCells at c5 c3
  have hlt := h.blk.lt
  have e0 : (k == 0) = false := by rw [beq_eq_false_iff_ne]; exact hk
  have HF := Lib.hid (h.set 5 (.bool true) k rd true h.le rfl)
  clear h hk
  go_enter Tryz.func25, Tryz.ntmps25
  go_wp2
  go_end0
  exact ⟨rfl, HF.out.1, HF.out.2⟩
end
variable (M : MachI)
set_option maxHeartbeats 4000000 in
theorem snewI_any (w : World) (base m : Nat) (hM : M.raw w base m) (htk : Fo.tk = none) (hb : base ≤ w.heap.size) (hsw : SW base w) :
    Calls Tryz.prog 23 #[.iface M.T (.pointer (some ⟨m, 0, none⟩))] w fun e w' => ∃ s sc o ck, e = .returned (.pointer (some ⟨s, 0, none⟩)) ∧ StG w' base s m sc o ck (si0 M) 0 false ∧ Below base w w' := by
  go_enter Tryz.func23, Tryz.ntmps23
  go_wp2_with (first
    | (go_at_call 35; refine (new_any _).mono ?_; rintro e w1 ⟨rfl, rfl⟩))
  have hS1 : ScanAt (w.alloc (.cells #[.int .i64 0, .int .u8 128, .int .u8 191] 101)) w.heap.size 0 128 191 := Blk.new w _ _
  have al1 : Below w.heap.size w (w.alloc (.cells #[.int .i64 0, .int .u8 128, .int .u8 191] 101)) := (Below.refl _ _).alloc (Nat.le_refl _) _
  have hfl := M.raw_lim hM
  obtain ⟨W0, hW0⟩ : ∃ W0, w.alloc (.cells #[.int .i64 0, .int .u8 128, .int .u8 191] 101) = W0 := ⟨_, rfl⟩
  have hz1 : w.heap.size ≤ W0.heap.size := by rw [← hW0]; simp
  have hz0 : base ≤ W0.heap.size := Nat.le_trans hb (by rw [← hW0]; simp)
  rw [hW0] at hS1 al1 ⊢
  go_wp2_with (first
    | (go_at_call 18; refine (cnew_any W0 W0.heap.size (Nat.le_refl _) (Nat.le_trans hfl hz1)).mono ?_; rintro e w2 ⟨ck, rfl, hck, hC2, hb2⟩))
  go_ret
  have hz2 : W0.heap.size ≤ w2.heap.size := hb2.size
  have hS2 := hS1.below hb2 hS1.lt
  have hT : Below w2.heap.size w2 ((w2.alloc (.cells #[.pointer (some ⟨ck, 0, none⟩), .slice none 0 0, .int .i64 0] 47)).alloc (.cells (sCells M.T m w.heap.size w2.heap.size 0 0 false false) 51)) := ((Below.refl _ _).alloc (Nat.le_refl _) _).alloc (by simp) _
  have hO := Blk.new w2 47 #[.pointer (some ⟨ck, 0, none⟩), .slice none 0 0, .int .i64 0]
  have hO3 := hO.alloc (.cells (sCells M.T m w.heap.size w2.heap.size 0 0 false false) 51)
  have hSB := Blk.new (w2.alloc (.cells #[.pointer (some ⟨ck, 0, none⟩), .slice none 0 0, .int .i64 0] 47)) 51 (sCells M.T m w.heap.size w2.heap.size 0 0 false false)
  have hsz : (w2.alloc (.cells #[.pointer (some ⟨ck, 0, none⟩), .slice none 0 0, .int .i64 0] 47)).heap.size = w2.heap.size + 1 := by simp
  rw [hsz] at hSB
  have hall : Below w.heap.size w ((w2.alloc (.cells #[.pointer (some ⟨ck, 0, none⟩), .slice none 0 0, .int .i64 0] 47)).alloc (.cells (sCells M.T m w.heap.size w2.heap.size 0 0 false false) 51)) := (al1.trans (hb2.mono hz1)).trans (hT.mono (Nat.le_trans hz1 hz2))
  refine ⟨w2.heap.size + 1, w.heap.size, w2.heap.size, ck, rfl, ⟨hSB, hS2.below hT hS2.lt, M.start hM hb hall hz1 (Nat.le_trans hz2 hT.size) ⟨⟨_, hO3, RowT.nil htk _ _, NF.nil⟩, hC2.below hT, hz2, nf_new (by omega)⟩ (hsw.below (hall.mono hb)), ⟨by omega, hb, Nat.le_trans hb hall.size, nf_new (by omega), nf_new hfl⟩⟩, hall.mono hb⟩
variable {M}
/-- What a decoder returns. -/
def DecP (M : MachI) (bs : List UInt8) (w : World) (base : Nat) (e : Ending) (w' : World) : Prop :=
  ∃ lv l k n, e = .returned (.tuple #[lv, .int .i64 k, .int .i64 ((n : Nat) : Int)]) ∧ ERow w' base lv l ∧ allOk [topP] l ∧ (∀ e ∈ l, okE e) ∧ l.length ≤ 1000000 ∧ ((runI (M := M) bs = some l ∧ k = 0 ∧ n = bs.length ∧ doneB (runS [topP] l) = true) ∨ (runI (M := M) bs = none ∧ k ≠ 0 ∧ n ≤ bs.length)) ∧ Below base w w'
theorem atI_any (w : World) (s o rd back n : Nat) (s4 : w.cell? ⟨s, 4, none⟩ = some (.int .i64 (rd : Int))) (s2 : w.cell? ⟨s, 2, none⟩ = some (.pointer (some ⟨o, 0, none⟩))) (o2 : w.cell? ⟨o, 2, none⟩ = some (.int .i64 (back : Int))) (hr : rd ≤ 1000000) (hb : (rd : Int) - (back : Int) = (n : Int)) :
    Calls Tryz.prog 26 #[.pointer (some ⟨s, 0, none⟩)] w fun e w' => e = .returned (.int .i64 (n : Int)) ∧ w' = w.drew := by
  have hwn : IntKind.i64.wrap (n : Int) = n := by rw [IntKind.wrap_i64]; omega
  go_enter Tryz.func26, Tryz.ntmps26
  go_wp2
  go_region
  go_wp2
  go_ret
  exact ⟨rfl, rfl⟩
set_option maxHeartbeats 8000000 in
theorem sdecodeI_any (w : World) (base m : Nat) (v : Value) (bs : List UInt8) (hM : M.raw w base m) (htk : Fo.tk = none) (hb : base ≤ w.heap.size) (hsw : SW base w) (hn : bs.length ≤ 600) (hv : ∀ w', Below base w w' → BRead w' v bs) :
    Calls Tryz.prog 16 #[.iface M.T (.pointer (some ⟨m, 0, none⟩)), v] w (DecP M bs w base) := by
  have HV := Lib.hid hv
  have HTk := Lib.hid htk
  have HNw := Lib.hid (snewI_any M w base m hM htk hb hsw)
  clear hv hM htk hsw
  go_enter Tryz.func16, Tryz.ntmps16
  go_wp2_with fail
  refine HNw.out.mono ?_
  rintro e w1 ⟨s, sc, o, ck, rfl, hG1, hb1⟩
  have HB1 := Lib.hid hb1
  have HFd := Lib.hid (feedI_any w1 base s m sc o ck (si0 M) v bs hG1 ⟨M.inv0, show (0 : Int) ≤ 0 from Int.le_refl _, show (0 : Int) ≤ 3 by decide⟩ hn (fun w' h => HV.out w' (HB1.out.trans h)))
  have hb1' : base ≤ w1.heap.size := hG1.p.2.2.1
  clear hb1 hG1 HNw
  go_wp2_with fail
  refine HFd.out.mono ?_
  rintro e w2 ⟨rfl, hq, ht2⟩
  have HB2 := Lib.hid (HB1.out.trans (ht2.below hb1'))
  have hb2' : base ≤ w2.heap.size := Nat.le_trans hb1' ht2.size
  have HCl : Hid (Calls Tryz.prog 25 #[.pointer (some ⟨s, 0, none⟩)] w2 fun e w' => e = .returned (.tuple #[]) ∧ ∃ k rd l back, StF M.T w' base s m sc o ck k rd true back l ∧ rd ≤ bs.length ∧ ((runI (M := M) bs = some l ∧ k = 0 ∧ back = 0 ∧ rd = bs.length ∧ doneB (runS [topP] l) = true) ∨ (runI (M := M) bs = none ∧ k ≠ 0)) ∧ Below base w2 w') := Lib.hid (by
    rcases hq with ⟨y, hy, hG, hI⟩ | ⟨hy, k, rd, back, l, hk0, hrd, hF⟩
    · refine (closeG_any w2 base s m sc o ck y bs.length hG hI hn).mono ?_
      rintro e w' ⟨rfl, ⟨k, l, back, hP, hF⟩, hT⟩
      refine ⟨rfl, k, bs.length, l, back, hF, Nat.le_refl _, ?_, hT.below hb2'⟩
      unfold runI
      rw [hy]
      rcases hP with ⟨h1, h2, h3, h4⟩ | ⟨h1, h2⟩
      · exact .inl ⟨h1, h2, h3, rfl, h4⟩
      · exact .inr ⟨h1, h2⟩
    · refine (closeF_any w2 M.T base s m sc o ck k hk0 rd back l hF).mono ?_
      rintro e w' ⟨rfl, hF', hT⟩
      refine ⟨rfl, k, rd, l, back, hF', hrd, .inr ⟨?_, hk0⟩, hT.below hb2'⟩
      unfold runI
      rw [hy]
      rfl)
  clear hq ht2 HFd
  go_wp2_with fail
  refine HCl.out.mono ?_
  rintro e w3 ⟨rfl, k, rd, l, back, hF3, hrd, hcase, hb3⟩
  have HB3 := Lib.hid (HB2.out.trans hb3)
  have b2 := hF3.blk.cell 2
  have b3 := hF3.blk.cell 3
  have b4 := hF3.blk.cell 4
  unfold sCells at b2 b3 b4
  obtain ⟨⟨lv, hO, hR0⟩, hok, hsz, hlb, _, _⟩ := hF3.out
  have HR := Lib.hid (hR0.erow HTk.out)
  have o1 := hO.cell 1
  have o2 : w3.cell? ⟨o, 2, none⟩ = some (.int .i64 (back : Int)) := hO.cell 2
  obtain ⟨n, hn0⟩ : ∃ n : Nat, (rd : Int) - (back : Int) = n := ⟨rd - back, by have := hF3.le; omega⟩
  have HC := Lib.hid (show allOk [topP] l ∧ (∀ e ∈ l, okE e) ∧ l.length ≤ 1000000 ∧ ((runI (M := M) bs = some l ∧ k = 0 ∧ n = bs.length ∧ doneB (runS [topP] l) = true) ∨ (runI (M := M) bs = none ∧ k ≠ 0 ∧ n ≤ bs.length)) from ⟨hok, hsz, hlb, by
    rcases hcase with ⟨h1, h2, h3, h4, h5⟩ | ⟨h1, h2⟩
    · exact .inl ⟨h1, h2, by omega, h5⟩
    · exact .inr ⟨h1, h2, by omega⟩⟩)
  have hAt := atI_any w3.drew s o rd back n b4 b2 o2 (by omega) hn0
  have HAt := Lib.hid hAt
  clear hF3 hb3 hO hR0 hok hsz hlb hcase hAt HCl hn0
  go_wp2
  refine region_g [] (S := (fun W => W.cell? ⟨s, 2, none⟩ = some (.pointer (some ⟨o, 0, none⟩)) ∧ W.cell? ⟨s, 3, none⟩ = some (.int .i64 k) ∧ W.cell? ⟨o, 1, none⟩ = some lv)) (by kernel_rfl) ⟨b2, b3, o1⟩ (fun hH => ?_)
  refine g_take (i := 0) (v := .pointer (some ⟨s, 0, none⟩)) (by rfl) (by kernel_rfl) (by kernel_rfl) (by kernel_rfl) (by kernel_rfl) (fun _ _ _ h => (by cases h.1)) (Or.inl ⟨by kernel_rfl, fun W hS => (by obtain ⟨s2, s3, o1⟩ := hS; go_simp)⟩) hH ?_
  simp only [Act.put, List.setIfInBounds_toArray, List.set_cons_zero, List.set_cons_succ]
  refine g_take (i := 1) (v := .pointer (some ⟨s, 0, none⟩)) (by rfl) (by kernel_rfl) (by kernel_rfl) (by kernel_rfl) (by kernel_rfl) (fun _ _ _ h => (by cases h.1)) (Or.inl ⟨by kernel_rfl, fun W hS => (by obtain ⟨s2, s3, o1⟩ := hS; go_simp)⟩) hH ?_
  simp only [Act.put, List.setIfInBounds_toArray, List.set_cons_zero, List.set_cons_succ]
  refine g_take (i := 2) (v := .pointer (some ⟨s, 2, none⟩)) (by rfl) (by kernel_rfl) (by kernel_rfl) (by kernel_rfl) (by kernel_rfl) (fun _ _ _ h => (by cases h.1)) (Or.inl ⟨by kernel_rfl, fun W hS => (by obtain ⟨s2, s3, o1⟩ := hS; go_simp)⟩) hH ?_
  simp only [Act.put, List.setIfInBounds_toArray, List.set_cons_zero, List.set_cons_succ]
  refine g_take (i := 3) (v := .pointer (some ⟨o, 0, none⟩)) (by rfl) (by kernel_rfl) (by kernel_rfl) (by kernel_rfl) (by kernel_rfl) (fun _ _ _ h => (by cases h.1)) (Or.inl ⟨by kernel_rfl, fun W hS => (by obtain ⟨s2, s3, o1⟩ := hS; go_simp)⟩) hH ?_
  simp only [Act.put, List.setIfInBounds_toArray, List.set_cons_zero, List.set_cons_succ]
  refine g_take (i := 4) (v := .pointer (some ⟨o, 0, none⟩)) (by rfl) (by kernel_rfl) (by kernel_rfl) (by kernel_rfl) (by kernel_rfl) (fun _ _ _ h => (by cases h.1)) (Or.inl ⟨by kernel_rfl, fun W hS => (by obtain ⟨s2, s3, o1⟩ := hS; go_simp)⟩) hH ?_
  simp only [Act.put, List.setIfInBounds_toArray, List.set_cons_zero, List.set_cons_succ]
  refine g_take (i := 5) (v := .pointer (some ⟨o, 1, none⟩)) (by rfl) (by kernel_rfl) (by kernel_rfl) (by kernel_rfl) (by kernel_rfl) (fun _ _ _ h => (by cases h.1)) (Or.inl ⟨by kernel_rfl, fun W hS => (by obtain ⟨s2, s3, o1⟩ := hS; go_simp)⟩) hH ?_
  simp only [Act.put, List.setIfInBounds_toArray, List.set_cons_zero, List.set_cons_succ]
  refine g_take (i := 6) (v := lv) (by rfl) (by kernel_rfl) (by kernel_rfl) (by kernel_rfl) (by kernel_rfl) (fun _ _ _ h => (by cases h.1)) (Or.inl ⟨by kernel_rfl, fun W hS => (by obtain ⟨s2, s3, o1⟩ := hS; go_simp)⟩) hH ?_
  simp only [Act.put, List.setIfInBounds_toArray, List.set_cons_zero, List.set_cons_succ]
  refine g_take (i := 7) (v := .pointer (some ⟨s, 0, none⟩)) (by rfl) (by kernel_rfl) (by kernel_rfl) (by kernel_rfl) (by kernel_rfl) (fun _ _ _ h => (by cases h.1)) (Or.inl ⟨by kernel_rfl, fun W hS => (by obtain ⟨s2, s3, o1⟩ := hS; go_simp)⟩) hH ?_
  simp only [Act.put, List.setIfInBounds_toArray, List.set_cons_zero, List.set_cons_succ]
  refine g_take (i := 8) (v := .pointer (some ⟨s, 0, none⟩)) (by rfl) (by kernel_rfl) (by kernel_rfl) (by kernel_rfl) (by kernel_rfl) (fun _ _ _ h => (by cases h.1)) (Or.inl ⟨by kernel_rfl, fun W hS => (by obtain ⟨s2, s3, o1⟩ := hS; go_simp)⟩) hH ?_
  simp only [Act.put, List.setIfInBounds_toArray, List.set_cons_zero, List.set_cons_succ]
  refine g_take (i := 9) (v := .pointer (some ⟨s, 3, none⟩)) (by rfl) (by kernel_rfl) (by kernel_rfl) (by kernel_rfl) (by kernel_rfl) (fun _ _ _ h => (by cases h.1)) (Or.inl ⟨by kernel_rfl, fun W hS => (by obtain ⟨s2, s3, o1⟩ := hS; go_simp)⟩) hH ?_
  simp only [Act.put, List.setIfInBounds_toArray, List.set_cons_zero, List.set_cons_succ]
  refine g_take (i := 10) (v := .int .i64 k) (by rfl) (by kernel_rfl) (by kernel_rfl) (by kernel_rfl) (by kernel_rfl) (fun _ _ _ h => (by cases h.1)) (Or.inl ⟨by kernel_rfl, fun W hS => (by obtain ⟨s2, s3, o1⟩ := hS; go_simp)⟩) hH ?_
  simp only [Act.put, List.setIfInBounds_toArray, List.set_cons_zero, List.set_cons_succ]
  refine g_take (i := 11) (v := .pointer (some ⟨s, 0, none⟩)) (by rfl) (by kernel_rfl) (by kernel_rfl) (by kernel_rfl) (by kernel_rfl) (fun _ _ _ h => (by cases h.1)) (Or.inl ⟨by kernel_rfl, fun W hS => (by obtain ⟨s2, s3, o1⟩ := hS; go_simp)⟩) hH ?_
  simp only [Act.put, List.setIfInBounds_toArray, List.set_cons_zero, List.set_cons_succ]
  refine g_one (i := 12) (by kernel_rfl) (by rfl) (fun K hK => ?_)
  go_simp
  refine HAt.out.mono ?_
  rintro e w4 ⟨rfl, rfl⟩
  refine hK.out _ _ (fun _ => ⟨b2, b3, o1⟩) (fun _ => ?_)
  clear hK K hH
  refine g_one (i := 13) (by kernel_rfl) (by rfl) (fun K hK => ?_)
  go_simp
  refine hK.out _ _ (fun _ => ⟨b2, b3, o1⟩) (fun _ => ?_)
  clear hK K
  refine g_one (i := 14) (by kernel_rfl) (by rfl) (fun K hK => ?_)
  go_simp
  refine hK.out _ _ (fun _ => ⟨b2, b3, o1⟩) (fun _ => ?_)
  clear hK K
  refine g_one (i := 15) (by kernel_rfl) (by rfl) (fun K hK => ?_)
  go_simp
  refine hK.out _ _ (fun _ => ⟨b2, b3, o1⟩) (fun _ => ?_)
  clear hK K
  refine g_done (by kernel_rfl) ⟨by first | rfl | trivial, ?_⟩ _
  go_wp2
  go_ret3
  exact ⟨lv, l, k, n, rfl, (HR.out.below (below_drew (Below.refl _ _))).below (below_drew (Below.refl _ _)), HC.out.1, HC.out.2.1, HC.out.2.2.1, HC.out.2.2.2, (HB3.out.trans (below_drew (Below.refl _ _))).trans (below_drew (Below.refl _ _))⟩
end Go.Proofs.YtalkjgijmceifaaGreatDoor
namespace Go.Proofs.YtalkjgijmceifaaGreatDoor
open Go.RowKit Go.Maps
set_option maxRecDepth 100000
set_option linter.unusedSimpArgs false
set_option linter.unusedVariables false
set_option linter.unusedSectionVars false
set_option linter.unusedSectionVars false
variable [Tab] [Fo]

theorem ocrep_dn {w : World} {b b' g rb cap : Nat} {qs : List PQ} (h : CRep w b' g rb cap qs) (hb : b ≤ b') : CRep w b g rb cap qs := by
  refine ⟨Nat.le_trans hb h.hg, h.blk, ⟨h.row.1, ?_⟩, ?_, h.nf⟩
  · rcases h.row.2 with hn | ⟨g', cap', cur, hv, hg', hh, q⟩
    · exact .inl hn
    · exact .inr ⟨g', cap', cur, hv, Nat.le_trans hb hg', hh, q⟩
  · have : ∀ l : List PQ, MapsOk w b' l → MapsOk w b l := by
      intro l
      induction l with
      | nil => intro h; exact h
      | cons q r ih => intro h; exact ⟨fun c hc => ⟨⟨Nat.le_trans hb (h.1 c hc).1.1, (h.1 c hc).1.2⟩, (h.1 c hc).2⟩, h.2.1, ih h.2.2⟩
    exact this qs h.maps
theorem ooat_dn {w : World} {base b o ck : Nat} {st : List Pt} {l : List Ev} (h : OAt w b o ck st l) (hb : base ≤ b) : OAt w base o ck st l := by
  obtain ⟨⟨lv, hB, hR, hf⟩, ⟨rb, cap, qs, hq, hC⟩, hbo, ho⟩ := h
  exact ⟨⟨lv, hB, hR.low hb, hf⟩, ⟨rb, cap, qs, hq, ocrep_dn hC hb⟩, Nat.le_trans hb hbo, ho⟩
theorem maps_hi {fo f2 : Fo} {w : World} {b : Nat} (hT : ∀ k, b ≤ k → f2.F k → fo.F k) : ∀ {l : List PQ}, @MapsOk fo w b l → @MapsOk f2 w b l
  | [], _ => trivial
  | q :: r, h => ⟨fun k hk => ⟨⟨(h.1 k hk).1.1, fun hc => (h.1 k hk).1.2 (hT k (h.1 k hk).1.1 hc)⟩, (h.1 k hk).2⟩, h.2.1, maps_hi hT h.2.2⟩
/-- Where the new foreign blocks lie below. -/
theorem oat_hi {fo f2 : Fo} {w : World} {b o ck : Nat} {st : List Pt} {l : List Ev} (hT : ∀ k, b ≤ k → f2.F k → fo.F k) (hk : f2.tk = fo.tk) (hl : f2.lim ≤ w.heap.size) (h : @OAt fo w b o ck st l) : @OAt f2 w b o ck st l := by
  obtain ⟨⟨lv, hB, hR, hf⟩, ⟨rb, cap, qs, hq, hC⟩, hbo, ho⟩ := h
  obtain ⟨h1, h2, h3, h4, h5, h6, h7⟩ := hC
  have hrb : b ≤ rb := (World.ownsRow.lt h3 rb rfl).1
  exact @OAt.mk f2 w b o ck st l ⟨lv, hB, rowt_mv (f1 := fo) (f2 := f2) hk (fun k r hr _ _ => hr) hR hf, fun g hg hc => hf g hg (hT g (@RowT.lt _ fo _ _ _ _ hR g hg).1 hc)⟩ ⟨rb, cap, qs, hq, @CRep.mk f2 w b ck rb cap qs h1 h2 h3 (maps_hi hT h4) ⟨fun hc => h5 (hT ck h1 hc), fun hc => h6 (hT rb hrb hc), hl⟩⟩ hbo (fun hc => ho (hT o hbo hc))
def olx0 : Ox := ⟨[topP], [], ⟨[], 0⟩, [], false, false⟩
theorem olx0_tk : TkO olx0 := ⟨trivial, rfl, (fun e h => absurd h (by simp [olx0])), good_start, ainv0⟩
theorem olx0_ok : OkS olx0 := ⟨fun _ => by kernel_rfl, fun _ _ => rfl, fun h => by cases h⟩
/-- A machine that has read nothing. -/
def olRaw (w : World) (base m : Nat) : Prop := ∃ p an g T, Blk w m 94 #[.iface 69 (.pointer (some ⟨p, 0, none⟩)), .slice (some ⟨g, 0, none⟩) 1 1, .slice none 0 0] ∧ Blk w p 72 #[.pointer (some ⟨an, 0, none⟩), .slice none 0 0, .bool false, .bool false] ∧ Blk w g 39 #[othV an] ∧ AAt w T an ⟨[], 0⟩ ∧ KdS base T w ∧ base ≤ m ∧ base ≤ p ∧ ¬ Fo.F m ∧ ¬ Fo.F p ∧ Fo.lim ≤ w.heap.size
/-- What is known between the bytes, and how many bytes there were. -/
def OlG (w : World) (base m o ck : Nat) (x : (List UInt8 × Ox) × Nat) : Prop := ∃ p an g, OmAt base m p o ck an g x.1.1 x.1.2 w ∧ x.1.1.length ≤ 160 ∧ OkS x.1.2 ∧ lenO x.1.2 ≤ 40 + 400 * x.2
theorem ol_start [fo : Fo] {w0 w : World} {base b2 m o ck : Nat} (h : olRaw w0 base m) (hb0 : base ≤ w0.heap.size) (hb : Below w0.heap.size w0 w) (h1 : w0.heap.size ≤ b2) (ho : OAt w b2 o ck [topP] []) (hsw : SW base w) : OlG w base m o ck (([], olx0), 0) := by
  obtain ⟨p, an, g, T, k1, k2, k3, k4, k5, k6, k7, k8, k9, k10⟩ := h
  have hz := hb.size
  have hA := k4.below hb
  have hlim : fo.lim ≤ w.heap.size := Nat.le_trans k10 hz
  have hO : OA w base o ck an [topP] [] ⟨[], 0⟩ T := by
    refine ⟨hA, k5.keep k4.1 (fun k r hs hr => (hb.block k (k4.1 k hs)).trans hr), hlim, @ooat_dn _ (fo.pl T w.heap.size hlim hA.1) _ _ _ _ _ _ _ (oat_hi (fo := fo) (f2 := fo.pl T w.heap.size hlim hA.1) (fun k hk hc => ?_) rfl (Nat.le_refl _) ho) (Nat.le_trans hb0 h1)⟩
    rcases hc with hc | hc
    · exact hc
    · have := k4.1 k hc; omega
  exact ⟨p, an, g, ⟨⟨.slice none 0 0, k1.below hb k1.lt, ORow.nil _ _ _, NF.nil⟩, ⟨k6, k8⟩, ⟨k3.below hb k3.lt, ⟨.slice none 0 0, k2.below hb k2.lt, ORow.nil _ _ _, NF.nil⟩, ⟨T, hO⟩, hsw, ⟨Nat.le_trans hb0 hz, k7, hlim, k9⟩, olx0_tk, Nat.zero_le _, Nat.zero_le _⟩⟩, Nat.zero_le _, olx0_ok, (by show lenO olx0 ≤ 40; decide)⟩
theorem ol_on {x : Ox} (h : OkS x) (hk : TkO x) {n : Nat} (hl : lenO x ≤ 40 + 400 * n) (hn : n ≤ 600) : OnOk x := by
  have := okS_bk h hk
  exact ⟨by omega, by omega⟩
theorem OmAt.ss {base m p o ck an g : Nat} {op : List UInt8} {x : Ox} {w w' : World} (h : OmAt base m p o ck an g op x w) (ht : Tch base ssObj w w') : OmAt base m p o ck an g op x w' := by
  have hno : ∀ cs t fr, t ≠ 51 ∧ t ≠ 101 → ¬ ssObj (.cells cs t fr) := fun cs t fr hh hc => by
    simp only [ssObj] at hc
    rcases hc with rfl | rfl
    · exact hh.1 rfl
    · exact hh.2 rfl
  refine h.other ht (fun cs t fr hh => hno cs t fr (by rcases hh with rfl | rfl <;> decide)) (h.b.other ht (fun cs t fr hh => hno cs t fr (by rcases hh with rfl | rfl | rfl <;> decide)) (fun r hr hc => ?_))
  cases r with
  | cells cs t fr =>
    simp only [ssObj] at hc
    rcases hc with rfl | rfl
    · exact tA_no _ _ _ (by simp) hr
    · exact tA_no _ _ _ (by simp) hr
  | _ => exact hc
theorem stepOm_fa {y z : List UInt8 × Ox} {b : UInt8} (h : stepOm y b = some z) (h1 : y.1.length ≤ 160) (hk : TkO y.2) (hx : OkS y.2) (hz : TkO z.2) : z.1.length ≤ 160 ∧ OkS z.2 ∧ lenO z.2 ≤ lenO y.2 + 400 := by
  unfold stepOm at h
  split at h
  · obtain ⟨u, hl, e⟩ := map_some' h
    subst e
    obtain ⟨f1, f2⟩ := line_fa h1 hl hx hk hz
    exact ⟨Nat.zero_le _, f1, f2⟩
  · split at h
    · cases h
    · rename_i hn
      have e := Option.some.inj h
      subst e
      have e2 : (y.1 ++ [b]).length = y.1.length + 1 := by simp
      exact ⟨(by show (y.1 ++ [b]).length ≤ 160; omega), hx, Nat.le_add_right _ _⟩
theorem lastOm_fa {y z : List UInt8 × Ox} (h : lastOm y = some z) (h1 : y.1.length ≤ 160) (hk : TkO y.2) (hx : OkS y.2) (hz : TkO z.2) : OkS z.2 ∧ lenO z.2 ≤ lenO y.2 + 400 := by
  unfold lastOm at h
  split at h
  · obtain ⟨u, hl, e⟩ := map_some' h
    subst e
    exact line_fa h1 hl hx hk hz
  · have e := Option.some.inj h
    subst e
    exact ⟨hx, Nat.le_add_right _ _⟩
@[reducible] def outMI : MachI where
  σ := (List UInt8 × Ox) × Nat
  x0 := (([], olx0), 0)
  stp y b := (stepOm y.1 b).map fun z => (z, y.2 + 1)
  fin y := (finOm y.1).map fun z => z.l
  T := 40
  fs := 157
  fe := 156
  hms := fun a w => by kernel_rfl
  hme := fun a w => by kernel_rfl
  efs := fun args w => enters_of Tryz.func157 (by kernel_rfl) rfl args w
  efe := fun args w => enters_of Tryz.func156 (by kernel_rfl) rfl args w
  raw := olRaw
  At := OlG
  obj := onObj
  nss := on_no
  raw_lim := fun h => by obtain ⟨_, _, _, _, _, _, _, _, _, _, _, _, _, h1⟩ := h; exact h1
  start := fun h hb0 hb h1 h2 ho hsw => ol_start h hb0 hb h1 ho hsw
  Inv y k := y.2 = k ∧ y.1.1.length ≤ k
  inv0 := ⟨rfl, Nat.le_refl _⟩
  inv_step := fun {x n b y} h hs => by
    obtain ⟨z, hq, e⟩ := map_some' hs
    subst e
    refine ⟨by rw [← h.1], ?_⟩
    have h2 := h.2
    unfold stepOm at hq
    split at hq
    · obtain ⟨u, _, e⟩ := map_some' hq
      subst e
      exact Nat.zero_le _
    · split at hq
      · cases hq
      · have e := Option.some.inj hq
        subst e
        show (x.1.1 ++ [b]).length ≤ _
        rw [List.length_append]
        simp
        omega
  bad := fun {w base m o ck x} h => by
    obtain ⟨p, an, g, h1, _⟩ := h
    exact ⟨_, h1.b.bad⟩
  ss := fun {w w' base m o ck x} h ht => by
    obtain ⟨p, an, g, h1, h2⟩ := h
    exact ⟨p, an, g, h1.ss ht, h2⟩
  step_any := fun w base m o ck x b n h hi hn hb => by
    obtain ⟨p, an, g, h1, h2, h3, h4⟩ := h
    have hn2 : x.2 = n := hi.1
    have hop : x.1.1.length ≤ n := hi.2
    have hk := h1.b.tk
    refine (stepOm_any (op := x.1.1) (x := x.1.2) b h1 (ol_on h3 hk h4 (by omega)) h2).mono fun e w' hp => ?_
    obtain ⟨hq, ht⟩ := hp
    refine ⟨?_, ht⟩
    rcases hq with ⟨y, hy, he, hat⟩ | ⟨hy, k, l, back, hk0, hbk, he, hO⟩
    · obtain ⟨f1, f2, f3⟩ := stepOm_fa hy h2 hk h3 hat.b.tk
      have f3' : lenO y.2 ≤ lenO x.1.2 + 400 := f3
      have hy' : stepOm x.1 b = some y := hy
      refine .inl ⟨(y, x.2 + 1), by rw [hy']; rfl, he, p, an, g, hat, f1, f2, ?_⟩
      show lenO y.2 ≤ 40 + 400 * (x.2 + 1)
      omega
    · have hy' : stepOm x.1 b = none := hy
      exact .inr ⟨by rw [hy']; rfl, k, l, back, hk0, by omega, he, hO⟩
  end_any := fun w base m o ck x n h hi hn hb => by
    obtain ⟨p, an, g, h1, h2, h3, h4⟩ := h
    have hn2 : x.2 = n := hi.1
    have hop : x.1.1.length ≤ n := hi.2
    have hk := h1.b.tk
    refine (endOm_any (op := x.1.1) (x := x.1.2) h1 (ol_on h3 hk h4 (by omega)) (fun y hy hky => ?_) h2).mono fun e w' hp => ?_
    · obtain ⟨f1, f2⟩ := lastOm_fa hy h2 hk h3 hky
      have f2' : lenO y.2 ≤ lenO x.1.2 + 400 := f2
      have h5 : y.2.l.length ≤ lenO y.2 := Nat.le_add_right _ _
      omega
    · obtain ⟨hq, ht⟩ := hp
      refine ⟨?_, ht⟩
      rcases hq with ⟨z, y, hz, hkz, hy, he, hB⟩ | ⟨hy, k, l, back, hk0, hbk, he, hO⟩
      · obtain ⟨f1, f2⟩ := lastOm_fa hz h2 hk h3 hkz
        have hz' : lastOm x.1 = some z := hz
        exact .inl ⟨y.l, by unfold finOm; rw [hz']; show (finO z.2).map _ = _; rw [hy]; rfl, he, hB.bad, finO_done hy f1 hkz hB.tk⟩
      · have hy' : finOm x.1 = none := hy
        exact .inr ⟨by rw [hy']; rfl, k, l, back, hk0, by omega, he, hO⟩
end Go.Proofs.YtalkjgijmceifaaGreatDoor

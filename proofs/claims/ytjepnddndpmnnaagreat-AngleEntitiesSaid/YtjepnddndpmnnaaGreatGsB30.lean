/-
  angle: tellElem: the element of the open tag, and its attributes.
-/
import Derived.Test.YtjepnddndpmnnaaGreatGsB29
namespace Go.Proofs.YtjepnddndpmnnaaGreat
open Go.RowKit Go.Maps
set_option maxRecDepth 100000
set_option linter.unusedSimpArgs false
set_option linter.unusedVariables false
set_option linter.unusedSectionVars false
set_option linter.unusedSectionVars false
variable [Tab] [Fo]

theorem tellN_m (s : As) (el : Bool) (n : Na) (v : List UInt8) : (tellN s el n v).b.m = s.m := by
  unfold tellN
  cases fullA s.m.sc el n <;> rfl
theorem tellN_good {s : As} (h : Good s.st) (el : Bool) (n : Na) (v : List UInt8) : Good (tellN s el n v).b.st := by
  unfold tellN
  cases fullA s.m.sc el n with
  | none => exact h
  | some f => exact good_step h _
theorem tellN_len (s : As) (el : Bool) (n : Na) (v : List UInt8) : (tellN s el n v).b.l.length ≤ s.l.length + 1 := by
  unfold tellN
  cases fullA s.m.sc el n with
  | none => exact Nat.le_succ _
  | some f => exact tellL_len _ _ _
/-- The spaces that are bound are short texts. -/
def SpsOk (sc : Ns.St) : Prop := ∀ m ∈ sc, ∀ x ∈ m, x.2.length ≤ 1000
theorem lookP_mem {p s : List UInt8} : ∀ {m : Ns.Sc}, Ns.lookP p m = some s → ∃ x ∈ m, x.2 = s
  | [], h => by cases h
  | x :: r, h => by
    simp only [Ns.lookP] at h
    split at h
    · injection h with h; exact ⟨x, List.mem_cons_self, h⟩
    · obtain ⟨y, hy, e⟩ := lookP_mem h; exact ⟨y, List.mem_cons_of_mem _ hy, e⟩
theorem SpsOk.sp {p sp : List UInt8} : ∀ {st : Ns.St}, SpsOk st → Ns.spaceS p st = some sp → sp.length ≤ 1000
  | [], _, h => by cases h
  | m :: r, hs, h => by
    simp only [Ns.spaceS] at h
    cases hl : Ns.lookP p m with
    | some s =>
      rw [hl] at h
      simp only [Option.orElse] at h
      injection h with h
      obtain ⟨x, hx, e⟩ := lookP_mem hl
      rw [← h, ← e]
      exact hs m List.mem_cons_self x hx
    | none =>
      rw [hl] at h
      simp only [Option.orElse] at h
      exact SpsOk.sp (fun q hq => hs q (List.mem_cons_of_mem _ hq)) h
section
variable {w w' : World} {base m o ck e mb g : Nat} {s : As} {M M' : Ag} {av ov : Value}
/-- What is known while the attributes are told. -/
structure TlI (w wr : World) (base m o ck e mb g : Nat) (s : As) (n : Nat) (R : Ar) (l : List (Na × List UInt8)) : Prop where
  tl : ∃ τ : As, tellAts l τ = R ∧ τ.m = s.m ∧ Good τ.st ∧ τ.l.length ≤ n ∧ AX wr base m o ck e mb g τ
  t : Tch base tX w wr

set_option maxHeartbeats 8000000 in
theorem atellelem_any (h : AX w base m o ck e mb g s) (hl : s.m.ats.length ≤ 1000) (hok : AtOk s.m.ats) (he1 : s.m.el.p.length ≤ 1000) (he2 : s.m.el.l.length ≤ 1000) (hg : Good s.st) (hle : s.l.length ≤ 900000) (hsp : SpsOk s.m.sc) :
    Calls Tryz.prog 142 #[.pointer (some ⟨m, 0, none⟩), .pointer (some ⟨o, 0, none⟩)] w (APo w base m o ck e mb g (tellElemA s)) := by
  obtain ⟨av, ov, hM⟩ := h.mc
  obtain ⟨A, cap, rfl, hcap⟩ := own_shape hM.ats
  obtain ⟨N, hN⟩ : ∃ N, s.m.ats.length = N := ⟨_, rfl⟩
  rw [hN] at hM
  have hrow := hM.atRow hN
  have c11 : w.cell? ⟨m, 11, none⟩ = some (.string ⟨s.m.el.p.toArray⟩) := hM.cells2.1
  have c12 : w.cell? ⟨m, 12, none⟩ = some (.string ⟨s.m.el.l.toArray⟩) := hM.cells2.2.1
  have hlt := h.lt
  have hT0 := Lib.hid (atell_any true s.m.el [] h hg (by omega) he1 he2 (fun sp hq => by have := hsp.sp hq; omega))
  obtain ⟨R1, hR1⟩ : ∃ R, tellN s true s.m.el [] = R := ⟨_, rfl⟩
  have hm1 : R1.b.m = s.m := by rw [← hR1]; exact tellN_m _ _ _ _
  have hg1 : Good R1.b.st := by rw [← hR1]; exact tellN_good hg _ _ _
  have hl1 : R1.b.l.length ≤ s.l.length + 1 := by rw [← hR1]; exact tellN_len _ _ _ _
  rw [hR1] at hT0
  unfold tellElemA
  rw [hR1]
  have HM := Lib.hid hM
  have HN := Lib.hid hN
  have HOK := Lib.hid hok
  have HSP := Lib.hid hsp
  have hcm := hrow.cm
  have hcap2 := hrow.hc
  rw [hN] at hl
  by_cases hz : R1.e ≠ 0
  · rw [if_pos hz]
    have z0 : (R1.e != 0) = true := by rw [bne_iff_ne]; exact hz
    clear h hM hN hok hrow hcap hR1 hm1 hg1 hl1 hz hg hsp
    go_enter Tryz.func142, Tryz.ntmps142
    go_wp2_with fail
    refine hT0.out.mono ?_
    intro E w1 hq
    have HF := Lib.hid hq.a
    have hE := hq.1
    clear hq
    subst hE
    go_wp2
    go_ret
    exact HF.out
  · rw [if_neg hz]
    have hz0 : R1.e = 0 := by simpa using hz
    obtain ⟨R, hR⟩ : ∃ R, tellAts s.m.ats R1.b = R := ⟨_, rfl⟩
    rw [hR]
    have HR := Lib.hid hR
    have HG1 := Lib.hid (And.intro hm1 (And.intro hg1 hl1))
    obtain ⟨⟨⟩, k1⟩ := R1
    simp only at hz0
    subst hz0
    obtain ⟨Q, hQ⟩ : ∃ Q, (if R.e ≠ 0 then R else (⟨{ R.b with m := { s.m with ats := [] } }, 0⟩ : Ar)) = Q := ⟨_, rfl⟩
    have HQ := Lib.hid hQ
    rw [hQ]
    clear h hM hN hok hrow hcap hR1 hR hm1 hg1 hl1 hg hsp hQ hz
    go_enter Tryz.func142, Tryz.ntmps142
    go_wp2_with fail
    refine hT0.out.mono ?_
    rintro E w1 ⟨rfl, h1, t1⟩
    have H1 := Lib.hid h1
    have T1 := Lib.hid t1
    have hM1 := HM.out.of_x t1
    have c15 : w1.cell? ⟨m, 15, none⟩ = some (.slice A N cap) := hM1.cells2.2.2.2.2.1
    have hlt1 : m < w1.heap.size := hM1.lt
    clear h1 t1 hM1 hT0 c11 c12
    go_wp2
    go_loopw [27] (fun i wr => ∃ k : Nat, k ≤ N ∧ i = .int .i64 (k : Int) ∧ Hid (TlI w wr base m o ck e mb g s (s.l.length + 1 + k) R (s.m.ats.drop k))) (fun i _ => N - (intOf i).toNat)
    case atStart => exact ⟨0, Nat.zero_le _, rfl, Lib.hid ⟨⟨_, HR.out, HG1.out.1, HG1.out.2.1, HG1.out.2.2, H1.out⟩, T1.out⟩⟩
    case round =>
      obtain ⟨k, hk, rfl, HI⟩ := hrel
      obtain ⟨⟨τ, hτ, hτm, hτg, hτl, hI⟩, hT⟩ := HI.out
      have HI2 := Lib.hid hI
      have HT := Lib.hid hT
      have HTau := Lib.hid (And.intro hτ (And.intro hτm hτg))
      clear HI hτ hτm hτg hI hT
      by_cases hlk : k < N
      · have hlk' : k < s.m.ats.length := by rw [HN.out]; exact hlk
        have hdrop : s.m.ats.drop k = s.m.ats[k] :: s.m.ats.drop (k + 1) := List.drop_eq_getElem_cons hlk'
        have hokk := HOK.out s.m.ats[k] (List.getElem_mem hlk')
        have hMr := HM.out.of_x HT.out
        obtain ⟨r, rfl, hrl, d0, d1, d2⟩ := (hMr.atRow HN.out).rows k hlk'
        generalize hP : s.m.ats[k] = p at *
        have HDR := Lib.hid hdrop
        have HOKP := Lib.hid hokk
        clear hdrop hokk hMr hP
        have hbx := (Below.refl wr.heap.size wr).alloc (Nat.le_refl _) (.cells #[.string ⟨p.1.p.toArray⟩, .string ⟨p.1.l.toArray⟩, .string ⟨p.2.toArray⟩] 197)
        have HBX := Lib.hid hbx
        have HKX := Lib.hid (Blk.new wr 197 #[.string ⟨p.1.p.toArray⟩, .string ⟨p.1.l.toArray⟩, .string ⟨p.2.toArray⟩])
        clear hbx
        cases hb : bindsA p.1 with
        | some pf =>
          have HN1 := Lib.hid (show tellAts (s.m.ats.drop (k + 1)) τ = R by rw [← HTau.out.1, HDR.out, tellAts, if_pos (show (bindsA p.1).isSome = true by rw [hb]; rfl)])
          have hB := abinds_any p.1 p.2
          rw [hb] at hB
          have HB := Lib.hid hB
          clear hB hb
          go_wp2_with fail
          refine (HB.out _).mono ?_
          rintro E w2 ⟨rfl, hb1⟩
          have HI3 := Lib.hid (HI2.out.below (HBX.out.trans (hb1.mono HBX.out.size)))
          have HT3 := Lib.hid (HT.out.trans (Tch.of_below (HBX.out.trans (hb1.mono HBX.out.size))))
          clear hb1 d0 d1 d2
          go_wp2
          go_roundw
          case rel => exact ⟨k + 1, by omega, by go_num, Lib.hid ⟨⟨τ, HN1.out, HTau.out.2.1, HTau.out.2.2, by omega, HI3.out⟩, HT3.out⟩⟩
          case measure => first | (simp [intOf]; done) | (simp [intOf]; omega)
        | none =>
          have hB := abinds_any p.1 p.2
          rw [hb] at hB
          have HB := Lib.hid hB
          have HRR := Lib.hid (show (if (tellN τ false p.1 p.2).e ≠ 0 then tellN τ false p.1 p.2 else tellAts (s.m.ats.drop (k + 1)) (tellN τ false p.1 p.2).b) = R by rw [← HTau.out.1, HDR.out, tellAts, if_neg (show ¬ (bindsA p.1).isSome = true by rw [hb]; decide)])
          obtain ⟨C, hC⟩ : ∃ C, tellN τ false p.1 p.2 = C := ⟨_, rfl⟩
          rw [hC] at HRR
          have HCf := Lib.hid (show C.b.m = s.m ∧ Good C.b.st ∧ C.b.l.length ≤ τ.l.length + 1 by rw [← hC]; exact ⟨by rw [tellN_m]; exact HTau.out.2.1, tellN_good HTau.out.2.2 _ _ _, tellN_len _ _ _ _⟩)
          clear hB hb
          go_wp2_with fail
          refine (HB.out _).mono ?_
          rintro E w2 ⟨rfl, hb1⟩
          have hI3 := HI2.out.below (HBX.out.trans (hb1.mono HBX.out.size))
          have HT3 := Lib.hid (HT.out.trans (Tch.of_below (HBX.out.trans (hb1.mono HBX.out.size))))
          have hk1 := HKX.out.below hb1 HKX.out.lt
          have hTl := atell_any false p.1 p.2 hI3 HTau.out.2.2 (by omega) HOKP.out.1 HOKP.out.2.1 (fun sp hq => by rw [HTau.out.2.1] at hq; have := HSP.out.sp hq; omega)
          rw [hC] at hTl
          have HTl := Lib.hid hTl
          have k0 : w2.cell? ⟨wr.heap.size, 0, none⟩ = some (.string ⟨p.1.p.toArray⟩) := hk1.cell 0
          have k1' : w2.cell? ⟨wr.heap.size, 1, none⟩ = some (.string ⟨p.1.l.toArray⟩) := hk1.cell 1
          have k2 : w2.cell? ⟨wr.heap.size, 2, none⟩ = some (.string ⟨p.2.toArray⟩) := hk1.cell 2
          have hkl := hk1.lt
          clear hb1 d0 d1 d2 hI3 hk1 hC hTl
          go_wp2_with fail
          refine HTl.out.mono ?_
          rintro E w3 ⟨rfl, h3, t3⟩
          have H3 := Lib.hid h3
          have HT4 := Lib.hid (HT3.out.trans t3)
          clear h3 t3 k0 k1' k2 hkl
          obtain ⟨⟨cm, cs, cl⟩, Ce⟩ := C
          by_cases hC0 : Ce = 0
          · have HRR2 := Lib.hid (show tellAts (s.m.ats.drop (k + 1)) ⟨cm, cs, cl⟩ = R by rw [← HRR.out, if_neg (by rw [hC0]; exact fun hc => hc rfl)])
            subst hC0
            go_wp2
            go_roundw
            case rel => exact ⟨k + 1, by omega, by go_num, Lib.hid ⟨⟨_, HRR2.out, HCf.out.1, HCf.out.2.1, by have := HCf.out.2.2; simp only at this ⊢; omega, H3.out⟩, HT4.out⟩⟩
            case measure => first | (simp [intOf]; done) | (simp [intOf]; omega)
          · have z0 : (Ce != 0) = true := by rw [bne_iff_ne]; exact hC0
            have HF : Hid (APo w base m o ck e mb g Q (.returned (.int .i64 Ce)) w3) := Lib.hid (by
              have e1 : R = ⟨⟨cm, cs, cl⟩, Ce⟩ := by rw [← HRR.out, if_pos hC0]
              rw [← HQ.out, e1, if_pos hC0]
              exact ⟨rfl, H3.out, HT4.out.wide fun _ h => (.inl h : axO _)⟩)
            clear hC0
            go_wp2
            go_ret
            exact HF.out
      · have hke : k = N := by omega
        have hI := HI2.out
        have hMr := HM.out.of_x HT.out
        have f15 := hMr.frz 15
        have d15 : wr.cell? ⟨m, 15, none⟩ = some (.slice A N cap) := hMr.cells2.2.2.2.2.1
        have hltr := hMr.lt
        have HF : Hid (APo w base m o ck e mb g Q (.returned (.int .i64 0)) (wr.setCell ⟨m, 15, none⟩ (.slice none 0 0))) := Lib.hid (by
          have e0 : R = ⟨τ, 0⟩ := by
            have := HTau.out.1
            rw [List.drop_eq_nil_of_le (by rw [HN.out]; omega)] at this
            rw [← this]; rfl
          have htc := hMr.touch 15 (.slice none 0 0)
          rw [← HQ.out, e0, if_neg (fun hc => hc rfl)]
          have hA : AgAt (wr.setCell ⟨m, 15, none⟩ (.slice none 0 0)) base m { s.m with ats := [] } e g (.slice none 0 0) ov :=
            ⟨hMr.blk.set_ 15 _, ⟨rfl, .inl ⟨rfl, rfl⟩⟩, row_tch hMr.opn htc (fun _ _ => by simp only [agOnly]; decide), NF.nil, hMr.nfo, hMr.bm, hMr.nf, Nat.le_trans hMr.lim htc.size⟩
          refine ⟨rfl, ?_, (HT.out.wide fun _ h => (.inl h : axO _)).trans (htc.wide fun _ h => ax_of h)⟩
          have hm := HTau.out.2.1
          obtain ⟨tm, ts, tl⟩ := τ
          simp only at hm
          subst hm
          exact hI.tchO (htc.wide fun _ => ag_of) ⟨_, _, hA⟩ rfl rfl rfl)
        clear hI hMr
        subst hke
        clear hlk
        go_wp2
        go_ret
        exact HF.out
end
end Go.Proofs.YtjepnddndpmnnaaGreat

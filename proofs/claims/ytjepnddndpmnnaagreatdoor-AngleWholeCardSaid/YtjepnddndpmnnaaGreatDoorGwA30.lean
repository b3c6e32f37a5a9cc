/-
  angle: tell, whatever is told.
  angle: binds: which prefix an attribute binds.
  angle: bind: what the attributes of the open tag bind.
-/
import Derived.Test.YtjepnddndpmnnaaGreatDoorGwA29
namespace Go.Proofs.YtjepnddndpmnnaaGreatDoor
open Go.RowKit Go.Maps
set_option maxRecDepth 100000
set_option linter.unusedSimpArgs false
set_option linter.unusedVariables false
set_option linter.unusedSectionVars false
set_option linter.unusedSectionVars false
variable [Tab] [Fo]

section
variable {w w' : World} {base m o ck e mb g : Nat} {s : As} {M M' : Ag} {av ov : Value}
theorem atell_any (el : Bool) (n : Na) (v : List UInt8) (h : AX w base m o ck e mb g s) (hg : Good s.st) (hle : s.l.length ≤ 1000000) (hn1 : n.p.length ≤ 1000) (hn2 : n.l.length ≤ 1000) (hsz : ∀ sp, Ns.spaceS n.p s.m.sc = some sp → sp.length ≤ 100000) :
    Calls Tryz.prog 174 #[.pointer (some ⟨m, 0, none⟩), .agg #[.int .i64 (kEl el), .string ⟨#[]⟩, .string ⟨v.toArray⟩], .agg #[.string ⟨n.p.toArray⟩, .string ⟨n.l.toArray⟩], .pointer (some ⟨o, 0, none⟩)] w (TPo w base m o ck e mb g (tellN s el n v)) := by
  have hT : ∀ f, fullA s.m.sc el n = some f → tellN s el n v = tellA s ⟨kEl el, bs f, bs v⟩ := fun f hf => by unfold tellN kEl; rw [hf]
  have hN : fullA s.m.sc el n = none → tellN s el n v = ⟨s, 18⟩ := fun hf => by unfold tellN; rw [hf]
  cases el with
  | true =>
    cases hsp : Ns.spaceS n.p s.m.sc with
    | some sp =>
      cases hj : joinL sp n.l with
      | some f => rw [hT f (by unfold fullA spaceA; simp [hsp, hj])]; exact atell_el_some_ok n v h hg hle hn1 hn2 sp hsp (hsz sp hsp) f hj
      | none => rw [hN (by unfold fullA spaceA; simp [hsp, hj])]; exact atell_el_some_no n v h hg hle hn1 hn2 sp hsp (hsz sp hsp) hj
    | none =>
      by_cases hp : n.p = []
      · cases hj : joinL [] n.l with
        | some f => rw [hT f (by unfold fullA spaceA; simp [hsp, hp, hj]; rw [hp] at hsp; simp [hsp, hj])]; exact atell_el_emp_ok n v h hg hle hn1 hn2 hsp hp f hj
        | none => rw [hN (by unfold fullA spaceA; simp [hsp, hp, hj]; rw [hp] at hsp; simp [hsp, hj])]; exact atell_el_emp_no n v h hg hle hn1 hn2 hsp hp hj
      · cases hj : joinL [] n.l with
        | some f => rw [hN (by unfold fullA spaceA; simp [hsp, hp])]; exact atell_el_unb_ok n v h hg hle hn1 hn2 hsp hp f hj
        | none => rw [hN (by unfold fullA spaceA; simp [hsp, hp])]; exact atell_el_unb_no n v h hg hle hn1 hn2 hsp hp hj
  | false =>
    by_cases hp : n.p = []
    · cases hj : joinL [] n.l with
      | some f => rw [hT f (by unfold fullA spaceA; simp [hp, hj])]; exact atell_no_ok n v h hg hle hn1 hn2 hp f hj
      | none => rw [hN (by unfold fullA spaceA; simp [hp, hj])]; exact atell_no_no n v h hg hle hn1 hn2 hp hj
    · cases hsp : Ns.spaceS n.p s.m.sc with
      | some sp =>
        cases hj : joinL sp n.l with
        | some f => rw [hT f (by unfold fullA spaceA; simp [hsp, hp, hj])]; exact atell_pre_some_ok n v h hg hle hn1 hn2 hp sp hsp (hsz sp hsp) f hj
        | none => rw [hN (by unfold fullA spaceA; simp [hsp, hp, hj])]; exact atell_pre_some_no n v h hg hle hn1 hn2 hp sp hsp (hsz sp hsp) hj
      | none =>
        cases hj : joinL [] n.l with
        | some f => rw [hN (by unfold fullA spaceA; simp [hsp, hp])]; exact atell_pre_unb_ok n v h hg hle hn1 hn2 hp hsp hp f hj
        | none => rw [hN (by unfold fullA spaceA; simp [hsp, hp])]; exact atell_pre_unb_no n v h hg hle hn1 hn2 hp hsp hp hj
end
end Go.Proofs.YtjepnddndpmnnaaGreatDoor
namespace Go.Proofs.YtjepnddndpmnnaaGreatDoor
open Go.RowKit Go.Maps
set_option maxRecDepth 100000
set_option linter.unusedSimpArgs false
set_option linter.unusedVariables false
set_option linter.unusedSectionVars false
set_option linter.unusedSectionVars false
variable [Tab] [Fo]

set_option maxHeartbeats 4000000 in
theorem abinds_any (n : Na) (v : List UInt8) (w : World) :
    Calls Tryz.prog 170 #[.agg #[.string ⟨n.p.toArray⟩, .string ⟨n.l.toArray⟩, .string ⟨v.toArray⟩]] w fun E w' => E = .returned (.tuple #[.string ⟨((bindsA n).getD []).toArray⟩, .bool (bindsA n).isSome]) ∧ Below w.heap.size w w' := by
  have al : Below w.heap.size w (w.alloc (.cells #[.string ⟨n.p.toArray⟩, .string ⟨n.l.toArray⟩, .string ⟨v.toArray⟩] 209)) := (Below.refl _ _).alloc (Nat.le_refl _) _
  have AL := Lib.hid al
  have hgd := fun (x y : Operand) (xs ys : Array Value) => na_guard .eql x y xs ys
  have hne := fun W => na_eq W n ⟨[], xmlnsL⟩
  unfold bindsA
  by_cases hp : n.p = xmlnsL
  · rw [if_pos hp]
    have z : (n.p == [120, 109, 108, 110, 115]) = true := by rw [hp]; rfl
    clear al hgd hne hp
    go_enter Tryz.func170, Tryz.ntmps170
    go_wp2
    go_ret2
    exact ⟨rfl, AL.out⟩
  · rw [if_neg hp]
    have z : (n.p == [120, 109, 108, 110, 115]) = false := by rw [beq_eq_false_iff_ne]; exact hp
    by_cases hc : n.p = [] ∧ n.l = xmlnsL
    · rw [if_pos hc]
      clear hne hgd al
      obtain ⟨a, b⟩ := n
      obtain ⟨rfl, rfl⟩ : a = [] ∧ b = xmlnsL := hc
      unfold xmlnsL at *
      clear hp
      go_enter Tryz.func170, Tryz.ntmps170
      go_wp2
      go_ret2
      exact ⟨rfl, AL.out⟩
    · rw [if_neg hc]
      clear hne hgd al
      by_cases hpe : n.p = []
      · have hl : ¬ n.l = [120, 109, 108, 110, 115] := fun e => hc ⟨hpe, e⟩
        obtain ⟨a, b⟩ := n
        obtain rfl : a = [] := hpe
        clear hp hc
        go_enter Tryz.func170, Tryz.ntmps170
        go_wp2
        go_ret2
        exact ⟨rfl, AL.out⟩
      · clear hp hc
        go_enter Tryz.func170, Tryz.ntmps170
        go_wp2
        go_ret2
        exact ⟨rfl, AL.out⟩
end Go.Proofs.YtjepnddndpmnnaaGreatDoor
namespace Go.Proofs.YtjepnddndpmnnaaGreatDoor
open Go.RowKit Go.Maps
set_option maxRecDepth 100000
set_option linter.unusedSimpArgs false
set_option linter.unusedVariables false
set_option linter.unusedSectionVars false
set_option linter.unusedSectionVars false
variable [Tab] [Fo]

theorem atCells_get (l : List (Na × List UInt8)) : ∀ k (h : k < l.length), (atCells l)[k * 3]? = some (sv l[k].1.p) ∧ (atCells l)[k * 3 + 1]? = some (sv l[k].1.l) ∧ (atCells l)[k * 3 + 2]? = some (sv l[k].2) := by
  induction l with
  | nil => intro k h; simp at h
  | cons a l ih =>
    intro k h
    have e : atCells (a :: l) = sv a.1.p :: sv a.1.l :: sv a.2 :: atCells l := rfl
    match k with
    | 0 => rw [e]; simp
    | k + 1 =>
      have := ih k (by simpa using h)
      rw [e, show (k + 1) * 3 = k * 3 + 3 from by omega, show k * 3 + 3 + 1 = k * 3 + 1 + 3 from by omega, show k * 3 + 3 + 2 = k * 3 + 2 + 3 from by omega]
      simp only [List.getElem?_cons_succ, List.getElem_cons_succ]
      exact this
section
variable {w w' : World} {base m o ck e mb g : Nat} {s : As} {M M' : Ag} {av ov : Value}
/-- Behind a call of the scopes: neither the machine's cells nor its rows have turned. -/
theorem AX.bindT (h : AX w base m o ck e mb g s) (p t : List UInt8) (hp : p.length ≤ 1000) (ht : t.length ≤ 1000) : Calls Tryz.prog 171 #[.pointer (some ⟨g, 0, none⟩), .string ⟨p.toArray⟩, .string ⟨t.toArray⟩] w (fun E w' => E = .returned (.int .i64 (Ns.bindE p t s.m.sc)) ∧ AX w' base m o ck e mb g { s with m := { s.m with sc := Ns.bindS p t s.m.sc } } ∧ Tch base tX w w') := by
  obtain ⟨av, ov, hM⟩ := h.mc
  obtain ⟨S, hX⟩ := h.xo
  refine (Ns.bind_any w base g _ s.m.sc ⟨p.toArray⟩ ⟨t.toArray⟩ hX.x.scp (by rw [svSize]; omega) (by rw [svSize]; omega)).mono ?_
  rintro E w1 ⟨rfl, hS, htt⟩
  obtain ⟨S', hX', hT⟩ := hX.scpc (sat_ext hS htt.size) htt
  exact ⟨rfl, ⟨⟨av, ov, (hM.of_x (hT.wide fun _ => .inr)).as rfl rfl rfl⟩, S', hX'⟩, hT.wide fun _ => .inr⟩
/-- The attributes as they lie. -/
structure AtRow (w : World) (m : Nat) (A : Option Addr) (n cap : Nat) (l : List (Na × List UInt8)) : Prop where
  len : l.length = n
  hc : n ≤ cap
  cm : cap ≤ 9223372036854775807
  rows : ∀ k (h : k < l.length), ∃ r, A = some ⟨r, 0, none⟩ ∧ r < w.heap.size ∧ w.cell? ⟨r, k * 3, none⟩ = some (.string ⟨l[k].1.p.toArray⟩) ∧ w.cell? ⟨r, k * 3 + 1, none⟩ = some (.string ⟨l[k].1.l.toArray⟩) ∧ w.cell? ⟨r, k * 3 + 2, none⟩ = some (.string ⟨l[k].2.toArray⟩)
theorem AgAt.atRow {A : Option Addr} {n cap : Nat} (h : AgAt w base m M e g (.slice A n cap) ov) (hn : M.ats.length = n) : AtRow w m A n cap M.ats := by
  have hr := h.ats
  have hcap : n ≤ cap ∧ cap ≤ 9223372036854775807 := by
    rcases hr.2 with ⟨hv, h0⟩ | ⟨g', c', cur, hv, _, _, hnc, hm, _⟩
    · injection hv with _ h2 h3; rw [h2, h3]; exact ⟨Nat.le_refl _, by decide⟩
    · injection hv with _ h2 h3; rw [h3]; exact ⟨by omega, by simpa [maxLen] using hm⟩
  refine ⟨hn, hcap.1, hcap.2, fun k hk => ?_⟩
  rcases hr.2 with ⟨hv, h0⟩ | ⟨r, c', cur, hv, _, hh, _⟩
  · omega
  · injection hv with h1 h2 h3
    subst h1
    have hr' : w.ownsRow base 209 3 (.slice (some ⟨r, 0, none⟩) M.ats.length cap) M.ats.length (atCells M.ats) := by rw [hn]; rw [hn] at hr; exact hr
    obtain ⟨g1, g2, g3⟩ := atCells_get M.ats k hk
    refine ⟨r, rfl, Blk.lt hh, ?_, ?_, ?_⟩
    · rw [rowN_cell hr' (by omega)]; exact g1
    · rw [rowN_cell hr' (by omega)]; exact g2
    · rw [rowN_cell hr' (by omega)]; exact g3

/-- What bind leaves. -/
def BPo (w : World) (base m o ck e mb g : Nat) (s : As) (r : Br) (E : Ending) (w' : World) : Prop :=
  E = .returned (.int .i64 r.e) ∧ AX w' base m o ck e mb g { s with m := { s.m with sc := r.st } } ∧ Tch base tX w w'
/-- Attributes that are not too long for a walk. -/
def AtOk (l : List (Na × List UInt8)) : Prop := ∀ a ∈ l, a.1.p.length ≤ 1000 ∧ a.1.l.length ≤ 1000 ∧ a.2.length ≤ 1000
set_option maxHeartbeats 8000000 in
theorem abind_any (h : AX w base m o ck e mb g s) (hl : s.m.ats.length ≤ 1000) (hok : AtOk s.m.ats) :
    Calls Tryz.prog 133 #[.pointer (some ⟨m, 0, none⟩)] w (BPo w base m o ck e mb g s (bindAllA s.m.ats s.m.sc)) := by
  obtain ⟨av, ov, hM⟩ := h.mc
  obtain ⟨A, cap, rfl, hcap⟩ := own_shape hM.ats
  obtain ⟨N, hN⟩ : ∃ N, s.m.ats.length = N := ⟨_, rfl⟩
  rw [hN] at hM
  have hrow := hM.atRow hN
  have c15 : w.cell? ⟨m, 15, none⟩ = some (.slice A N cap) := hM.cells2.2.2.2.2.1
  have hlt := h.lt
  have HM := Lib.hid hM
  have H0 := Lib.hid h
  have HN := Lib.hid hN
  have HOK := Lib.hid hok
  obtain ⟨R, hR⟩ : ∃ R, bindAllA s.m.ats s.m.sc = R := ⟨_, rfl⟩
  have HR := Lib.hid hR
  rw [hR]
  rw [hN] at hl hcap
  have HRow := Lib.hid hrow
  have hcm := hrow.cm
  have hcap2 := hrow.hc
  clear h hM hN hok hR hrow hcap
  go_enter Tryz.func133, Tryz.ntmps133
  go_wp2
  go_loopw [13] (fun i wr => ∃ k : Nat, k ≤ N ∧ i = .int .i64 (k : Int) ∧ Hid (∃ sc, bindAllA (s.m.ats.drop k) sc = R ∧ AX wr base m o ck e mb g { s with m := { s.m with sc := sc } } ∧ Tch base tX w wr)) (fun i _ => N - (intOf i).toNat)
  case atStart => exact ⟨0, Nat.zero_le _, rfl, Lib.hid ⟨s.m.sc, HR.out, H0.out, Tch.refl _ _ _⟩⟩
  case round =>
    obtain ⟨k, hk, rfl, HI⟩ := hrel
    obtain ⟨sc, hsc, hI, hT⟩ := HI.out
    have HI2 := Lib.hid hI
    have HT := Lib.hid hT
    have HSC := Lib.hid hsc
    clear HI hsc hI hT
    by_cases hlk : k < N
    · have hlk' : k < s.m.ats.length := by rw [HN.out]; exact hlk
      have hdrop : s.m.ats.drop k = s.m.ats[k] :: s.m.ats.drop (k + 1) := List.drop_eq_getElem_cons hlk'
      have hokk := HOK.out s.m.ats[k] (List.getElem_mem hlk')
      have hMr := HM.out.of_x HT.out
      obtain ⟨r, rfl, hrl, d0, d1, d2⟩ := (hMr.atRow HN.out).rows k hlk'
      generalize hP : s.m.ats[k] = p at *
      have HDR := Lib.hid hdrop
      have HOKP := Lib.hid hokk
      clear hdrop hokk hMr hP
      have hbx := (Below.refl wr.heap.size wr).alloc (Nat.le_refl _) (.cells #[.string ⟨p.1.p.toArray⟩, .string ⟨p.1.l.toArray⟩, .string ⟨p.2.toArray⟩] 209)
      have HBX := Lib.hid hbx
      have HKX := Lib.hid (Blk.new wr 209 #[.string ⟨p.1.p.toArray⟩, .string ⟨p.1.l.toArray⟩, .string ⟨p.2.toArray⟩])
      clear hbx
      cases hb : bindsA p.1 with
      | none =>
        have HN1 := Lib.hid (show bindAllA (s.m.ats.drop (k + 1)) sc = R by rw [← HSC.out, HDR.out, bindAllA, hb])
        have hB := abinds_any p.1 p.2
        rw [hb] at hB
        have HB := Lib.hid hB
        clear hB hb
        go_wp2_with fail
        refine (HB.out _).mono ?_
        rintro E w1 ⟨rfl, hb1⟩
        have HI3 := Lib.hid (HI2.out.below (HBX.out.trans (hb1.mono HBX.out.size)))
        have HT3 := Lib.hid (HT.out.trans (Tch.of_below (HBX.out.trans (hb1.mono HBX.out.size))))
        clear hb1 d0 d1 d2
        go_wp2
        go_roundw
        case rel => exact ⟨k + 1, by omega, by go_num, Lib.hid ⟨sc, HN1.out, HI3.out, HT3.out⟩⟩
        case measure => first | (simp [intOf]; done) | (simp [intOf]; omega)
      | some pf =>
        have hpf : pf.length ≤ 1000 := by
          have := HOKP.out
          unfold bindsA at hb
          split at hb
          · injection hb with hb; rw [← hb]; exact this.2.1
          · split at hb
            · injection hb with hb; rw [← hb]; simp
            · cases hb
        have HRR := Lib.hid (show (if Ns.bindE pf p.2 sc = 0 then bindAllA (s.m.ats.drop (k + 1)) (Ns.bindS pf p.2 sc) else (⟨Ns.bindS pf p.2 sc, bindErr (Ns.bindE pf p.2 sc)⟩ : Br)) = R by rw [← HSC.out, HDR.out, bindAllA, hb])
        obtain ⟨C, hC⟩ : ∃ C, Ns.bindE pf p.2 sc = C := ⟨_, rfl⟩
        rw [hC] at HRR
        have HC := Lib.hid hC
        have hB := abinds_any p.1 p.2
        rw [hb] at hB
        have HB := Lib.hid hB
        clear hB hb hC
        go_wp2_with fail
        refine (HB.out _).mono ?_
        rintro E w1 ⟨rfl, hb1⟩
        have hI3 := HI2.out.below (HBX.out.trans (hb1.mono HBX.out.size))
        have HT3 := Lib.hid (HT.out.trans (Tch.of_below (HBX.out.trans (hb1.mono HBX.out.size)))).drew
        have hk1 := HKX.out.below hb1 HKX.out.lt
        have HI3 := Lib.hid hI3.drew
        have c19 : w1.drew.cell? ⟨m, 19, none⟩ = some (.pointer (some ⟨g, 0, none⟩)) := by obtain ⟨_, _, q⟩ := hI3.drew.mc; exact q.cells2.2.2.2.2.2.2.2.2
        have cv : w1.drew.cell? ⟨wr.heap.size, 2, none⟩ = some (.string ⟨p.2.toArray⟩) := hk1.cell 2
        have HK1 := Lib.hid hk1
        clear hb1 d0 d1 d2 hI3 hk1
        go_wp2
        refine region_g [8] (S := (fun V => V.cell? ⟨m, 19, none⟩ = some (.pointer (some ⟨g, 0, none⟩)) ∧ V.cell? ⟨wr.heap.size, 2, none⟩ = some (.string ⟨p.2.toArray⟩))) (by kernel_rfl) ⟨c19, cv⟩ (fun hH => ?_)
        refine g_take (i := 0) (v := .pointer (some ⟨m, 0, none⟩)) (by rfl) (by kernel_rfl) (by kernel_rfl) (by kernel_rfl) (by kernel_rfl) (fun _ _ _ h => (by cases h.1)) (Or.inl ⟨by kernel_rfl, fun W hS => (by obtain ⟨s0, s1⟩ := hS; go_simp)⟩) hH ?_
        simp only [Act.put, List.setIfInBounds_toArray, List.set_cons_zero, List.set_cons_succ]
        refine g_take (i := 1) (v := .pointer (some ⟨m, 0, none⟩)) (by rfl) (by kernel_rfl) (by kernel_rfl) (by kernel_rfl) (by kernel_rfl) (fun _ _ _ h => (by cases h.1)) (Or.inl ⟨by kernel_rfl, fun W hS => (by obtain ⟨s0, s1⟩ := hS; go_simp)⟩) hH ?_
        simp only [Act.put, List.setIfInBounds_toArray, List.set_cons_zero, List.set_cons_succ]
        refine g_take (i := 2) (v := .pointer (some ⟨m, 19, none⟩)) (by rfl) (by kernel_rfl) (by kernel_rfl) (by kernel_rfl) (by kernel_rfl) (fun _ _ _ h => (by cases h.1)) (Or.inl ⟨by kernel_rfl, fun W hS => (by obtain ⟨s0, s1⟩ := hS; go_simp)⟩) hH ?_
        simp only [Act.put, List.setIfInBounds_toArray, List.set_cons_zero, List.set_cons_succ]
        refine g_take (i := 3) (v := .pointer (some ⟨g, 0, none⟩)) (by rfl) (by kernel_rfl) (by kernel_rfl) (by kernel_rfl) (by kernel_rfl) (fun _ _ _ h => (by cases h.1)) (Or.inl ⟨by kernel_rfl, fun W hS => (by obtain ⟨s0, s1⟩ := hS; go_simp)⟩) hH ?_
        simp only [Act.put, List.setIfInBounds_toArray, List.set_cons_zero, List.set_cons_succ]
        refine g_take (i := 4) (v := .string ⟨pf.toArray⟩) (by rfl) (by kernel_rfl) (by kernel_rfl) (by kernel_rfl) (by kernel_rfl) (fun _ _ _ h => (by cases h.1)) (Or.inl ⟨by kernel_rfl, fun W hS => (by obtain ⟨s0, s1⟩ := hS; go_simp)⟩) hH ?_
        simp only [Act.put, List.setIfInBounds_toArray, List.set_cons_zero, List.set_cons_succ]
        refine g_take (i := 5) (v := .pointer (some ⟨wr.heap.size, 2, none⟩)) (by rfl) (by kernel_rfl) (by kernel_rfl) (by kernel_rfl) (by kernel_rfl) (fun _ _ _ h => (by cases h.1)) (Or.inl ⟨by kernel_rfl, fun W hS => (by obtain ⟨s0, s1⟩ := hS; go_simp)⟩) hH ?_
        simp only [Act.put, List.setIfInBounds_toArray, List.set_cons_zero, List.set_cons_succ]
        refine g_take (i := 6) (v := .string ⟨p.2.toArray⟩) (by rfl) (by kernel_rfl) (by kernel_rfl) (by kernel_rfl) (by kernel_rfl) (fun _ _ _ h => (by cases h.1)) (Or.inl ⟨by kernel_rfl, fun W hS => (by obtain ⟨s0, s1⟩ := hS; go_simp)⟩) hH ?_
        simp only [Act.put, List.setIfInBounds_toArray, List.set_cons_zero, List.set_cons_succ]
        refine g_one (i := 7) (by kernel_rfl) (by rfl) (fun K hK => ?_)
        go_simp
        refine (HI3.out.bindT pf p.2 hpf HOKP.out.2.2).mono ?_
        rintro E w4 ⟨rfl, h4, t4⟩
        have j19 : w4.cell? ⟨m, 19, none⟩ = some (.pointer (some ⟨g, 0, none⟩)) := by obtain ⟨_, _, q⟩ := h4.mc; exact q.cells2.2.2.2.2.2.2.2.2
        have jv : w4.cell? ⟨wr.heap.size, 2, none⟩ = some (.string ⟨p.2.toArray⟩) := ((show Blk w1.drew wr.heap.size 209 _ from HK1.out).tch t4 (.inr (fun hc => tx_ag _ hc (.inr (.inl rfl))))).cell 2
        have HC4 : Hid (Ns.bindE pf p.2 sc = C) := HC
        have H4 := Lib.hid h4
        have T4 := Lib.hid (HT3.out.trans t4)
        rw [show Ns.bindE pf p.2 ({ s with m := { s.m with sc := sc } } : As).m.sc = C from HC.out]
        clear h4 t4
        refine hK.out _ _ (fun _ => ⟨j19, jv⟩) (fun _ => ?_)
        clear hK K hH
        try simp only [Act.put, List.setIfInBounds_toArray, List.set_cons_zero, List.set_cons_succ]
        refine g_one (i := 8) (by kernel_rfl) (by rfl) (fun K hK => ?_)
        go_simp
        refine hK.out _ _ (fun h => absurd (List.mem_singleton.2 rfl) h) (fun _ => ?_)
        clear hK K
        refine g_done (by kernel_rfl) ⟨by first | rfl | trivial, ?_⟩ _
        clear j19 jv c19 cv HK1 HI3 HT3 HI2 HBX HKX
        by_cases hC0 : C = 0
        · have HRR2 := Lib.hid (show bindAllA (s.m.ats.drop (k + 1)) (Ns.bindS pf p.2 sc) = R by rw [← HRR.out, if_pos hC0])
          subst hC0
          go_wp2
          go_roundw
          case rel => exact ⟨k + 1, by omega, by go_num, Lib.hid ⟨_, HRR2.out, H4.out, T4.out⟩⟩
          case measure => first | (simp [intOf]; done) | (simp [intOf]; omega)
        · have z0 : (C == 0) = false := by rw [beq_eq_false_iff_ne]; exact hC0
          have HRR2 := Lib.hid (show R = ⟨Ns.bindS pf p.2 sc, bindErr C⟩ by rw [← HRR.out, if_neg hC0])
          by_cases hC1 : C = 1
          · have HF : Hid (BPo w base m o ck e mb g s R (.returned (.int .i64 18)) w4) := Lib.hid (by rw [HRR2.out]; exact ⟨by show _ = Ending.returned (.int .i64 (bindErr C)); rw [hC1]; rfl, H4.out, T4.out⟩)
            subst hC1
            go_wp2
            go_ret
            exact HF.out
          · have z1 : (C == 1) = false := by rw [beq_eq_false_iff_ne]; exact hC1
            have HF : Hid (BPo w base m o ck e mb g s R (.returned (.int .i64 C)) w4) := Lib.hid (by rw [HRR2.out]; exact ⟨by show _ = Ending.returned (.int .i64 (bindErr C)); unfold bindErr; rw [if_neg hC1], H4.out, T4.out⟩)
            clear hC0 hC1
            go_wp2
            go_ret
            exact HF.out
    · have hke : k = N := by omega
      have HF : Hid (BPo w base m o ck e mb g s R (.returned (.int .i64 0)) wr) := Lib.hid (by
        have := HSC.out
        rw [List.drop_eq_nil_of_le (by rw [HN.out]; omega)] at this
        rw [← this]
        exact ⟨rfl, HI2.out, HT.out⟩)
      subst hke
      clear hlk
      go_wp2
      go_ret
      exact HF.out
end
end Go.Proofs.YtjepnddndpmnnaaGreatDoor

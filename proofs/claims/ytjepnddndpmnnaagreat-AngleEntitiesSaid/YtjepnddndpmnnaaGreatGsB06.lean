/-
  num's valueOf: its contract.
  A number's text by any table of the library: how many digits; small numbers.
  A number's text by any table of the library: two digits of a number below 1000.
  A number's text by any table of the library: AppendUint below 1000.
-/
import Derived.Test.YtjepnddndpmnnaaGreatGsB05
import Derived.Test.YtjepnddndpmnnaaGreatGsB02
import Derived.Shelf.Strconv.AppendInt10
import Derived.Shelf.Strconv.Itoa2
import Derived.Shelf.Strconv.AppendUint10
namespace Go.Proofs.YtjepnddndpmnnaaGreat.Nm
open Go.RowKit
set_option linter.unusedSectionVars false
variable [Tab]

theorem hp_neg (l : List UInt8) : Lib.hasPrefix l [45] = negL l := by
  cases l with
  | nil => rfl
  | cons b l =>
    unfold Lib.hasPrefix negL
    rw [Bool.eq_iff_iff]
    simp [List.isPrefixOf, ← UInt8.toNat_inj]
    omega
theorem tp_uns (l : List UInt8) : Lib.trimPrefix l [45] = unsigned l := by
  unfold Lib.trimPrefix unsigned
  rw [hp_neg]
  rfl
theorem len_of (l : List UInt8) : (⟨l.toArray⟩ : ByteArray).size = l.length := by simp [ByteArray.size]
theorem bytes_of (s : ByteArray) : (⟨s.data.toList.toArray⟩ : ByteArray) = s := by cases s; simp

theorem ascii_eE : ∀ (j : Nat) b, (⟨#[101, 69]⟩ : ByteArray).data.toList[j]? = some b → b.toNat < 128 := by
  intro j b h
  match j with
  | 0 => simp at h; subst h; decide
  | 1 => simp at h; subst h; decide
  | j + 2 => simp at h

/-- The two blocks of valueOf's call: the result's, and the value's. -/
structure VS (w0 w1 : World) (s : Int) (D : ByteArray) (p : Int) : Prop where
  r : Blk w1 w0.heap.size 223 #[.int .i64 0, .string ⟨#[]⟩, .int .i64 0]
  v : Blk w1 (w0.heap.size + 1) 223 #[.int .i64 s, .string D, .int .i64 p]
  bel : Below w0.heap.size w0 w1
section
variable {w0 w1 w2 : World} {s p : Int} {D : ByteArray}
theorem VS.start (w : World) : VS w ((w.alloc (.cells #[.int .i64 0, .string ⟨#[]⟩, .int .i64 0] 223)).alloc (.cells #[.int .i64 1, .string ⟨#[]⟩, .int .i64 0] 223)) 1 ⟨#[]⟩ 0 :=
  ⟨(Blk.new w _ _).alloc _, by have := Blk.new (w.alloc (.cells #[.int .i64 0, .string ⟨#[]⟩, .int .i64 0] 223)) 223 #[.int .i64 1, .string ⟨#[]⟩, .int .i64 0]; simpa using this, ((Below.refl _ _).alloc (Nat.le_refl _) _).alloc (by simp) _⟩
theorem VS.next (h : VS w0 w1 s D p) (hb : Below w1.heap.size w1 w2) : VS w0 w2 s D p :=
  ⟨h.r.below hb h.r.lt, h.v.below hb h.v.lt, h.bel.trans (hb.mono h.bel.size)⟩
theorem VS.drewN (h : VS w0 w1 s D p) (n : Nat) : VS w0 (w1.drewN n) s D p := h.next (below_drewN (Below.refl _ _) n)
theorem VS.set0 (h : VS w0 w1 s D p) (x : Int) : VS w0 (w1.setCell ⟨w0.heap.size + 1, 0, none⟩ (.int .i64 x)) x D p :=
  ⟨h.r.far (by simp) _, h.v.set_ 0 _, h.bel.setCell (by simp) _⟩
theorem VS.set1 (h : VS w0 w1 s D p) (x : ByteArray) : VS w0 (w1.setCell ⟨w0.heap.size + 1, 1, none⟩ (.string x)) s x p :=
  ⟨h.r.far (by simp) _, h.v.set_ 1 _, h.bel.setCell (by simp) _⟩
theorem VS.set2 (h : VS w0 w1 s D p) (x : Int) : VS w0 (w1.setCell ⟨w0.heap.size + 1, 2, none⟩ (.int .i64 x)) s D x :=
  ⟨h.r.far (by simp) _, h.v.set_ 2 _, h.bel.setCell (by simp) _⟩
theorem VS.c0 (h : VS w0 w1 s D p) : w1.cell? ⟨w0.heap.size + 1, 0, none⟩ = some (.int .i64 s) := h.v.cell 0
theorem VS.c1 (h : VS w0 w1 s D p) : w1.cell? ⟨w0.heap.size + 1, 1, none⟩ = some (.string D) := h.v.cell 1
theorem VS.c2 (h : VS w0 w1 s D p) : w1.cell? ⟨w0.heap.size + 1, 2, none⟩ = some (.int .i64 p) := h.v.cell 2
theorem VS.f0 (h : VS w0 w1 s D p) : w1.frozen? ⟨w0.heap.size + 1, 0, none⟩ = false := h.v.frozen 0
theorem VS.f1 (h : VS w0 w1 s D p) : w1.frozen? ⟨w0.heap.size + 1, 1, none⟩ = false := h.v.frozen 1
theorem VS.f2 (h : VS w0 w1 s D p) : w1.frozen? ⟨w0.heap.size + 1, 2, none⟩ = false := h.v.frozen 2
theorem VS.r0 (h : VS w0 w1 s D p) : w1.cell? ⟨w0.heap.size, 0, none⟩ = some (.int .i64 0) := h.r.cell 0
theorem VS.r1 (h : VS w0 w1 s D p) : w1.cell? ⟨w0.heap.size, 1, none⟩ = some (.string ⟨#[]⟩) := h.r.cell 1
theorem VS.r2 (h : VS w0 w1 s D p) : w1.cell? ⟨w0.heap.size, 2, none⟩ = some (.int .i64 0) := h.r.cell 2
theorem VS.g0 (h : VS w0 w1 s D p) : w1.frozen? ⟨w0.heap.size, 0, none⟩ = false := h.r.frozen 0
theorem VS.g1 (h : VS w0 w1 s D p) : w1.frozen? ⟨w0.heap.size, 1, none⟩ = false := h.r.frozen 1
theorem VS.g2 (h : VS w0 w1 s D p) : w1.frozen? ⟨w0.heap.size, 2, none⟩ = false := h.r.frozen 2
end

set_option maxHeartbeats 1000000 in
theorem value_any (s : ByteArray) (w : World) (hw : StdW w) (hs : s.size ≤ 30) (h : isB s.data.toList = true) :
    Calls Tryz.prog 180 #[.string s] w fun e w' => e = .returned (decA (valE s.data.toList (eprog s.data.toList))) ∧ Below w.heap.size w w' := by
  have ha := ascii_of_is h
  have HA := Lib.hid ha
  clear ha
  rcases cutE h with ⟨H, pt, hc, hl, ht, hi⟩ | ⟨H, pt, c, hc, hl, ht, ht2, hi⟩
  case' inl =>
    have hle : H.length ≤ 30 := by rw [← hl]; simpa using hs
    have HL := Lib.hid hl
    have HT := Lib.hid ht
    have HI := Lib.hid hi
    have HC := Lib.hid hc
    have HH := Lib.hid h
    clear hl ht hi hc h
    go_enter Tryz.func180, Tryz.ntmps180
    go_wp2_with fail
    refine (Tryz.strings_IndexAny_laid s _ _ (by omega) (by decide) HA.out ascii_eE).mono ?_
    rintro e w1 ⟨rfl, hb1⟩
    have hv1 := (VS.start w).next hb1
    clear hb1
    rw [show Lib.indexAny s.data.toList (⟨#[101, 69]⟩ : ByteArray).data.toList = -1 from HI.out]
    have c0 := hv1.c0; have c1 := hv1.c1; have c2 := hv1.c2; have f0 := hv1.f0; have f1 := hv1.f1; have f2 := hv1.f2
    generalize hep : (0 : Int) = ep at hv1
    have HEP : Hid (eprog s.data.toList = ep) := Lib.hid (by unfold eprog; rw [if_pos HT.out, hep])
    rw [hep] at c2
    clear hep
    have hep0 : -2058 ≤ ep ∧ ep ≤ 2058 := by have := HEP.out; unfold eprog at this; rw [if_pos HT.out] at this; omega
    obtain ⟨ep1, ep2⟩ := hep0
    have HX := HL
    go_wp2_with fail
    generalize hX : (Value.string s) = VX
    obtain ⟨X, hX2, HX2⟩ : ∃ X : ByteArray, Value.string X = VX ∧ Hid (X.data.toList = H) := ⟨s, hX, HX⟩
    subst hX2
    clear HX hX HL HA HI HH HT
    have HX := HX2
    clear HX2
  case' inr =>
    have hsz : H.length + 1 + (parts s.data.toList).tail.length = s.size := by
      have := congrArg List.length hl
      simp at this
      omega
    have hle : H.length ≤ 30 := by omega
    have hle2 : H.length + 1 ≤ s.size := by omega
    have htl : (s.extract (H.length + 1) s.size).data.toList = (parts s.data.toList).tail := by
      rw [Lib.extract_data, List.take_of_length_le (by simp)]
      have := congrArg (List.drop (H.length + 1)) hl
      rw [this]
      simp [List.drop_append]
    have hhd : (s.extract 0 H.length).data.toList = H := by
      rw [Lib.extract_data]
      simp
      rw [hl]
      simp
    have HTL := Lib.hid htl
    have HHD := Lib.hid hhd
    have HSZ := Lib.hid hsz
    clear htl hhd hsz
    have HL := Lib.hid hl
    have HT := Lib.hid ht
    have HT2 := Lib.hid ht2
    have HI := Lib.hid hi
    have HC := Lib.hid hc
    have HH := Lib.hid h
    clear hl ht ht2 hi hc h
    go_enter Tryz.func180, Tryz.ntmps180
    go_wp2_with fail
    refine (Tryz.strings_IndexAny_laid s _ _ (by omega) (by decide) HA.out ascii_eE).mono ?_
    rintro e w1 ⟨rfl, hb1⟩
    have hv1 := (VS.start w).next hb1
    clear hb1
    rw [show Lib.indexAny s.data.toList (⟨#[101, 69]⟩ : ByteArray).data.toList = H.length from HI.out]
    have c0 := hv1.c0; have c1 := hv1.c1; have c2 := hv1.c2; have f0 := hv1.f0; have f1 := hv1.f1; have f2 := hv1.f2
    go_wp2_with fail
    refine (expo_any _ _ (hw.below hv1.bel) (by simp [ByteArray.size_extract]; omega) (by rw [HTL.out]; exact HT.out) (by rw [HTL.out]; exact HT2.out)).mono ?_
    rintro e w2 ⟨rfl, hb2⟩
    rw [HTL.out]
    have hv2 := hv1.next hb2
    clear hb2 hv1 c0 c1 c2 f0 f1 f2
    generalize hep : clampI (atoiI (parts s.data.toList).tail) = ep
    have HEP : Hid (eprog s.data.toList = ep) := Lib.hid (by unfold eprog; rw [if_neg (fun hc => HT.out (by rw [hc]; rfl)), hep])
    clear hep
    have hep0 : -2058 ≤ ep ∧ ep ≤ 2058 := by have := HEP.out; unfold eprog clampI at this; split at this <;> omega
    obtain ⟨ep1, ep2⟩ := hep0
    have c0 := hv2.c0; have c1 := hv2.c1; have c2 := hv2.c2; have f0 := hv2.f0; have f1 := hv2.f1; have f2 := hv2.f2
    go_wp2_with fail
    have hv1 := hv2.set2 ep
    generalize w2.setCell ⟨w.heap.size + 1, 2, none⟩ (.int .i64 ep) = w1 at hv1 ⊢
    clear hv2 c0 c1 c2 f0 f1 f2
    have c0 := hv1.c0; have c1 := hv1.c1; have c2 := hv1.c2; have f0 := hv1.f0; have f1 := hv1.f1; have f2 := hv1.f2
    have HX := HHD
    generalize s.extract 0 H.length = X at HX ⊢
    clear HL HA HI HH HT HT2 HTL HHD HSZ hle2
  all_goals
    refine (Tryz.strings_CutPrefix X _ _).mono ?_
    rintro e w' ⟨rfl, rfl⟩
    have e1 : Lib.trimPrefix X.data.toList (⟨#[45]⟩ : ByteArray).data.toList = (parts s.data.toList).whole ++ pt := by rw [HX.out]; exact (tp_uns H).trans HC.out.uns
    have e2 : Lib.hasPrefix X.data.toList (⟨#[45]⟩ : ByteArray).data.toList = negL s.data.toList := by rw [HX.out]; exact (hp_neg H).trans HC.out.neg
    rw [e1, e2]
    clear e1 e2
    generalize hng : negL s.data.toList = ng
    have HNG := Lib.hid hng
    clear hng
    cases ng
    all_goals
     have HNG0 := HNG
     go_wp2_with fail
     clear HNG
     first
       | (have hv2 := hv1.set0 (-1)
          generalize hwv : w'.setCell ⟨w.heap.size + 1, 0, none⟩ (.int .i64 (-1)) = wv at hv2 ⊢
          have HN1 : Hid (negL s.data.toList = true) := HNG0
          clear hwv)
       | (have HN1 : Hid (negL s.data.toList = false) := HNG0
          have hv2 := hv1)
     clear hv1 c0 c1 c2 f0 f1 f2
     have c0 := hv2.c0
     have c1 := hv2.c1
     have c2 := hv2.c2
     have f0 := hv2.f0
     have f1 := hv2.f1
     have f2 := hv2.f2
     obtain ⟨m, hm⟩ := (hw.below hv2.bel).max
     obtain ⟨et, hsh⟩ := HC.out.sh
     have hWF := parts_len s.data.toList
     have hlen : (unsigned s.data.toList).length ≤ s.size := by have := unsigned_len s.data.toList; simpa using this
     have hlen2 := congrArg List.length hsh.eq
     simp only [List.length_append] at hlen2
     have hct := cut_point hsh.whole hsh.hpt
     have HCT := Lib.hid hct
     clear hct hsh
     refine (Tryz.strings_Cut _ _ m _ (by rw [len_of, List.length_append]; omega) hm).mono ?_
     rintro e w4 ⟨rfl, n, rfl⟩
     have e1 : (Lib.cut (ByteArray.mk ((parts s.data.toList).whole ++ pt).toArray).data.toList (⟨#[46]⟩ : ByteArray).data.toList).1 = (parts s.data.toList).whole := HCT.out.1
     have e2 : (Lib.cut (ByteArray.mk ((parts s.data.toList).whole ++ pt).toArray).data.toList (⟨#[46]⟩ : ByteArray).data.toList).2.1 = (parts s.data.toList).part := HCT.out.2
     rw [e1, e2]
     clear e1 e2 hm
     generalize (Lib.cut (ByteArray.mk ((parts s.data.toList).whole ++ pt).toArray).data.toList (⟨#[46]⟩ : ByteArray).data.toList).2.2 = cb
     have hF2 : (parts s.data.toList).part.length ≤ 30 := by simp at hWF; omega
     have hW1 : (⟨(parts s.data.toList).whole.toArray⟩ : ByteArray).size ≤ 30 := by rw [len_of]; simp at hWF; omega
     have hF1 : (⟨(parts s.data.toList).part.toArray⟩ : ByteArray).size ≤ 30 := by rw [len_of]; simp at hWF; omega
     go_wp2_with fail
     have hDA : (⟨(parts s.data.toList).whole.toArray⟩ ++ ⟨(parts s.data.toList).part.toArray⟩ : ByteArray).data.toList = allD s.data.toList := by simp [allD]
     have hDB : (⟨(parts s.data.toList).whole.toArray⟩ ++ ⟨(parts s.data.toList).part.toArray⟩ : ByteArray).size ≤ 30 := by
       rw [ByteArray.size_append, len_of, len_of]; simp at hWF; omega
     have HDA := Lib.hid hDA
     clear hDA hlen2 hlen hWF
     generalize (⟨(parts s.data.toList).whole.toArray⟩ ++ ⟨(parts s.data.toList).part.toArray⟩ : ByteArray) = DA at HDA hDB ⊢
     refine (Tryz.strings_TrimRight_one DA 48 (by decide) _ (by omega)).mono ?_
     rintro e w5 ⟨rfl, rfl⟩
     rw [HDA.out]
     have hR : (⟨(rightD s.data.toList).toArray⟩ : ByteArray).size ≤ 30 := by
       rw [len_of]
       have := trimR_len (allD s.data.toList) 48
       rw [← HDA.out] at this
       have h2 : DA.data.toList.length = DA.size := by simp
       rw [HDA.out] at this h2
       unfold rightD
       omega
     have HRD : Hid ((⟨(rightD s.data.toList).toArray⟩ : ByteArray).data.toList = rightD s.data.toList) := Lib.hid rfl
     rw [show (⟨(Lib.trimRightB (allD s.data.toList) 48).toArray⟩ : ByteArray) = ⟨(rightD s.data.toList).toArray⟩ from rfl]
     generalize (⟨(rightD s.data.toList).toArray⟩ : ByteArray) = R at HRD hR ⊢
     go_wp2_with fail
     have hv3 := ((hv2.drewN n).set1 R).set2 (ep + ((DA.size : Int) - R.size - (parts s.data.toList).part.length))
     have HPW : Hid (powD s.data.toList ep = ep + ((DA.size : Int) - R.size - (parts s.data.toList).part.length)) := Lib.hid (by
       unfold powD
       rw [← HDA.out, ← HRD.out]
       simp
       omega)
     have hP1 : -4000 ≤ ep + ((DA.size : Int) - R.size - (parts s.data.toList).part.length) := by omega
     have hP2 : ep + ((DA.size : Int) - R.size - (parts s.data.toList).part.length) ≤ 4000 := by omega
     generalize ep + ((DA.size : Int) - R.size - (parts s.data.toList).part.length) = PW at hv3 HPW hP1 hP2 ⊢
     clear c0 c1 c2 f0 f1 f2
     generalize World.setCell _ _ (Value.int .i64 PW) = w3 at hv3 ⊢
     clear hv2
     have c0 := hv3.c0
     have c1 := hv3.c1
     have c2 := hv3.c2
     have f0 := hv3.f0
     have f1 := hv3.f1
     have f2 := hv3.f2
     have r0 := hv3.r0
     have r1 := hv3.r1
     have r2 := hv3.r2
     have g0 := hv3.g0
     have g1 := hv3.g1
     have g2 := hv3.g2
     refine (Tryz.strings_TrimLeft_one R 48 (by decide) _).mono ?_
     rintro e w5 ⟨rfl, rfl⟩
     rw [HRD.out, show (⟨(Lib.trimLeftB (rightD s.data.toList) 48).toArray⟩ : ByteArray) = ⟨(digsD s.data.toList).toArray⟩ from rfl]
     by_cases hd : digsD s.data.toList = []
     · have hfin : valE s.data.toList (eprog s.data.toList) = ⟨false, [], 0⟩ := by unfold valE; rw [if_pos hd]
       have HF := Lib.hid hfin
       clear hfin
       rw [hd]
       clear hd
       go_wp2
       refine bodyPost_ret (v := .agg #[.int .i64 0, .string ⟨#[]⟩, .int .i64 0]) (by simp [results, Tryz.results180, go_sem, r0, r1, r2]) rfl ⟨by rw [HF.out]; rfl, ?_⟩
       repeat (first | exact hv3.bel | refine Below.setCell ?_ (by simp) _)
     · have hfin : valE s.data.toList (eprog s.data.toList) = ⟨negL s.data.toList, digsD s.data.toList, PW⟩ := by unfold valE; rw [if_neg hd, HEP.out, HPW.out]
       have HF := Lib.hid hfin
       have HD := Lib.hid hd
       have hne : (digsD s.data.toList == []) = false := by simpa using hd
       clear hfin hd
       have hsg : sgI ⟨negL s.data.toList, digsD s.data.toList, PW⟩ = if negL s.data.toList then -1 else 1 := by unfold sgI; rw [if_neg HD.out]
       rw [HN1.out] at hsg
       have HS := Lib.hid hsg
       clear hsg
       go_wp2
       first
         | (refine bodyPost_ret (v := .agg #[.int .i64 (-1), .string ⟨(digsD s.data.toList).toArray⟩, .int .i64 PW]) (by simp [results, Tryz.results180, go_sem, r0, r1, r2]) rfl ⟨?_, ?_⟩
            · rw [HF.out, HN1.out]
              unfold decA
              simp only
              rw [HS.out]
              rfl
            · repeat (first | exact hv3.bel | refine Below.setCell ?_ (by simp) _))
         | (refine bodyPost_ret (v := .agg #[.int .i64 1, .string ⟨(digsD s.data.toList).toArray⟩, .int .i64 PW]) (by simp [results, Tryz.results180, go_sem, r0, r1, r2]) rfl ⟨?_, ?_⟩
            · rw [HF.out, HN1.out]
              unfold decA
              simp only
              rw [HS.out]
              rfl
            · repeat (first | exact hv3.bel | refine Below.setCell ?_ (by simp) _))
end Go.Proofs.YtjepnddndpmnnaaGreat.Nm
namespace Go.Proofs.YtjepnddndpmnnaaGreat
set_option linter.ambiguousOpen false
open Go.RowKit Go.Sort Go.Lib Go.Shelf Nm
set_option maxRecDepth 100000
set_option linter.unusedSimpArgs false
set_option linter.unusedVariables false

set_option maxHeartbeats 2000000 in
theorem numDigits_T (zs : List Int) (hz : okTab zs) (u : Nat) (h1 : 1 ≤ u) (h2 : u < 18446744073709551616) (w : World)
    (htab : TabIs Tryz.prog w "internal/strconv.uint64pow10" .u64 zs) :
    Calls Tryz.prog 224 #[.int .u64 u] w fun e w' => e = .returned (.int .i64 (ndT zs u : Int)) ∧ w' = w := by
  obtain ⟨hnd, h19⟩ := numDigits_eq u h1 h2
  have hL : Lib.bitLen u ≤ 64 := bitLen_le u 64 (Nat.le_refl _) h2
  have hto : ((u : Int)).toNat = u := by omega
  unfold ndT
  have h20 : l10 (Lib.bitLen u) < zs.length := by rw [hz.1]; omega
  have hcell : w.cell? ⟨5, l10 (Lib.bitLen u), none⟩ = some (.int .u64 ((tabN zs (l10 (Lib.bitLen u)) : Nat) : Int)) := by
    rw [htab.cell gPow _ h20]
    have := (hz.2 _ (List.getElem_mem h20)).1
    unfold tabN
    rw [List.getD_eq_getElem?_getD, List.getElem?_eq_getElem h20]
    simp only [Option.getD_some]
    congr 2
    first | omega | (rw [Int.toNat_of_nonneg this])
  generalize hq : l10 (Lib.bitLen u) = q at h20 hcell ⊢
  generalize tabN zs q = T at hcell ⊢
  have hq20 : q < 20 := by rw [← hz.1]; exact h20
  clear hnd h19 htab h20 hz
  have hle : decide ((T : Int) ≤ (u : Int)) = decide (T ≤ u) := by simp
  by_cases hT : T ≤ u
  · rw [if_pos hT]
    have HT := Lib.hid hT
    have hd : decide ((T : Int) ≤ (u : Int)) = true := by simp; omega
    clear hT hle
    go_enter Tryz.func224, Tryz.ntmps224
    go_wp2_with (first
      | (go_at_call 230; refine (Any.internal_strconv_log10Pow2 { Tryz.laysM176 with } _ (by first | exact hL | (rw [hto]; exact hL)) _).mono ?_; rintro e w' ⟨rfl, rfl⟩)
      | (go_at_call 232; refine (Any.internal_strconv_bool2_int { Tryz.laysM176 with } _ _).mono ?_; rintro e w' ⟨rfl, rfl⟩)
      | (go_at_call 231; refine (Any.bits_Len64 { Tryz.laysM176 with } _ _ (by omega) (by omega)).mono ?_; rintro e w' ⟨rfl, rfl⟩))
    go_wp2
    go_ret
    exact ⟨rfl, rfl⟩
  · rw [if_neg hT]
    have hd : decide ((T : Int) ≤ (u : Int)) = false := by simp; omega
    have hd2 : decide (T ≤ u) = false := by simp; omega
    clear hT hle
    go_enter Tryz.func224, Tryz.ntmps224
    go_wp2_with (first
      | (go_at_call 230; refine (Any.internal_strconv_log10Pow2 { Tryz.laysM176 with } _ (by first | exact hL | (rw [hto]; exact hL)) _).mono ?_; rintro e w' ⟨rfl, rfl⟩)
      | (go_at_call 232; refine (Any.internal_strconv_bool2_int { Tryz.laysM176 with } _ _).mono ?_; rintro e w' ⟨rfl, rfl⟩)
      | (go_at_call 231; refine (Any.bits_Len64 { Tryz.laysM176 with } _ _ (by omega) (by omega)).mono ?_; rintro e w' ⟨rfl, rfl⟩))
    go_wp2
    go_ret
    exact ⟨rfl, rfl⟩
end Go.Proofs.YtjepnddndpmnnaaGreat
namespace Go.Proofs.YtjepnddndpmnnaaGreat
open Go.RowKit Go.Sort Go.Lib Go.Shelf
set_option maxRecDepth 100000
set_option linter.unusedSimpArgs false
set_option linter.unusedVariables false

set_option maxHeartbeats 4000000 in
theorem fmt2_any (blk cap u : Nat) (hu : u < 1000) (w : World) (hH : Holds (fun (b : UInt8) => Value.int .u8 (b.toNat : Int)) w blk 0 (Array.replicate 2 0)) :
    Calls Tryz.prog 225 #[.slice (some ⟨blk, 0, none⟩) 2 cap, .int .u64 u] w fun e w' =>
      e = .returned (.tuple #[]) ∧ ∃ n : Nat, w' = (putRow (fun (b : UInt8) => Value.int .u8 (b.toNat : Int)) w blk 0 (((Array.replicate 2 (0 : UInt8)).setIfInBounds 1 (sm (u % 100 * 2 + 1))).setIfInBounds 0 (sm (u % 100 * 2)))).drewN n := by
  go_enter Tryz.func225, Tryz.ntmps225
  go_name_bytes SM hSM
  have eSM : SM = Lib.smalls := by rw [← hSM]; decide +kernel
  subst eSM
  clear hSM
  go_wp2
  go_loopw [1, 4] (fun vu vn wr => vu = .int .u64 u ∧ vn = .int .i64 2 ∧ wr = w) (fun _ _ _ => 0)
  case atStart => exact ⟨rfl, rfl, rfl⟩
  case round =>
    obtain ⟨rfl, rfl, rfl⟩ := hrel
    have hf0 : ∀ t, t < 2 → wr.frozen? ⟨blk, t, none⟩ = false := fun t ht => by have := (hH t (by simpa using ht)).2; simpa using this
    have hc0 : ∀ t, t < 2 → wr.cell? ⟨blk, t, none⟩ = some (.int .u8 0) := fun t ht => by
      have := (hH t (by simpa using ht)).1
      rcases (show t = 0 ∨ t = 1 by omega) with rfl | rfl <;> simpa using this
    have c0 := hc0 0 (by omega)
    have c1 := hc0 1 (by omega)
    have f0 := hf0 0 (by omega)
    have f1 := hf0 1 (by omega)
    have AH := Lib.hid hH
    clear hH hc0 hf0
    go_wp2
    go_name_slot 16 x0 hx0
    have hxe0 : x0 = ((u % 100 * 2 : Nat) : Int) := by omega
    have hXa0 : ∀ w, (Instr.index 9 (.string Lib.smalls) (.int .u32 (x0 + 1))).run Tryz.prog w = .ok (.int .u8 ((sm (u % 100 * 2 + 1)).toNat : Int)) w := idx_smalls 9 Tryz.underlying9 .u32 _ _ (by omega) (by omega)
    have hXb0 : ∀ w, (Instr.index 9 (.string Lib.smalls) (.int .u32 x0)).run Tryz.prog w = .ok (.int .u8 ((sm (u % 100 * 2)).toNat : Int)) w := idx_smalls 9 Tryz.underlying9 .u32 _ _ (by omega) (by omega)
    have hlo0 : 0 ≤ x0 := by omega
    have hhi0 : x0 ≤ 198 := by omega
    clear hx0 hxe0
    have mixed := Tryz.laysM176.mixed
    go_region_o
    go_wp2
    go_end0
    refine ⟨rfl, 1, ?_⟩
    have e0 := store2_world wr blk 0 (Array.replicate 2 (0 : UInt8)) 0 1 0 (sm (u % 100 * 2 + 1)) (sm (u % 100 * 2)) (by simp) (by simp)
    rw [putRow_self _ _ _ _ _ AH.out] at e0
    simp only [Nat.zero_add] at e0
    exact e0
end Go.Proofs.YtjepnddndpmnnaaGreat
namespace Go.Proofs.YtjepnddndpmnnaaGreat
open Go.RowKit Go.Sort Go.Lib Go.Shelf
set_option maxRecDepth 100000
set_option linter.unusedSimpArgs false
set_option linter.unusedVariables false

theorem fmtT_any (nd u blk cap : Nat) (hnd : nd = 2 ∨ nd = 3 ∨ nd = 4) (hu : u < 1000) (w : World) (hH : Holds (fun (b : UInt8) => Value.int .u8 (b.toNat : Int)) w blk 0 (Array.replicate nd 0)) :
    Calls Tryz.prog 225 #[.slice (some ⟨blk, 0, none⟩) nd cap, .int .u64 u] w fun e w' =>
      e = .returned (.tuple #[]) ∧ ∃ n : Nat, w' = (putRow (fun (b : UInt8) => Value.int .u8 (b.toNat : Int)) w blk 0 (rowT nd u)).drewN n := by
  by_cases h2 : nd = 2
  · subst h2
    exact fmt2_any blk cap u hu w hH
  · have hp : u < 10 ^ nd := by
      rcases hnd with rfl | rfl | rfl
      · exact absurd rfl h2
      · exact Nat.lt_of_lt_of_le hu (by decide)
      · exact Nat.lt_of_lt_of_le hu (by decide)
    have hC := Any.internal_strconv_formatBase10 { Tryz.laysM176 with } blk 0 cap u (Array.replicate nd 0) w hH (by rw [Array.size_replicate]; exact hp) (by omega) (by rw [Array.size_replicate]; omega)
    rw [Array.size_replicate] at hC
    refine Calls.mono (by exact hC) ?_
    rintro e w' ⟨rfl, n, v', dk, rfl, hF⟩
    refine ⟨rfl, n, ?_⟩
    have : dk = rowT nd u := by
      unfold rowT
      rw [if_neg h2]
      apply Array.ext
      · simp [hF.size]
      · intro i h1 h3
        have := hF.done i (Nat.zero_le _) (by rw [← hF.size]; exact h1)
        rw [getElem!_pos _ i h1] at this
        rw [this]
        simp
    rw [this]
set_option maxHeartbeats 12800000 in
theorem appU_T (zs : List Int) (hz : okTab zs) (B n u : Nat) (hu0 : 100 ≤ u) (hu : u < 1000) (sv : Value) (xs : List Value) (w : World) (hown : w.ownsRow B 5 1 sv n xs) (hBw : B ≤ w.heap.size) (hlim : n + 20 ≤ 140737488355328)
    (htab : TabIs Tryz.prog w "internal/strconv.uint64pow10" .u64 zs) :
    Calls Tryz.prog 215 #[sv, .int .u64 u, .int .i64 10] w fun e w' => ∃ v', e = .returned v' ∧ w'.ownsRow B 5 1 v' (n + (digsT zs u).length) (xs ++ byteCells (digsT zs u)) ∧ Below B w w' := by
  have hnr := ndT_range zs hu0 hu
  have hnD := numDigits_T zs hz u (by omega) (by omega) (w.alloc (.cells zeros24 265)) (tabIs_alloc htab _)
  have hdl : digsT zs u = (rowT (ndT zs u) u).toList := by unfold digsT; rw [if_neg (by omega)]
  rw [hdl]
  generalize ndT zs u = nd at *
  have hal : Tryz.prog.arrayLen 265 = 24 := by kernel_rfl
  have hel : Tryz.prog.elem 265 = 5 := by kernel_rfl
  have hsl : ∀ W, (Instr.sliceAt 265 (.pointer (some ⟨w.heap.size, 0, none⟩)) none (some (.int .i64 (nd : Int))) none).run Tryz.prog W = .ok (.slice (some ⟨w.heap.size, 0, none⟩) nd 24) W := fun W => by
    rw [run_sliceAt_array_h W 265 ⟨w.heap.size, 0, none⟩ (by kernel_rfl) .i64 (nd : Int) (by omega) (by rw [hal]; omega)]
    go_simp
  have hH0 := holds_zero0 w 265 nd (by omega)
  have hfmt := fmtT_any nd u w.heap.size 24 hnr hu (w.alloc (.cells zeros24 265)) hH0
  have HH0 := Lib.hid hH0
  have iu : (100 : Int) ≤ (u : Int) := by omega
  clear hH0 hal
  obtain ⟨i0, hi, hz0, hz1, hz2⟩ := info_parts Tryz.laysM176.i5
  have hrl : (rowT nd u).size = nd := rowT_size nd u
  obtain ⟨R, hR⟩ : ∃ R, rowT nd u = R := ⟨_, rfl⟩
  rw [hR] at hfmt hrl ⊢
  clear hR hdl
  go_enter Tryz.func215, Tryz.ntmps215
  go_wp2_with (first
    | (go_at_call 224; refine hnD.mono ?_; rintro e w' ⟨rfl, rfl⟩))
  refine hfmt.mono ?_
  rintro e w' ⟨rfl, k, rfl⟩
  have hcells : ∀ j u', (byteCells R.toList)[j]? = some u' → ((putRow (fun (b : UInt8) => Value.int .u8 (b.toNat : Int)) (w.alloc (.cells zeros24 265)) w.heap.size 0 R).drewN k).cell? ((⟨w.heap.size, 0, none⟩ : Addr).add j) = some u' := by
    intro j u' hj
    have hjl : j < R.size := by
      have h5 := (List.getElem?_eq_some_iff.1 hj).1
      rwa [byteCells_length, Array.length_toList] at h5
    have e5 : (byteCells R.toList)[j]? = some (Value.int .u8 (R[j]!.toNat : Int)) := by rw [getElem!_pos _ j hjl]; simp [byteCells, hjl]
    rw [e5] at hj
    cases hj
    rw [add_plain, World.cell?_drewN]
    exact cell?_putRow (fun (b : UInt8) => Value.int .u8 (b.toNat : Int)) _ w.heap.size 0 _ R HH0.out (by rw [hrl, Array.size_replicate]) j hjl
  obtain ⟨os, eo⟩ := fin_at w (.cells zeros24 265) R k 0
  have hown2 : ((putRow (fun (b : UInt8) => Value.int .u8 (b.toNat : Int)) (w.alloc (.cells zeros24 265)) w.heap.size 0 R).drewN k).ownsRow B 5 1 sv n xs := by rw [eo]; exact ownsRow_grow hown k os
  have hnx2 : Below B w ((putRow (fun (b : UInt8) => Value.int .u8 (b.toNat : Int)) (w.alloc (.cells zeros24 265)) w.heap.size 0 R).drewN k) := by rw [eo]; exact below_grow B w hBw k os
  have hsz2 : w.heap.size ≤ ((putRow (fun (b : UInt8) => Value.int .u8 (b.toNat : Int)) (w.alloc (.cells zeros24 265)) w.heap.size 0 R).drewN k).heap.size := by rw [eo]; exact size_grow w k os
  generalize (putRow (fun (b : UInt8) => Value.int .u8 (b.toNat : Int)) (w.alloc (.cells zeros24 265)) w.heap.size 0 R).drewN k = W2 at hcells hown2 hnx2 hsz2 ⊢
  clear eo HH0 hfmt hnD
  go_wp2_with (at_builtin; refine wpList_append_own _ rfl _ _ 22 rfl B 5 i0 (.int .u8 0) 1 1 Tryz.underlying22 hi hz0 hz1 hz2 rfl (by decide) _ _ _ rfl hown2 ⟨w.heap.size, 0, none⟩ nd 24 (byteCells R.toList) rfl ?c0 hcells ?c2 ?c3 ?c4 ?c5 ?_)
  case c0 => rw [byteCells_length, Array.length_toList, Nat.mul_one]; exact hrl
  case c2 => intro u' hu'; simp only [byteCells, List.mem_map] at hu'; obtain ⟨b, _, rfl⟩ := hu'; rfl
  case c3 => unfold maxLen; omega
  case c4 => omega
  case c5 => omega
  intro v2 w3 hown' hgrow _
  go_wp2
  go_ret
  refine ⟨v2, rfl, ?_, hnx2.grown hgrow (by omega) (fun k hk => (hown2.lt k hk).1)⟩
  rw [Array.length_toList, hrl]
  exact hown'
end Go.Proofs.YtjepnddndpmnnaaGreat

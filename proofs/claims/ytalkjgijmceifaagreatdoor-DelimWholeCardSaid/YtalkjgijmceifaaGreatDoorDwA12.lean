/-
  num's valueOf: its contract.
  A number's text by any table of the library: how many digits; small numbers.
-/
import Derived.Test.YtalkjgijmceifaaGreatDoorDwA10
import Derived.Test.YtalkjgijmceifaaGreatDoorDwA11
import Derived.Test.YtalkjgijmceifaaGreatDoorDwA03
import Derived.Shelf.Strconv.AppendInt10
namespace Go.Proofs.YtalkjgijmceifaaGreatDoor.Nm
open Go.RowKit
set_option linter.unusedSectionVars false
variable [Tab]

theorem hp_neg (l : List UInt8) : Lib.hasPrefix l [45] = negL l := by
  cases l with
  | nil => rfl
  | cons b l =>
    unfold Lib.hasPrefix negL
    rw [Bool.eq_iff_iff]
    simp [List.isPrefixOf, ← UInt8.toNat_inj]
    omega
theorem tp_uns (l : List UInt8) : Lib.trimPrefix l [45] = unsigned l := by
  unfold Lib.trimPrefix unsigned
  rw [hp_neg]
  rfl
theorem len_of (l : List UInt8) : (⟨l.toArray⟩ : ByteArray).size = l.length := by simp [ByteArray.size]
theorem bytes_of (s : ByteArray) : (⟨s.data.toList.toArray⟩ : ByteArray) = s := by cases s; simp

theorem ascii_eE : ∀ (j : Nat) b, (⟨#[101, 69]⟩ : ByteArray).data.toList[j]? = some b → b.toNat < 128 := by
  intro j b h
  match j with
  | 0 => simp at h; subst h; decide
  | 1 => simp at h; subst h; decide
  | j + 2 => simp at h

/-- The two blocks of valueOf's call: the result's, and the value's. -/
structure VS (w0 w1 : World) (s : Int) (D : ByteArray) (p : Int) : Prop where
  r : Blk w1 w0.heap.size 114 #[.int .i64 0, .string ⟨#[]⟩, .int .i64 0]
  v : Blk w1 (w0.heap.size + 1) 114 #[.int .i64 s, .string D, .int .i64 p]
  bel : Below w0.heap.size w0 w1
section
variable {w0 w1 w2 : World} {s p : Int} {D : ByteArray}
theorem VS.start (w : World) : VS w ((w.alloc (.cells #[.int .i64 0, .string ⟨#[]⟩, .int .i64 0] 114)).alloc (.cells #[.int .i64 1, .string ⟨#[]⟩, .int .i64 0] 114)) 1 ⟨#[]⟩ 0 :=
  ⟨(Blk.new w _ _).alloc _, by have := Blk.new (w.alloc (.cells #[.int .i64 0, .string ⟨#[]⟩, .int .i64 0] 114)) 114 #[.int .i64 1, .string ⟨#[]⟩, .int .i64 0]; simpa using this, ((Below.refl _ _).alloc (Nat.le_refl _) _).alloc (by simp) _⟩
theorem VS.next (h : VS w0 w1 s D p) (hb : Below w1.heap.size w1 w2) : VS w0 w2 s D p :=
  ⟨h.r.below hb h.r.lt, h.v.below hb h.v.lt, h.bel.trans (hb.mono h.bel.size)⟩
theorem VS.drewN (h : VS w0 w1 s D p) (n : Nat) : VS w0 (w1.drewN n) s D p := h.next (below_drewN (Below.refl _ _) n)
theorem VS.set0 (h : VS w0 w1 s D p) (x : Int) : VS w0 (w1.setCell ⟨w0.heap.size + 1, 0, none⟩ (.int .i64 x)) x D p :=
  ⟨h.r.far (by simp) _, h.v.set_ 0 _, h.bel.setCell (by simp) _⟩
theorem VS.set1 (h : VS w0 w1 s D p) (x : ByteArray) : VS w0 (w1.setCell ⟨w0.heap.size + 1, 1, none⟩ (.string x)) s x p :=
  ⟨h.r.far (by simp) _, h.v.set_ 1 _, h.bel.setCell (by simp) _⟩
theorem VS.set2 (h : VS w0 w1 s D p) (x : Int) : VS w0 (w1.setCell ⟨w0.heap.size + 1, 2, none⟩ (.int .i64 x)) s D x :=
  ⟨h.r.far (by simp) _, h.v.set_ 2 _, h.bel.setCell (by simp) _⟩
theorem VS.c0 (h : VS w0 w1 s D p) : w1.cell? ⟨w0.heap.size + 1, 0, none⟩ = some (.int .i64 s) := h.v.cell 0
theorem VS.c1 (h : VS w0 w1 s D p) : w1.cell? ⟨w0.heap.size + 1, 1, none⟩ = some (.string D) := h.v.cell 1
theorem VS.c2 (h : VS w0 w1 s D p) : w1.cell? ⟨w0.heap.size + 1, 2, none⟩ = some (.int .i64 p) := h.v.cell 2
theorem VS.f0 (h : VS w0 w1 s D p) : w1.frozen? ⟨w0.heap.size + 1, 0, none⟩ = false := h.v.frozen 0
theorem VS.f1 (h : VS w0 w1 s D p) : w1.frozen? ⟨w0.heap.size + 1, 1, none⟩ = false := h.v.frozen 1
theorem VS.f2 (h : VS w0 w1 s D p) : w1.frozen? ⟨w0.heap.size + 1, 2, none⟩ = false := h.v.frozen 2
theorem VS.r0 (h : VS w0 w1 s D p) : w1.cell? ⟨w0.heap.size, 0, none⟩ = some (.int .i64 0) := h.r.cell 0
theorem VS.r1 (h : VS w0 w1 s D p) : w1.cell? ⟨w0.heap.size, 1, none⟩ = some (.string ⟨#[]⟩) := h.r.cell 1
theorem VS.r2 (h : VS w0 w1 s D p) : w1.cell? ⟨w0.heap.size, 2, none⟩ = some (.int .i64 0) := h.r.cell 2
theorem VS.g0 (h : VS w0 w1 s D p) : w1.frozen? ⟨w0.heap.size, 0, none⟩ = false := h.r.frozen 0
theorem VS.g1 (h : VS w0 w1 s D p) : w1.frozen? ⟨w0.heap.size, 1, none⟩ = false := h.r.frozen 1
theorem VS.g2 (h : VS w0 w1 s D p) : w1.frozen? ⟨w0.heap.size, 2, none⟩ = false := h.r.frozen 2
end

set_option maxHeartbeats 1000000 in
theorem value_any (s : ByteArray) (w : World) (hw : StdW w) (hs : s.size ≤ 30) (h : isB s.data.toList = true) :
    Calls Tryz.prog 69 #[.string s] w fun e w' => e = .returned (decA (valE s.data.toList (eprog s.data.toList))) ∧ Below w.heap.size w w' := by
  have ha := ascii_of_is h
  have HA := Lib.hid ha
  clear ha
  rcases cutE h with ⟨H, pt, hc, hl, ht, hi⟩ | ⟨H, pt, c, hc, hl, ht, ht2, hi⟩
  case' inl =>
    have hle : H.length ≤ 30 := by rw [← hl]; simpa using hs
    have HL := Lib.hid hl
    have HT := Lib.hid ht
    have HI := Lib.hid hi
    have HC := Lib.hid hc
    have HH := Lib.hid h
    clear hl ht hi hc h
    go_enter Tryz.func69, Tryz.ntmps69
    go_wp2_with fail
    refine (Tryz.strings_IndexAny_laid s _ _ (by omega) (by decide) HA.out ascii_eE).mono ?_
    rintro e w1 ⟨rfl, hb1⟩
    have hv1 := (VS.start w).next hb1
    clear hb1
    rw [show Lib.indexAny s.data.toList (⟨#[101, 69]⟩ : ByteArray).data.toList = -1 from HI.out]
    have c0 := hv1.c0; have c1 := hv1.c1; have c2 := hv1.c2; have f0 := hv1.f0; have f1 := hv1.f1; have f2 := hv1.f2
    generalize hep : (0 : Int) = ep at hv1
    have HEP : Hid (eprog s.data.toList = ep) := Lib.hid (by unfold eprog; rw [if_pos HT.out, hep])
    rw [hep] at c2
    clear hep
    have hep0 : -2058 ≤ ep ∧ ep ≤ 2058 := by have := HEP.out; unfold eprog at this; rw [if_pos HT.out] at this; omega
    obtain ⟨ep1, ep2⟩ := hep0
    have HX := HL
    go_wp2_with fail
    generalize hX : (Value.string s) = VX
    obtain ⟨X, hX2, HX2⟩ : ∃ X : ByteArray, Value.string X = VX ∧ Hid (X.data.toList = H) := ⟨s, hX, HX⟩
    subst hX2
    clear HX hX HL HA HI HH HT
    have HX := HX2
    clear HX2
  case' inr =>
    have hsz : H.length + 1 + (parts s.data.toList).tail.length = s.size := by
      have := congrArg List.length hl
      simp at this
      omega
    have hle : H.length ≤ 30 := by omega
    have hle2 : H.length + 1 ≤ s.size := by omega
    have htl : (s.extract (H.length + 1) s.size).data.toList = (parts s.data.toList).tail := by
      rw [Lib.extract_data, List.take_of_length_le (by simp)]
      have := congrArg (List.drop (H.length + 1)) hl
      rw [this]
      simp [List.drop_append]
    have hhd : (s.extract 0 H.length).data.toList = H := by
      rw [Lib.extract_data]
      simp
      rw [hl]
      simp
    have HTL := Lib.hid htl
    have HHD := Lib.hid hhd
    have HSZ := Lib.hid hsz
    clear htl hhd hsz
    have HL := Lib.hid hl
    have HT := Lib.hid ht
    have HT2 := Lib.hid ht2
    have HI := Lib.hid hi
    have HC := Lib.hid hc
    have HH := Lib.hid h
    clear hl ht ht2 hi hc h
    go_enter Tryz.func69, Tryz.ntmps69
    go_wp2_with fail
    refine (Tryz.strings_IndexAny_laid s _ _ (by omega) (by decide) HA.out ascii_eE).mono ?_
    rintro e w1 ⟨rfl, hb1⟩
    have hv1 := (VS.start w).next hb1
    clear hb1
    rw [show Lib.indexAny s.data.toList (⟨#[101, 69]⟩ : ByteArray).data.toList = H.length from HI.out]
    have c0 := hv1.c0; have c1 := hv1.c1; have c2 := hv1.c2; have f0 := hv1.f0; have f1 := hv1.f1; have f2 := hv1.f2
    go_wp2_with fail
    refine (expo_any _ _ (hw.below hv1.bel) (by simp [ByteArray.size_extract]; omega) (by rw [HTL.out]; exact HT.out) (by rw [HTL.out]; exact HT2.out)).mono ?_
    rintro e w2 ⟨rfl, hb2⟩
    rw [HTL.out]
    have hv2 := hv1.next hb2
    clear hb2 hv1 c0 c1 c2 f0 f1 f2
    generalize hep : clampI (atoiI (parts s.data.toList).tail) = ep
    have HEP : Hid (eprog s.data.toList = ep) := Lib.hid (by unfold eprog; rw [if_neg (fun hc => HT.out (by rw [hc]; rfl)), hep])
    clear hep
    have hep0 : -2058 ≤ ep ∧ ep ≤ 2058 := by have := HEP.out; unfold eprog clampI at this; split at this <;> omega
    obtain ⟨ep1, ep2⟩ := hep0
    have c0 := hv2.c0; have c1 := hv2.c1; have c2 := hv2.c2; have f0 := hv2.f0; have f1 := hv2.f1; have f2 := hv2.f2
    go_wp2_with fail
    have hv1 := hv2.set2 ep
    generalize w2.setCell ⟨w.heap.size + 1, 2, none⟩ (.int .i64 ep) = w1 at hv1 ⊢
    clear hv2 c0 c1 c2 f0 f1 f2
    have c0 := hv1.c0; have c1 := hv1.c1; have c2 := hv1.c2; have f0 := hv1.f0; have f1 := hv1.f1; have f2 := hv1.f2
    have HX := HHD
    generalize s.extract 0 H.length = X at HX ⊢
    clear HL HA HI HH HT HT2 HTL HHD HSZ hle2
  all_goals
    refine (Tryz.strings_CutPrefix X _ _).mono ?_
    rintro e w' ⟨rfl, rfl⟩
    have e1 : Lib.trimPrefix X.data.toList (⟨#[45]⟩ : ByteArray).data.toList = (parts s.data.toList).whole ++ pt := by rw [HX.out]; exact (tp_uns H).trans HC.out.uns
    have e2 : Lib.hasPrefix X.data.toList (⟨#[45]⟩ : ByteArray).data.toList = negL s.data.toList := by rw [HX.out]; exact (hp_neg H).trans HC.out.neg
    rw [e1, e2]
    clear e1 e2
    generalize hng : negL s.data.toList = ng
    have HNG := Lib.hid hng
    clear hng
    cases ng
    all_goals
     have HNG0 := HNG
     go_wp2_with fail
     clear HNG
     first
       | (have hv2 := hv1.set0 (-1)
          generalize hwv : w'.setCell ⟨w.heap.size + 1, 0, none⟩ (.int .i64 (-1)) = wv at hv2 ⊢
          have HN1 : Hid (negL s.data.toList = true) := HNG0
          clear hwv)
       | (have HN1 : Hid (negL s.data.toList = false) := HNG0
          have hv2 := hv1)
     clear hv1 c0 c1 c2 f0 f1 f2
     have c0 := hv2.c0
     have c1 := hv2.c1
     have c2 := hv2.c2
     have f0 := hv2.f0
     have f1 := hv2.f1
     have f2 := hv2.f2
     obtain ⟨m, hm⟩ := (hw.below hv2.bel).max
     obtain ⟨et, hsh⟩ := HC.out.sh
     have hWF := parts_len s.data.toList
     have hlen : (unsigned s.data.toList).length ≤ s.size := by have := unsigned_len s.data.toList; simpa using this
     have hlen2 := congrArg List.length hsh.eq
     simp only [List.length_append] at hlen2
     have hct := cut_point hsh.whole hsh.hpt
     have HCT := Lib.hid hct
     clear hct hsh
     refine (Tryz.strings_Cut _ _ m _ (by rw [len_of, List.length_append]; omega) hm).mono ?_
     rintro e w4 ⟨rfl, n, rfl⟩
     have e1 : (Lib.cut (ByteArray.mk ((parts s.data.toList).whole ++ pt).toArray).data.toList (⟨#[46]⟩ : ByteArray).data.toList).1 = (parts s.data.toList).whole := HCT.out.1
     have e2 : (Lib.cut (ByteArray.mk ((parts s.data.toList).whole ++ pt).toArray).data.toList (⟨#[46]⟩ : ByteArray).data.toList).2.1 = (parts s.data.toList).part := HCT.out.2
     rw [e1, e2]
     clear e1 e2 hm
     generalize (Lib.cut (ByteArray.mk ((parts s.data.toList).whole ++ pt).toArray).data.toList (⟨#[46]⟩ : ByteArray).data.toList).2.2 = cb
     have hF2 : (parts s.data.toList).part.length ≤ 30 := by simp at hWF; omega
     have hW1 : (⟨(parts s.data.toList).whole.toArray⟩ : ByteArray).size ≤ 30 := by rw [len_of]; simp at hWF; omega
     have hF1 : (⟨(parts s.data.toList).part.toArray⟩ : ByteArray).size ≤ 30 := by rw [len_of]; simp at hWF; omega
     go_wp2_with fail
     have hDA : (⟨(parts s.data.toList).whole.toArray⟩ ++ ⟨(parts s.data.toList).part.toArray⟩ : ByteArray).data.toList = allD s.data.toList := by simp [allD]
     have hDB : (⟨(parts s.data.toList).whole.toArray⟩ ++ ⟨(parts s.data.toList).part.toArray⟩ : ByteArray).size ≤ 30 := by
       rw [ByteArray.size_append, len_of, len_of]; simp at hWF; omega
     have HDA := Lib.hid hDA
     clear hDA hlen2 hlen hWF
     generalize (⟨(parts s.data.toList).whole.toArray⟩ ++ ⟨(parts s.data.toList).part.toArray⟩ : ByteArray) = DA at HDA hDB ⊢
     refine (Tryz.strings_TrimRight_one DA 48 (by decide) _ (by omega)).mono ?_
     rintro e w5 ⟨rfl, rfl⟩
     rw [HDA.out]
     have hR : (⟨(rightD s.data.toList).toArray⟩ : ByteArray).size ≤ 30 := by
       rw [len_of]
       have := trimR_len (allD s.data.toList) 48
       rw [← HDA.out] at this
       have h2 : DA.data.toList.length = DA.size := by simp
       rw [HDA.out] at this h2
       unfold rightD
       omega
     have HRD : Hid ((⟨(rightD s.data.toList).toArray⟩ : ByteArray).data.toList = rightD s.data.toList) := Lib.hid rfl
     rw [show (⟨(Lib.trimRightB (allD s.data.toList) 48).toArray⟩ : ByteArray) = ⟨(rightD s.data.toList).toArray⟩ from rfl]
     generalize (⟨(rightD s.data.toList).toArray⟩ : ByteArray) = R at HRD hR ⊢
     go_wp2_with fail
     have hv3 := ((hv2.drewN n).set1 R).set2 (ep + ((DA.size : Int) - R.size - (parts s.data.toList).part.length))
     have HPW : Hid (powD s.data.toList ep = ep + ((DA.size : Int) - R.size - (parts s.data.toList).part.length)) := Lib.hid (by
       unfold powD
       rw [← HDA.out, ← HRD.out]
       simp
       omega)
     have hP1 : -4000 ≤ ep + ((DA.size : Int) - R.size - (parts s.data.toList).part.length) := by omega
     have hP2 : ep + ((DA.size : Int) - R.size - (parts s.data.toList).part.length) ≤ 4000 := by omega
     generalize ep + ((DA.size : Int) - R.size - (parts s.data.toList).part.length) = PW at hv3 HPW hP1 hP2 ⊢
     clear c0 c1 c2 f0 f1 f2
     generalize World.setCell _ _ (Value.int .i64 PW) = w3 at hv3 ⊢
     clear hv2
     have c0 := hv3.c0
     have c1 := hv3.c1
     have c2 := hv3.c2
     have f0 := hv3.f0
     have f1 := hv3.f1
     have f2 := hv3.f2
     have r0 := hv3.r0
     have r1 := hv3.r1
     have r2 := hv3.r2
     have g0 := hv3.g0
     have g1 := hv3.g1
     have g2 := hv3.g2
     refine (Tryz.strings_TrimLeft_one R 48 (by decide) _).mono ?_
     rintro e w5 ⟨rfl, rfl⟩
     rw [HRD.out, show (⟨(Lib.trimLeftB (rightD s.data.toList) 48).toArray⟩ : ByteArray) = ⟨(digsD s.data.toList).toArray⟩ from rfl]
     by_cases hd : digsD s.data.toList = []
     · have hfin : valE s.data.toList (eprog s.data.toList) = ⟨false, [], 0⟩ := by unfold valE; rw [if_pos hd]
       have HF := Lib.hid hfin
       clear hfin
       rw [hd]
       clear hd
       go_wp2
       refine bodyPost_ret (v := .agg #[.int .i64 0, .string ⟨#[]⟩, .int .i64 0]) (by simp [results, Tryz.results69, go_sem, r0, r1, r2]) rfl ⟨by rw [HF.out]; rfl, ?_⟩
       repeat (first | exact hv3.bel | refine Below.setCell ?_ (by simp) _)
     · have hfin : valE s.data.toList (eprog s.data.toList) = ⟨negL s.data.toList, digsD s.data.toList, PW⟩ := by unfold valE; rw [if_neg hd, HEP.out, HPW.out]
       have HF := Lib.hid hfin
       have HD := Lib.hid hd
       have hne : (digsD s.data.toList == []) = false := by simpa using hd
       clear hfin hd
       have hsg : sgI ⟨negL s.data.toList, digsD s.data.toList, PW⟩ = if negL s.data.toList then -1 else 1 := by unfold sgI; rw [if_neg HD.out]
       rw [HN1.out] at hsg
       have HS := Lib.hid hsg
       clear hsg
       go_wp2
       first
         | (refine bodyPost_ret (v := .agg #[.int .i64 (-1), .string ⟨(digsD s.data.toList).toArray⟩, .int .i64 PW]) (by simp [results, Tryz.results69, go_sem, r0, r1, r2]) rfl ⟨?_, ?_⟩
            · rw [HF.out, HN1.out]
              unfold decA
              simp only
              rw [HS.out]
              rfl
            · repeat (first | exact hv3.bel | refine Below.setCell ?_ (by simp) _))
         | (refine bodyPost_ret (v := .agg #[.int .i64 1, .string ⟨(digsD s.data.toList).toArray⟩, .int .i64 PW]) (by simp [results, Tryz.results69, go_sem, r0, r1, r2]) rfl ⟨?_, ?_⟩
            · rw [HF.out, HN1.out]
              unfold decA
              simp only
              rw [HS.out]
              rfl
            · repeat (first | exact hv3.bel | refine Below.setCell ?_ (by simp) _))
end Go.Proofs.YtalkjgijmceifaaGreatDoor.Nm
namespace Go.Proofs.YtalkjgijmceifaaGreatDoor
set_option linter.ambiguousOpen false
open Go.RowKit Go.Sort Go.Lib Go.Shelf Nm
set_option maxRecDepth 100000
set_option linter.unusedSimpArgs false
set_option linter.unusedVariables false

set_option maxHeartbeats 2000000 in
theorem numDigits_T (zs : List Int) (hz : okTab zs) (u : Nat) (h1 : 1 ≤ u) (h2 : u < 18446744073709551616) (w : World)
    (htab : TabIs Tryz.prog w "internal/strconv.uint64pow10" .u64 zs) :
    Calls Tryz.prog 113 #[.int .u64 u] w fun e w' => e = .returned (.int .i64 (ndT zs u : Int)) ∧ w' = w := by
  obtain ⟨hnd, h19⟩ := numDigits_eq u h1 h2
  have hL : Lib.bitLen u ≤ 64 := bitLen_le u 64 (Nat.le_refl _) h2
  have hto : ((u : Int)).toNat = u := by omega
  unfold ndT
  have h20 : l10 (Lib.bitLen u) < zs.length := by rw [hz.1]; omega
  have hcell : w.cell? ⟨5, l10 (Lib.bitLen u), none⟩ = some (.int .u64 ((tabN zs (l10 (Lib.bitLen u)) : Nat) : Int)) := by
    rw [htab.cell gPow _ h20]
    have := (hz.2 _ (List.getElem_mem h20)).1
    unfold tabN
    rw [List.getD_eq_getElem?_getD, List.getElem?_eq_getElem h20]
    simp only [Option.getD_some]
    congr 2
    first | omega | (rw [Int.toNat_of_nonneg this])
  generalize hq : l10 (Lib.bitLen u) = q at h20 hcell ⊢
  generalize tabN zs q = T at hcell ⊢
  have hq20 : q < 20 := by rw [← hz.1]; exact h20
  clear hnd h19 htab h20 hz
  have hle : decide ((T : Int) ≤ (u : Int)) = decide (T ≤ u) := by simp
  by_cases hT : T ≤ u
  · rw [if_pos hT]
    have HT := Lib.hid hT
    have hd : decide ((T : Int) ≤ (u : Int)) = true := by simp; omega
    clear hT hle
    go_enter Tryz.func113, Tryz.ntmps113
    go_wp2_with (first
      | (go_at_call 119; refine (Any.internal_strconv_log10Pow2 { Tryz.laysM176 with } _ (by first | exact hL | (rw [hto]; exact hL)) _).mono ?_; rintro e w' ⟨rfl, rfl⟩)
      | (go_at_call 121; refine (Any.internal_strconv_bool2_int { Tryz.laysM176 with } _ _).mono ?_; rintro e w' ⟨rfl, rfl⟩)
      | (go_at_call 120; refine (Any.bits_Len64 { Tryz.laysM176 with } _ _ (by omega) (by omega)).mono ?_; rintro e w' ⟨rfl, rfl⟩))
    go_wp2
    go_ret
    exact ⟨rfl, rfl⟩
  · rw [if_neg hT]
    have hd : decide ((T : Int) ≤ (u : Int)) = false := by simp; omega
    have hd2 : decide (T ≤ u) = false := by simp; omega
    clear hT hle
    go_enter Tryz.func113, Tryz.ntmps113
    go_wp2_with (first
      | (go_at_call 119; refine (Any.internal_strconv_log10Pow2 { Tryz.laysM176 with } _ (by first | exact hL | (rw [hto]; exact hL)) _).mono ?_; rintro e w' ⟨rfl, rfl⟩)
      | (go_at_call 121; refine (Any.internal_strconv_bool2_int { Tryz.laysM176 with } _ _).mono ?_; rintro e w' ⟨rfl, rfl⟩)
      | (go_at_call 120; refine (Any.bits_Len64 { Tryz.laysM176 with } _ _ (by omega) (by omega)).mono ?_; rintro e w' ⟨rfl, rfl⟩))
    go_wp2
    go_ret
    exact ⟨rfl, rfl⟩
end Go.Proofs.YtalkjgijmceifaaGreatDoor

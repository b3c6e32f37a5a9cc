/-
  Entities: Fill.
-/
import Derived.Test.YtmbjeagmnjkemaaEtC
import Derived.WalkMore
import Derived.Deep.LoopGhost
namespace Go.Proofs.Ytmbjeagmnjkemaa
open Go.RowKit Go.Maps
set_option maxRecDepth 100000
set_option linter.unusedSimpArgs false
set_option linter.unusedSectionVars false
variable [Fo]

theorem T2.thenB {e mb : Nat} {w w1 w' : World} (h : T2 e mb w w1) (k : Below w.heap.size w1 w') : T2 e mb w w' :=
  ⟨k.os.trans h.os, k.tape.trans h.tape, k.output.trans h.output, Nat.le_trans h.size k.size, fun i hi h1 h2 => (k.block i hi).trans (h.block i hi h1 h2)⟩
theorem EAt.thenB {e mb : Nat} {L : EnL} {told B : Nat} {w w' : World} (h : EAt w e mb L told) (k : Below B w w') (he : e < B) (hm : mb < B) : EAt w' e mb L told :=
  h.keep (k.block e he) (k.block mb hm)
theorem BldAt.t2 {e mb B b : Nat} {l : List UInt8} {w w' : World} (h : BldAt w B b l) (k : T2 e mb w w') (he : e < B) (hm : mb < B) : BldAt w' B b l :=
  h.keep fun i o hi ho _ _ _ => by
    have hlt := (Array.getElem?_eq_some_iff.1 ho).1
    rw [k.block i hlt (by omega) (by omega), ho]

/-- A reference of which j bytes were looked at. -/
def RefAt (l : List UInt8) (j : Nat) : Prop := (refE [] l).1 = (refE (l.take j) (l.drop j)).1 ∧ (refE [] l).2 = (refE (l.take j) (l.drop j)).2 + j ∧ (l.take j).length = j
theorem refAt_zero (l : List UInt8) : RefAt l 0 := ⟨rfl, rfl, rfl⟩
theorem refAt_step {l : List UInt8} {j : Nat} {c : UInt8} {t : List UInt8} (h : RefAt l j) (hd : l.drop j = c :: t) (hl : localL (l.take (j + 1)) = true) : RefAt l (j + 1) := by
  have hlt : j < l.length := by
    rcases Nat.lt_or_ge j l.length with h | h
    · exact h
    · rw [List.drop_eq_nil_of_le h] at hd; cases hd
  have hc : l[j] = c := by
    rw [List.drop_eq_getElem_cons hlt] at hd
    injection hd
  have hdt : l.drop (j + 1) = t := by
    rw [List.drop_eq_getElem_cons hlt] at hd
    injection hd
  have ht : l.take (j + 1) = l.take j ++ [c] := by rw [List.take_succ_eq_append_getElem hlt, hc]
  obtain ⟨h1, h2, h3⟩ := h
  rw [hd] at h1 h2
  simp only [refE] at h1 h2
  rw [← ht, if_pos hl] at h1 h2
  refine ⟨by rw [hdt]; exact h1, by rw [hdt, h2]; simp only; omega, by rw [ht]; simp [h3]⟩
theorem refAt_bad {l : List UInt8} {j : Nat} {c : UInt8} {t : List UInt8} (h : RefAt l j) (hd : l.drop j = c :: t) (ht : l.take (j + 1) = l.take j ++ [c]) (hl : localL (l.take (j + 1)) = false) (hc : c ≠ 59 ∨ j = 0) : refE [] l = (none, j) := by
  obtain ⟨h1, h2, h3⟩ := h
  rw [hd] at h1 h2
  simp only [refE] at h1 h2
  rw [← ht, hl] at h1 h2
  have hn : ¬ (c = 59 ∧ l.take j ≠ []) := by
    rintro ⟨e1, e2⟩
    rcases hc with hc | hc
    · exact hc e1
    · subst hc; exact e2 rfl
  simp only [Bool.false_eq_true, if_false, if_neg hn] at h1 h2
  exact Prod.ext h1 (by rw [h2]; simp)
theorem refAt_end {l : List UInt8} {j : Nat} (h : RefAt l j) (hd : l.drop j = []) : refE [] l = (none, j) := by
  obtain ⟨h1, h2, h3⟩ := h
  rw [hd] at h1 h2
  exact Prod.ext h1 (by rw [h2]; simp [refE])
theorem refAt_name {l : List UInt8} {j : Nat} {t : List UInt8} (h : RefAt l j) (hd : l.drop j = 59 :: t) (hj : 0 < j) : refE [] l = (some (l.take j), j) := by
  obtain ⟨h1, h2, h3⟩ := h
  rw [hd] at h1 h2
  simp only [refE] at h1 h2
  have hn : True ∧ l.take j ≠ [] := ⟨trivial, fun e => by rw [e] at h3; simp at h3; omega⟩
  rw [local_semi] at h1 h2
  simp only [Bool.false_eq_true, if_false, if_pos hn] at h1 h2
  exact Prod.ext h1 (by rw [h2]; simp)

theorem ext_list (s : ByteArray) (a b : Nat) : (s.extract a b).data.toList = (s.data.toList.drop a).take (b - a) := by
  simp

set_option maxHeartbeats 4000000 in
theorem efill_any (w : World) (e mb : Nat) (L : EnL) (told : Nat) (raw : ByteArray) (h : EAt w e mb L told) (hr : raw.size ≤ 100000000) :
    Calls Try.prog 14 #[.pointer (some ⟨e, 0, none⟩), .string raw] w fun x w' => x = .returned (.tuple #[.string ⟨(fillL L raw.data.toList told).s.toArray⟩, .int .i64 (fillL L raw.data.toList told).e, .int .i64 (fillL L raw.data.toList told).n]) ∧ EAt w' e mb L (fillL L raw.data.toList told).told ∧ T2 e mb w w' := by
  obtain ⟨R, hR⟩ : ∃ R, fillL L raw.data.toList told = R := ⟨_, rfl⟩
  rw [hR]
  have HR := Lib.hid hR
  have hel := h.blk.lt
  have hml := h.map.lt
  have hnew := BldAt.new w w.heap.size (Nat.le_refl _)
  have ha : Below w.heap.size w (w.alloc (.cells #[.pointer none, .slice none 0 0] 54)) := (Below.refl _ _).alloc (Nat.le_refl _) _
  have h0 := h.below ha
  have hT0 : T2 e mb w _ := T2.of_below ha
  clear hR ha
  go_enter Try.func14, Try.ntmps14
  go_wp2
  go_step3
  go_wp2
  go_step3
  go_wp2
  go_loopg [8] raw.size (fun g i wr => ∃ (k f told1 : Nat) (out : List UInt8), k + g = raw.size ∧ i = .int .i64 k ∧ raw.size ≤ k + f ∧ Hid (fillE L f (raw.data.toList.drop k) k out told1 = R) ∧ BldAt wr w.heap.size w.heap.size out ∧ out.length ≤ 200 * k ∧ EAt wr e mb L told1 ∧ T2 e mb w wr)
  case atStart => exact ⟨0, raw.size, told, [], by omega, rfl, by omega, Lib.hid (by rw [← HR.out]; unfold fillL; simp), hnew, by simp, h0, hT0⟩
  case round =>
    obtain ⟨k, f, told1, out, hkg, rfl, hkf, HF, hb, hol, he, hT⟩ := hrel
    have hTs := hT.size
    cases gk with
    | zero =>
      have hke : k = raw.size := by omega
      have HE := Lib.hid (show (⟨out, 0, k, told1⟩ : FR) = R by rw [← HF.out, hke, List.drop_eq_nil_of_le (by simp), fill_end])
      clear HF hkg
      go_wp2_with (first
        | (go_at_call 25; refine (Try.Builder_String_any w.heap.size w.heap.size out _ hb hTs).mono ?_; rintro x w1 ⟨rfl, hb1⟩))
      rw [Exit.noGoto_ret]
      go_ret3
      have hE := HE.out
      subst hE
      exact ⟨by rw [hke]; rfl, he.thenB hb1 hel hml, hT.thenB hb1⟩
    | succ g =>
      have hlt : k < raw.size := by omega
      obtain ⟨f1, rfl⟩ : ∃ f1, f = f1 + 1 := ⟨f - 1, by omega⟩
      have hd := drop_cons raw k hlt
      have hle := byte_le raw[k]
      by_cases h38 : raw[k] = 38
      · have hn38 : (raw[k].toNat : Int) = 38 := by rw [h38]; rfl
        have z1 : ((raw[k].toNat : Int) != 38) = false := by simp [hn38]
        have z2 : ((raw[k].toNat : Int) == 38) = true := by simp [hn38]
        rw [h38] at hd
        obtain ⟨q, hq⟩ : ∃ q : Nat, k + 1 = q := ⟨_, rfl⟩
        have eq1 : (k : Int) + 1 = (q : Int) := by omega
        have hqs : q ≤ raw.size := by omega
        rw [hq] at hd
        have HF0 := Lib.hid (show fillE L (f1 + 1) (38 :: raw.data.toList.drop q) k out told1 = R by rw [← HF.out, hd])
        obtain ⟨T, hTl⟩ : ∃ T, raw.data.toList.drop q = T := ⟨_, rfl⟩
        rw [hTl] at HF0
        have HT := Lib.hid hTl
        have HQ := Lib.hid hq
        have hTlen := Lib.hid (show T.length = raw.size - q by rw [← hTl]; simp)
        clear hd h38 HF hTl hn38 hq
        go_wp2
        go_loopg [8] (raw.size - q) (fun g2 i wy => ∃ j : Nat, q + j + g2 = raw.size ∧ i = .int .i64 ((q + j : Nat) : Int) ∧ Hid (RefAt T j) ∧ wr = wy)
        case atStart => exact ⟨0, by omega, by go_num, Lib.hid (refAt_zero _), rfl⟩
        case round =>
          obtain ⟨j, hjg, rfl, HJ, rfl⟩ := hrel
          obtain ⟨p, hp⟩ : ∃ p : Nat, q + j = p := ⟨_, rfl⟩
          rw [hp]
          rw [hp] at hjg
          have HP := Lib.hid hp
          cases gk with
          | zero =>
            have hpe : p = raw.size := by omega
            have HE := Lib.hid (show (⟨[], 2, p, told1⟩ : FR) = R by
              have hr2 := refAt_end HJ.out (List.drop_eq_nil_of_le (by rw [hTlen.out]; omega))
              rw [← HF0.out, fill_bad (by rw [hr2]), hr2]
              simp only
              congr 1
              have := HQ.out
              omega)
            subst hpe
            clear hp hjg
            go_wp2
            rw [Exit.noGoto_ret]
            go_ret3
            have hE := HE.out
            subst hE
            exact ⟨rfl, he, hT⟩
          | succ g2 =>
            have hpl : p < raw.size := by omega
            obtain ⟨p1, hp1⟩ : ∃ p1 : Nat, p + 1 = p1 := ⟨_, rfl⟩
            have ep1 : (p : Int) + 1 = (p1 : Int) := by omega
            have hdj : T.drop j = raw[p] :: raw.data.toList.drop p1 := by rw [← HT.out, List.drop_drop, hp, drop_cons raw p hpl, hp1]
            have htj : T.take (j + 1) = T.take j ++ [raw[p]] := by
              have hlt' : j < T.length := by rw [hTlen.out]; omega
              rw [List.take_succ_eq_append_getElem hlt']
              rw [List.drop_eq_getElem_cons hlt'] at hdj
              injection hdj with e1 _
              rw [e1]
            have HX1 := Lib.hid (show (raw.extract q p1).data.toList = T.take (j + 1) by rw [ext_list, HT.out]; congr 1; omega)
            have HX0 := Lib.hid (show (raw.extract q p).data.toList = T.take j by rw [ext_list, HT.out]; congr 1; omega)
            have hxs1 : (raw.extract q p1).size ≤ 140737488355328 := by rw [ByteArray.size_extract]; omega
            have hxs0 : (raw.extract q p).size ≤ 140737488355328 := by rw [ByteArray.size_extract]; omega
            have hle2 := byte_le raw[p]
            have hqp : q ≤ p := by omega
            have hqp1 : q ≤ p1 := by omega
            have hp1s : p1 ≤ raw.size := by omega
            rcases Bool.eq_false_or_eq_true (localL (T.take (j + 1))) with hl | hl
            · have HL := Lib.hid (show localL (raw.extract q p1).data.toList = true by rw [HX1.out, hl])
              have HJ1 := Lib.hid (refAt_step HJ.out hdj hl)
              clear hl hdj htj hp hp1
              go_wp2_with (first
                | (go_at_call 23; refine (local_any _ _ hxs1).mono ?_; rintro x w' ⟨rfl, rfl⟩; rw [HL.out]))
              go_roundg g2
              case measure => omega
              case rel => exact ⟨j + 1, by have := HP.out; omega, by have := HP.out; first | go_num | (congr 1; omega), HJ1, rfl⟩
            · have HL := Lib.hid (show localL (raw.extract q p1).data.toList = false by rw [HX1.out, hl])
              by_cases hb59 : raw[p] ≠ 59 ∨ j = 0
              · have HE := Lib.hid (show (⟨[], 2, p, told1⟩ : FR) = R by
                  have hr2 := refAt_bad HJ.out hdj htj hl hb59
                  rw [← HF0.out, fill_bad (by rw [hr2]), hr2]
                  simp only
                  congr 1
                  have := HQ.out
                  omega)
                by_cases h59 : raw[p] = 59
                · have hj0 : j = 0 := by
                    rcases hb59 with h | h
                    · exact absurd h59 h
                    · exact h
                  have y0 : (raw[p].toNat : Int) = 59 := by rw [h59]; rfl
                  have y1 : ((raw[p].toNat : Int) != 59) = false := by simp [y0]
                  have y2 : ((raw[p].toNat : Int) == 59) = true := by simp [y0]
                  have y3 : ((p : Int) == (q : Int)) = true := by simp; omega
                  clear hl hdj htj hp hp1 h59 hb59 hj0 y0
                  go_wp2_with (first
                    | (go_at_call 23; refine (local_any _ _ hxs1).mono ?_; rintro x w' ⟨rfl, rfl⟩; rw [HL.out]))
                  rw [Exit.noGoto_ret]
                  go_ret3
                  have hE := HE.out
                  subst hE
                  exact ⟨rfl, he, hT⟩
                · have hn : ¬ (raw[p].toNat : Int) = 59 := fun e => h59 (by apply UInt8.toNat_inj.1; rw [show (59 : UInt8).toNat = 59 from rfl]; omega)
                  have y1 : ((raw[p].toNat : Int) != 59) = true := by simpa using hn
                  have y2 : ((raw[p].toNat : Int) == 59) = false := by simpa using hn
                  clear hl hdj htj hp hp1 h59 hb59 hn
                  go_wp2_with (first
                    | (go_at_call 23; refine (local_any _ _ hxs1).mono ?_; rintro x w' ⟨rfl, rfl⟩; rw [HL.out]))
                  rw [Exit.noGoto_ret]
                  go_ret3
                  have hE := HE.out
                  subst hE
                  exact ⟨rfl, he, hT⟩
              · have h59 : raw[p] = 59 := by
                  rcases Classical.em (raw[p] = 59) with h | h
                  · exact h
                  · exact absurd (.inl h) hb59
                have hj0 : 0 < j := by
                  rcases Nat.eq_zero_or_pos j with h | h
                  · exact absurd (.inr h) hb59
                  · exact h
                have y0 : (raw[p].toNat : Int) = 59 := by rw [h59]; rfl
                have y1 : ((raw[p].toNat : Int) != 59) = false := by simp [y0]
                have y2 : ((raw[p].toNat : Int) == 59) = true := by simp [y0]
                have y3 : ((p : Int) == (q : Int)) = false := by simp; omega
                rw [h59] at hdj
                have hr2 := refAt_name HJ.out hdj hj0
                obtain ⟨G, hG⟩ : ∃ G, getE L told1 (T.take j) = G := ⟨_, rfl⟩
                have hG2 : getE L told1 (raw.extract q p).data.toList = G := by rw [HX0.out, hG]
                have HG2 := Lib.hid hG2
                have hGl : G.s.length ≤ 200 := by rw [← hG]; exact get_len he.sz
                by_cases hGe : G.e = 0
                · have HF1 := Lib.hid (show fillE L f1 (raw.data.toList.drop p1) p1 (out ++ G.s) G.told = R by
                    have h1 := HF0.out
                    rw [fill_ref (nm := T.take j) (by rw [hr2]) (by rw [hG]; exact hGe), hr2, hG] at h1
                    simp only at h1
                    have h2 := HQ.out
                    rw [← h1, ← HT.out, List.drop_drop, show q + (j + 1) = p1 by omega, show k + 1 + j + 1 = p1 by omega])
                  have HGe := Lib.hid hGe
                  have hGs : (⟨G.s.toArray⟩ : ByteArray).size ≤ 200 := by show G.s.toArray.size ≤ 200; simpa using hGl
                  have hsum : out.length + (⟨G.s.toArray⟩ : ByteArray).size ≤ 140737488355328 := Nat.le_trans (Nat.add_le_add_left hGs _) (by omega)
                  clear hl hdj htj hp hp1 h59 hb59 y0 hr2 hG hG2 hGe
                  go_wp2_with (first
                    | (go_at_call 23; refine (local_any _ _ hxs1).mono ?_; rintro x w' ⟨rfl, rfl⟩; rw [HL.out])
                    | (go_at_call 16; refine (eget_any _ e mb L told1 _ he hxs0).mono ?_; rw [HG2.out, HGe.out]; rintro x w1 ⟨rfl, he1, hT1⟩; have hb1 := hb.t2 hT1 hel hml; have hTs1 := Nat.le_trans hTs hT1.size)
                    | (go_at_call 24; refine (bstr_any w.heap.size w.heap.size out ⟨G.s.toArray⟩ _ hb1 hsum hTs1).mono ?_; rintro x w2 ⟨rfl, hb2, hbel2⟩))
                  go_roundg g2
                  case measure => omega
                  case rel => exact ⟨p1, f1, G.told, _, by omega, by go_num, by omega, HF1, hb2, by simp; omega, he1.thenB hbel2 hel hml, (hT.trans hT1).thenB hbel2⟩
                · have HE := Lib.hid (show (⟨[], G.e, p, G.told⟩ : FR) = R by
                    have h1 := HF0.out
                    rw [fill_no (nm := T.take j) (by rw [hr2]) (by rw [hG]; exact hGe), hr2, hG] at h1
                    simp only at h1
                    rw [← h1]
                    have h2 := HQ.out
                    congr 1
                    omega)
                  have hGs : G.s = [] := by
                    rw [← hG] at hGe ⊢
                    unfold getE at hGe ⊢
                    split
                    · rename_i t ht
                      rw [ht] at hGe
                      exact absurd rfl hGe
                    · rename_i ht
                      rw [ht] at hGe
                      split
                      · rfl
                      · rename_i t2 ht2
                        rw [ht2] at hGe
                        simp only at hGe
                        split
                        · rfl
                        · rename_i h40
                          rw [if_neg h40] at hGe
                          exact absurd rfl hGe
                  obtain ⟨ge, hge⟩ : ∃ ge, G.e = ge := ⟨_, rfl⟩
                  rw [hge] at hGe
                  have HGe := Lib.hid hge
                  have n1 : (ge == 0) = false := by simpa using hGe
                  have n2 : (ge != 0) = true := by simpa using hGe
                  clear hl hdj htj hp hp1 h59 hb59 y0 hr2 hG hG2 hGe hge hGs
                  go_wp2_with (first
                    | (go_at_call 23; refine (local_any _ _ hxs1).mono ?_; rintro x w' ⟨rfl, rfl⟩; rw [HL.out])
                    | (go_at_call 16; refine (eget_any _ e mb L told1 _ he hxs0).mono ?_; rw [HG2.out, HGe.out]; rintro x w1 ⟨rfl, he1, hT1⟩))
                  rw [Exit.noGoto_ret]
                  go_ret3
                  have hE := HE.out
                  have h3 := HGe.out
                  subst hE
                  subst h3
                  exact ⟨rfl, he1, hT.trans hT1⟩
      · have hn : ¬ (raw[k].toNat : Int) = 38 := fun e => h38 (by apply UInt8.toNat_inj.1; rw [show (38 : UInt8).toNat = 38 from rfl]; omega)
        have z1 : ((raw[k].toNat : Int) != 38) = true := by simpa using hn
        have z2 : ((raw[k].toNat : Int) == 38) = false := by simpa using hn
        have HF1 := Lib.hid (show fillE L f1 (raw.data.toList.drop (k + 1)) (k + 1) (out ++ [raw[k]]) told1 = R by rw [← HF.out, hd, fill_byte h38])
        clear hd h38 HF hn
        go_wp2_with (first
          | (go_at_call 22; refine (bbyte_any w.heap.size w.heap.size out raw[k] _ hb (by omega) hTs).mono ?_; rintro x w1 ⟨rfl, hb1, hbel1⟩))
        go_roundg g
        case measure => omega
        case rel => exact ⟨k + 1, f1, told1, _, by omega, by go_num, by omega, HF1, hb1, by simp; omega, he.thenB hbel1 hel hml, hT.thenB hbel1⟩
end Go.Proofs.Ytmbjeagmnjkemaa

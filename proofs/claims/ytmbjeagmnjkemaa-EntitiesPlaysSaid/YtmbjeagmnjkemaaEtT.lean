/-
  The reference's entities (hexaplaref13): Ref and Fill.
-/
import Derived.Test.YtmbjeagmnjkemaaEtS
import Derived.Test.YtmbjeagmnjkemaaEtD
namespace Go.Proofs.Ytmbjeagmnjkemaa
open Go.RowKit Go.Maps
set_option maxRecDepth 100000
set_option linter.unusedSimpArgs false
set_option linter.unusedVariables false
set_option linter.unusedSectionVars false
variable [Fo]

def RefEnd (T : List UInt8) (q : Nat) : Ending :=
  match (refE [] T).1 with
  | some nm => .returned (.tuple #[.string ⟨nm.toArray⟩, .int .i64 ((q + (refE [] T).2 : Nat) : Int), .int .i64 0])
  | none => .returned (.tuple #[.string ⟨#[]⟩, .int .i64 (-1), .int .i64 ((q + (refE [] T).2 : Nat) : Int)])
theorem refEnd_none {T : List UInt8} {q j : Nat} (h : refE [] T = (none, j)) : RefEnd T q = .returned (.tuple #[.string ⟨#[]⟩, .int .i64 (-1), .int .i64 ((q + j : Nat) : Int)]) := by unfold RefEnd; rw [h]
theorem refEnd_some {T : List UInt8} {q j : Nat} {nm : List UInt8} (h : refE [] T = (some nm, j)) : RefEnd T q = .returned (.tuple #[.string ⟨nm.toArray⟩, .int .i64 ((q + j : Nat) : Int), .int .i64 0]) := by unfold RefEnd; rw [h]

set_option maxHeartbeats 2000000 in
theorem rref_any (raw : ByteArray) (q : Nat) (w : World) (hqs : q ≤ raw.size) (hr : raw.size ≤ 100000000) :
    Calls Try.prog 32 #[.string raw, .int .i64 (q : Int)] w fun x w' => x = RefEnd (raw.data.toList.drop q) q ∧ w = w' := by
  obtain ⟨T, hTl⟩ : ∃ T, raw.data.toList.drop q = T := ⟨_, rfl⟩
  have HT := Lib.hid hTl
  have hTlen := Lib.hid (show T.length = raw.size - q by rw [← hTl]; simp)
  rw [hTl]
  obtain ⟨R, hR⟩ : ∃ R, RefEnd T q = R := ⟨_, rfl⟩
  rw [hR]
  have HR := Lib.hid hR
  clear hTl hR
  go_enter Try.func32, Try.ntmps32
  go_wp2
  go_loop [7] (fun i => ∃ j : Nat, q + j ≤ raw.size ∧ i = .int .i64 ((q + j : Nat) : Int) ∧ Hid (RefAt T j)) (fun i => raw.size - (intOf i).toNat)
  case atStart => exact ⟨0, by omega, by go_num, Lib.hid (refAt_zero _)⟩
  case round =>
    obtain ⟨j, hjq, rfl, HJ⟩ := hrel
    obtain ⟨p, hp⟩ : ∃ p : Nat, q + j = p := ⟨_, rfl⟩
    rw [hp]
    rw [hp] at hjq
    have HP := Lib.hid hp
    by_cases hpl : p < raw.size
    · obtain ⟨p1, hp1⟩ : ∃ p1 : Nat, p + 1 = p1 := ⟨_, rfl⟩
      have ep1 : (p : Int) + 1 = (p1 : Int) := by omega
      have hdj : T.drop j = raw[p] :: raw.data.toList.drop p1 := by rw [← HT.out, List.drop_drop, hp, drop_cons raw p hpl, hp1]
      have htj : T.take (j + 1) = T.take j ++ [raw[p]] := by
        have hlt' : j < T.length := by rw [hTlen.out]; omega
        rw [List.take_succ_eq_append_getElem hlt']
        rw [List.drop_eq_getElem_cons hlt'] at hdj
        injection hdj with e1 _
        rw [e1]
      have HX1 := Lib.hid (show (raw.extract q p1).data.toList = T.take (j + 1) by rw [ext_list, HT.out]; congr 1; omega)
      have HX0 := Lib.hid (show (raw.extract q p).data.toList = T.take j by rw [ext_list, HT.out]; congr 1; omega)
      have hxs1 : (raw.extract q p1).size ≤ 140737488355328 := by rw [ByteArray.size_extract]; omega
      have hle2 := byte_le raw[p]
      have hqp : q ≤ p := by omega
      have hqp1 : q ≤ p1 := by omega
      have hp1s : p1 ≤ raw.size := by omega
      by_cases h59 : raw[p] = 59
      · have y0 : (raw[p].toNat : Int) = 59 := by rw [h59]; rfl
        have y1 : ((raw[p].toNat : Int) == 59) = true := by simp [y0]
        by_cases hj0 : j = 0
        · have hl : localL (T.take (j + 1)) = false := by rw [htj, h59]; exact local_semi _
          have HL := Lib.hid (show localL (raw.extract q p1).data.toList = false by rw [HX1.out, hl])
          have HE := Lib.hid (show R = .returned (.tuple #[.string ⟨#[]⟩, .int .i64 (-1), .int .i64 (p : Int)]) by
            rw [← HR.out, refEnd_none (refAt_bad HJ.out hdj htj hl (.inr hj0)), hp])
          have hng : ¬ (q : Int) < (p : Int) := by omega
          clear hl hdj htj hp hp1 h59 y0
          go_wp2_with (first
            | (go_at_call 28; refine (rlocal_any _ _ hxs1).mono ?_; rintro x w' ⟨rfl, rfl⟩; rw [HL.out]))
          go_ret3
          exact ⟨HE.out.symm, rfl⟩
        · rw [h59] at hdj
          have HE := Lib.hid (show R = .returned (.tuple #[.string (raw.extract q p), .int .i64 (p : Int), .int .i64 0]) by
            rw [← HR.out, refEnd_some (refAt_name HJ.out hdj (by omega)), hp, ← HX0.out])
          have hng : (q : Int) < (p : Int) := by omega
          clear hdj htj hp hp1 h59 y0
          go_wp2
          go_ret3
          exact ⟨HE.out.symm, rfl⟩
      · have hn : ¬ (raw[p].toNat : Int) = 59 := fun e => h59 (by apply UInt8.toNat_inj.1; rw [show (59 : UInt8).toNat = 59 from rfl]; omega)
        have y1 : ((raw[p].toNat : Int) == 59) = false := by simpa using hn
        rcases Bool.eq_false_or_eq_true (localL (T.take (j + 1))) with hl | hl
        · have HL := Lib.hid (show localL (raw.extract q p1).data.toList = true by rw [HX1.out, hl])
          have HJ1 := Lib.hid (refAt_step HJ.out hdj hl)
          clear hl hdj htj hp hp1 h59 hn
          go_wp2_with (first
            | (go_at_call 28; refine (rlocal_any _ _ hxs1).mono ?_; rintro x w' ⟨rfl, rfl⟩; rw [HL.out]))
          go_round
          case rel => exact ⟨j + 1, by have := HP.out; omega, by have := HP.out; first | go_num | (congr 1; omega), HJ1⟩
          case measure => have := HP.out; first | (simp [intOf]; done) | (simp [intOf]; omega)
        · have HL := Lib.hid (show localL (raw.extract q p1).data.toList = false by rw [HX1.out, hl])
          have HE := Lib.hid (show R = .returned (.tuple #[.string ⟨#[]⟩, .int .i64 (-1), .int .i64 (p : Int)]) by
            rw [← HR.out, refEnd_none (refAt_bad HJ.out hdj htj hl (.inl h59)), hp])
          clear hl hdj htj hp hp1 h59 hn
          go_wp2_with (first
            | (go_at_call 28; refine (rlocal_any _ _ hxs1).mono ?_; rintro x w' ⟨rfl, rfl⟩; rw [HL.out]))
          go_ret3
          exact ⟨HE.out.symm, rfl⟩
    · have hpe : p = raw.size := by omega
      have HE := Lib.hid (show R = .returned (.tuple #[.string ⟨#[]⟩, .int .i64 (-1), .int .i64 (p : Int)]) by
        rw [← HR.out, refEnd_none (refAt_end HJ.out (List.drop_eq_nil_of_le (by rw [hTlen.out]; omega))), hp])
      subst hpe
      clear hp
      go_wp2
      go_ret3
      exact ⟨HE.out.symm, rfl⟩

theorem ref_nm : ∀ (l acc nm : List UInt8), (refE acc l).1 = some nm → nm = acc ++ l.take (refE acc l).2
  | [], _, _, h => by cases h
  | c :: t, acc, nm, h => by
    simp only [refE] at h ⊢
    split at h
    · rename_i hl
      rw [if_pos hl]
      have := ref_nm t (acc ++ [c]) nm h
      rw [this]
      simp
    · rename_i hl
      rw [if_neg hl]
      split at h
      · rename_i h2
        rw [if_pos h2]
        simp at h ⊢
        exact h.symm
      · cases h
theorem get_no {L : EnL} {told : Nat} {n : List UInt8} (h : (getE L told n).e ≠ 0) : (getE L told n).s = [] := by
  unfold getE at h ⊢
  split
  · rename_i t ht
    rw [ht] at h
    exact absurd rfl h
  · rename_i ht
    rw [ht] at h
    split
    · rfl
    · rename_i t2 ht2
      rw [ht2] at h
      simp only at h
      split
      · rfl
      · rename_i h40
        rw [if_neg h40] at h
        exact absurd rfl h

set_option maxHeartbeats 4000000 in
theorem rfillE_any (w : World) (base h : Nat) (L : EnL) (told : Nat) (raw : ByteArray) (hr : REAt w base h L told) (hs : raw.size ≤ 100000000) :
    Calls Try.prog 21 #[.pointer (some ⟨h, 0, none⟩), .string raw] w fun x w' => x = .returned (.tuple #[.string ⟨(fillL L raw.data.toList told).s.toArray⟩, .int .i64 (fillL L raw.data.toList told).e, .int .i64 (fillL L raw.data.toList told).n]) ∧ REAt w' base h L (fillL L raw.data.toList told).told ∧ TR base w w' := by
  obtain ⟨R, hR⟩ : ∃ R, fillL L raw.data.toList told = R := ⟨_, rfl⟩
  rw [hR]
  have HR := Lib.hid hR
  have hsz : sizeE L ≤ 200 := by obtain ⟨A, cap, hq⟩ := hr; exact hq.sz
  clear hR
  go_enter Try.func21, Try.ntmps21
  go_wp2
  go_loopw [7, 8] (fun u i wr => ∃ (k f told1 : Nat) (b : ByteArray), k ≤ raw.size ∧ i = .int .i64 k ∧ u = .string b ∧ raw.size ≤ k + f ∧ Hid (fillE L f (raw.data.toList.drop k) k b.data.toList told1 = R) ∧ b.size ≤ 200 * k ∧ REAt wr base h L told1 ∧ TR base w wr) (fun _ i _ => raw.size - (intOf i).toNat)
  case atStart => exact ⟨0, raw.size, told, ⟨#[]⟩, Nat.zero_le _, rfl, rfl, by omega, Lib.hid (by rw [← HR.out]; unfold fillL; simp), by decide, hr, TR.refl _ _⟩
  case round =>
    obtain ⟨k, f, told1, b, hk, rfl, rfl, hkf, HF, hbs, he, hT⟩ := hrel
    by_cases hlt : k < raw.size
    · obtain ⟨f1, rfl⟩ : ∃ f1, f = f1 + 1 := ⟨f - 1, by omega⟩
      have hd := drop_cons raw k hlt
      have hle := byte_le raw[k]
      obtain ⟨q, hq⟩ : ∃ q : Nat, k + 1 = q := ⟨_, rfl⟩
      have eq1 : (k : Int) + 1 = (q : Int) := by omega
      have hqs : q ≤ raw.size := by omega
      rw [hq] at hd
      have HQ := Lib.hid hq
      by_cases h38 : raw[k] = 38
      · have hn38 : (raw[k].toNat : Int) = 38 := by rw [h38]; rfl
        have z1 : ((raw[k].toNat : Int) != 38) = false := by simp [hn38]
        have z2 : ((raw[k].toNat : Int) == 38) = true := by simp [hn38]
        rw [h38] at hd
        obtain ⟨T, hTl⟩ : ∃ T, raw.data.toList.drop q = T := ⟨_, rfl⟩
        have HF0 := Lib.hid (show fillE L (f1 + 1) (38 :: T) k b.data.toList told1 = R by rw [← HF.out, hd, hTl])
        have HT := Lib.hid hTl
        have hTlen : T.length = raw.size - q := by rw [← hTl]; simp
        obtain ⟨X, hX⟩ : ∃ X, refE [] T = X := ⟨_, rfl⟩
        obtain ⟨o, j⟩ := X
        have hj1 : j ≤ T.length := by have := ref_le T []; rw [hX] at this; exact this
        cases o with
        | none =>
          have HRf := Lib.hid (show RefEnd (raw.data.toList.drop q) q = .returned (.tuple #[.string ⟨#[]⟩, .int .i64 (-1), .int .i64 ((q + j : Nat) : Int)]) by rw [hTl]; exact refEnd_none hX)
          have HE := Lib.hid (show (⟨[], 2, q + j, told1⟩ : FR) = R by rw [← HF0.out, fill_bad (by rw [hX]), hX, hq])
          obtain ⟨p, hp⟩ : ∃ p : Nat, q + j = p := ⟨_, rfl⟩
          rw [hp] at HE HRf
          clear hd h38 HF hTl hn38 hq hX hp
          go_wp2_with (first
            | (go_at_call 32; refine (rref_any raw q _ hqs hs).mono ?_; rw [HRf.out]; rintro x w' ⟨rfl, rfl⟩))
          go_ret3
          have hE := HE.out
          subst hE
          exact ⟨rfl, he, hT⟩
        | some nm =>
          have HRf := Lib.hid (show RefEnd (raw.data.toList.drop q) q = .returned (.tuple #[.string ⟨nm.toArray⟩, .int .i64 ((q + j : Nat) : Int), .int .i64 0]) by rw [hTl]; exact refEnd_some hX)
          have hjl : j < T.length := by have := ref_lt T [] nm (by rw [hX]); rw [hX] at this; exact this
          have hnm : nm.length ≤ T.length := by have := ref_nm T [] nm (by rw [hX]); rw [this, hX]; simp <;> omega
          obtain ⟨p, hp⟩ : ∃ p : Nat, q + j = p := ⟨_, rfl⟩
          rw [hp] at HRf
          have hps : p < raw.size := by omega
          obtain ⟨ns, hns⟩ : ∃ ns : ByteArray, ns = ⟨nm.toArray⟩ := ⟨_, rfl⟩
          have hnl : ns.data.toList = nm := by rw [hns]
          have hnsz : ns.size ≤ 140737488355328 := by rw [hns]; show nm.toArray.size ≤ _; simp; omega
          rw [← hns] at HRf
          obtain ⟨G, hG⟩ : ∃ G, getE L told1 nm = G := ⟨_, rfl⟩
          have HG2 := Lib.hid (show getE L told1 ns.data.toList = G by rw [hnl, hG])
          have hGl : G.s.length ≤ 200 := by rw [← hG]; exact get_len hsz
          obtain ⟨p1, hp1⟩ : ∃ p1 : Nat, p + 1 = p1 := ⟨_, rfl⟩
          have ep1 : (p : Int) + 1 = (p1 : Int) := by omega
          obtain ⟨gs, hgs⟩ : ∃ gs : ByteArray, gs = ⟨G.s.toArray⟩ := ⟨_, rfl⟩
          have hgl : gs.data.toList = G.s := by rw [hgs]
          have hgsz : gs.size ≤ 200 := by rw [hgs]; show G.s.toArray.size ≤ 200; simpa using hGl
          by_cases hGe : G.e = 0
          · have HF1 := Lib.hid (show fillE L f1 (raw.data.toList.drop p1) p1 (b ++ gs).data.toList G.told = R by
              have h1 := HF0.out
              rw [fill_ref (nm := nm) (by rw [hX]) (by rw [hG]; exact hGe), hX, hG] at h1
              simp only at h1
              rw [← h1, ← HT.out, List.drop_drop, show q + (j + 1) = p1 by omega, show k + 1 + j + 1 = p1 by omega]
              congr 1
              simp [hgl])
            have HGe := Lib.hid hGe
            have HGs := Lib.hid hgs
            have hbg : b.size + gs.size ≤ 200 * p1 := by omega
            have HBG := Lib.hid (show (b ++ gs).size ≤ 200 * p1 by rw [ByteArray.size_append]; exact hbg)
            have hkp : k < p1 := by omega
            clear hd h38 HF hTl hn38 hq hX hp hp1 hG hGe hgs hgl hnl hns
            go_wp2_with (first
              | (go_at_call 32; refine (rref_any raw q _ hqs hs).mono ?_; rw [HRf.out]; rintro x w' ⟨rfl, rfl⟩)
              | (go_at_call 20; refine (rgetE_any _ base h L told1 ns he hnsz).mono ?_; rw [HG2.out, HGe.out, ← HGs.out]; rintro x w1 ⟨rfl, he1, hT1⟩))
            go_roundw
            case rel => exact ⟨p1, f1, G.told, _, by omega, by go_num, rfl, by omega, HF1, HBG.out, he1, hT.trans hT1⟩
            case measure => first | (simp [intOf]; done) | (simp [intOf]; omega)
          · have HE := Lib.hid (show (⟨[], G.e, p, G.told⟩ : FR) = R by
              have h1 := HF0.out
              rw [fill_no (nm := nm) (by rw [hX]) (by rw [hG]; exact hGe), hX, hG] at h1
              simp only at h1
              rw [← h1]
              congr 1
              omega)
            have HGs := Lib.hid (show G.s = [] by rw [← hG] at hGe ⊢; exact get_no hGe)
            obtain ⟨ge, hge⟩ : ∃ ge, G.e = ge := ⟨_, rfl⟩
            rw [hge] at hGe
            have HGe := Lib.hid hge
            have n1 : (ge == 0) = false := by simpa using hGe
            have n2 : (ge != 0) = true := by simpa using hGe
            clear hd h38 HF hTl hn38 hq hX hp hp1 hG hGe hgs hgl hnl hns hge
            go_wp2_with (first
              | (go_at_call 32; refine (rref_any raw q _ hqs hs).mono ?_; rw [HRf.out]; rintro x w' ⟨rfl, rfl⟩)
              | (go_at_call 20; refine (rgetE_any _ base h L told1 ns he hnsz).mono ?_; rw [HG2.out, HGe.out]; rintro x w1 ⟨rfl, he1, hT1⟩))
            go_ret3
            have hE := HE.out
            have h3 := HGe.out
            subst hE
            subst h3
            exact ⟨rfl, he1, hT.trans hT1⟩
      · have hn : ¬ (raw[k].toNat : Int) = 38 := fun e => h38 (by apply UInt8.toNat_inj.1; rw [show (38 : UInt8).toNat = 38 from rfl]; omega)
        have z1 : ((raw[k].toNat : Int) != 38) = true := by simpa using hn
        have z2 : ((raw[k].toNat : Int) == 38) = false := by simpa using hn
        have HX := Lib.hid (show (b ++ raw.extract k q).data.toList = b.data.toList ++ [raw[k]] by
          rw [ByteArray.data_append, Array.toList_append, ext_list, drop_cons raw k hlt, show q - k = 1 by omega]; simp)
        have HF1 := Lib.hid (show fillE L f1 (raw.data.toList.drop q) q (b ++ raw.extract k q).data.toList told1 = R by rw [← HF.out, HX.out, hd, fill_byte h38, hq])
        have HBG := Lib.hid (show (b ++ raw.extract k q).size ≤ 200 * q by rw [ByteArray.size_append, ByteArray.size_extract]; omega)
        have hkq : k ≤ q := by omega
        have hkq1 : k < q := by omega
        have hxs : (raw.extract k q).size ≤ 1 := by rw [ByteArray.size_extract]; omega
        clear hd h38 HF hn hq
        go_wp2
        go_roundw
        case rel => exact ⟨q, f1, told1, _, by omega, by go_num, rfl, by omega, HF1, HBG.out, he, hT⟩
        case measure => first | (simp [intOf]; done) | (simp [intOf]; omega)
    · have hke : k = raw.size := by omega
      have HE := Lib.hid (show (⟨b.data.toList, 0, k, told1⟩ : FR) = R by rw [← HF.out, hke, List.drop_eq_nil_of_le (by simp), fill_end])
      subst hke
      clear HF
      go_wp2
      go_ret3
      have hE := HE.out
      subst hE
      exact ⟨rfl, he, hT⟩
end Go.Proofs.Ytmbjeagmnjkemaa

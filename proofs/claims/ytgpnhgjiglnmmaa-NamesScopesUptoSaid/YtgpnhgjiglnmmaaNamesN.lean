/-
  The reference's Bind (hexaplaref04).
-/
import Derived.Test.YtgpnhgjiglnmmaaNamesM
import Derived.Deep.RegionLaw
namespace Go.Proofs.Ytgpnhgjiglnmmaa
open Go.RowKit Go.Maps
set_option maxRecDepth 100000

theorem may_iff (p s : List UInt8) : mayP p s = true ↔ (p = [] ∨ localL p = true) ∧ (s = [] ∨ spaceL s = true) ∧ (s = [] → p = []) := by
  unfold mayP
  by_cases h : s = []
  · subst h
    simp
    intro h; exact .inl h
  · simp [h, and_comm]

theorem Try.infoPr : (Try.prog.info? 61).map (fun i => (i.zero, i.size, i.bytes)) = some (some (.agg #[.string ⟨#[]⟩, .string ⟨#[]⟩, .int .i64 0]), 3, 40) := by kernel_rfl

theorem cells3 (w : World) (a b c : Value) (t : TypeId) : ∀ j u, [a, b, c][j]? = some u → (w.alloc (.cells #[a, b, c] t)).cell? ((⟨w.heap.size, 0, none⟩ : Addr).add j) = some u := by
  intro j u hj
  rw [addr_add0]
  exact (Blk.new w t #[a, b, c]).cell j |>.trans (by simpa using hj)
theorem PRow.alloc {w : World} {base : Nat} {v : Value} {l : List Pr} (h : PRow w base v l) (o : Obj) : PRow (w.alloc o) base v l := World.ownsRow.alloc h o
theorem row_shapeN {w : World} {base : Nat} {e : TypeId} {size : Nat} {v : Value} {n : Nat} {xs : List Value} (h : w.ownsRow base e size v n xs) : ∃ A c, v = .slice A n c := by
  rcases h.2 with ⟨rfl, rfl⟩ | ⟨g, cap, cur, rfl, _⟩
  · exact ⟨_, _, rfl⟩
  · exact ⟨_, _, rfl⟩
theorem app_far {w w2 : World} {base h : Nat} {v : Value} {l : List Pr} {cs : Array Value} (hk : Blk w h 35 cs) (hr : PRow w base v l) (hg : w.grownBy w2 v.ownBlock) : Blk w2 h 35 cs :=
  hk.grown hg (by
    intro e
    obtain ⟨cur, hcur⟩ := row_obj hr e.symm
    rw [hk] at hcur
    cases hcur)
theorem rbind_done {w w2 : World} {base h N cap c2 : Nat} {A A2 : Option Addr} {L : List Pr} {m : Sc} {r : St} {p s : ByteArray} (hg : base ≤ h) (hk : Blk w h 35 #[.slice A L.length cap, .int .i64 N])
    (hr : PRow w base (.slice A L.length cap) L) (hL : refL (m :: r) = L) (hN : (m :: r).length = N) (hg2 : w.grownBy w2 (Value.slice A L.length cap).ownBlock)
    (hr2 : w2.ownsRow base 61 3 (.slice A2 (L.length + 1) c2) (L.length + 1) (pcs L ++ [.string p, .string s, .int .i64 N])) :
    RAt (w2.setCell ⟨h, 0, none⟩ (.slice A2 (L.length + 1) c2)) base h (((p.data.toList, s.data.toList) :: m) :: r) ∧ Tch base rObj w (w2.setCell ⟨h, 0, none⟩ (.slice A2 (L.length + 1) c2)) := by
  have hk2 := app_far hk hr hg2
  have hl : refL (((p.data.toList, s.data.toList) :: m) :: r) = L ++ [⟨p.data.toList, s.data.toList, N⟩] := by rw [refL_bind, hL, ← hN]; rfl
  have hll : (L ++ [(⟨p.data.toList, s.data.toList, N⟩ : Pr)]).length = L.length + 1 := by simp
  have hT : Tch base rObj w w2 := Tch.of_row hr hg2 (Nat.le_refl _) (fun _ => .inr rfl)
  refine ⟨⟨A2, c2, hg, ?_, ?_⟩, hT.set hk2 hg (.inl rfl) 0 _⟩
  · rw [hl, hll]
    have := hk2.set_ 0 (.slice A2 (L.length + 1) c2)
    rw [show (((p.data.toList, s.data.toList) :: m) :: r).length = N from hN]
    exact this
  · rw [hl]
    unfold PRow
    rw [hll, pcs_snoc]
    refine World.ownsRow.kept (row := some h) hr2 (only_setCell (p := ⟨h, 0, none⟩) (World.grownBy.refl _ (some h)) (.inl rfl) _) (.inr ?_)
    intro e
    obtain ⟨cur, hcur⟩ := row_obj hr2 e
    rw [hk2] at hcur
    cases hcur

theorem rbind_nil (w : World) (base h : Nat) (p s : ByteArray) (hr : RAt w base h []) (hp : p.size ≤ 140737488355328) (hm : s.size ≤ 1099511627776) :
    Calls Try.prog 36 #[.pointer (some ⟨h, 0, none⟩), .string p, .string s] w fun e w' => e = .returned (.int .i64 1) ∧ RAt w' base h [] ∧ Tch base rObj w w' := by
  have hr' := hr
  obtain ⟨A, cap, hg, hk, ho⟩ := hr
  have hlt := hk.lt
  have hbel := Below.refl w.heap.size w
  have hk' := hk
  obtain ⟨lb, hlb⟩ : ∃ b, localL p.data.toList = b := ⟨_, rfl⟩
  obtain ⟨sb, hsb⟩ : ∃ b, spaceL s.data.toList = b := ⟨_, rfl⟩
  have HF := Lib.hid hlb
  have HS := Lib.hid hsb
  clear hk ho hlb hsb
  go_enter Try.func36, Try.ntmps36
  go_wp2_with (first
    | (go_at_call 12; refine (rlocal_any p _ hp).mono ?_; rintro e w' ⟨rfl, rfl⟩; rw [HF.out])
    | (go_at_call 14; refine (rspace_any s _ hm).mono ?_; rintro e w' ⟨rfl, hb1⟩; rw [HS.out]; replace hbel := hbel.trans (hb1.mono hbel.size); have hk1 := hk'.below hb1 hlt; have hc2 : w'.cell? ⟨h, 1, none⟩ = some (.int .i64 0) := hk1.cell 1))
  go_ret
  exact ⟨rfl, hr'.below hbel, Tch.of_below hbel⟩

set_option maxHeartbeats 4000000 in
theorem rbind_cons (w : World) (base h : Nat) (m : Sc) (r : St) (p s : ByteArray) (hr : RAt w base h (m :: r)) (hp : p.size ≤ 140737488355328) (hm : s.size ≤ 1099511627776) (hn : ((refL (m :: r)).length + 1) * 40 ≤ 140737488355328) :
    Calls Try.prog 36 #[.pointer (some ⟨h, 0, none⟩), .string p, .string s] w fun e w' => e = .returned (.int .i64 (bindE p.data.toList s.data.toList (m :: r))) ∧ RAt w' base h (bindS p.data.toList s.data.toList (m :: r)) ∧ Tch base rObj w w' := by
  have hr' := hr
  obtain ⟨A, cap, hg, hk, ho⟩ := hr
  have hlt := hk.lt
  have hk' := hk
  obtain ⟨lb, hlb⟩ : ∃ b, localL p.data.toList = b := ⟨_, rfl⟩
  obtain ⟨sb, hsb⟩ : ∃ b, spaceL s.data.toList = b := ⟨_, rfl⟩
  have HF := Lib.hid hlb
  have HS := Lib.hid hsb
  have hll : (refL (m :: r)).length ≤ 3518437208882 := by omega
  obtain ⟨L, hL⟩ : ∃ L, refL (m :: r) = L := ⟨_, rfl⟩
  have HL := Lib.hid hL
  rw [hL] at hk hk' ho hll
  obtain ⟨N, hN⟩ : ∃ N : Nat, (m :: r).length = N := ⟨_, rfl⟩
  have HN := Lib.hid hN
  rw [hN] at hk hk'
  have hN1 : 1 ≤ N := by rw [← hN]; simp
  have HO := Lib.hid ho
  clear hk ho hlb hsb hL hN hn
  go_enter Try.func36, Try.ntmps36
  go_wp2_with (first
    | (go_at_call 12; refine (rlocal_any p _ hp).mono ?_; rintro e w' ⟨rfl, rfl⟩; rw [HF.out])
    | (go_at_call 14; refine (rspace_any s _ hm).mono ?_; rintro e w1 ⟨rfl, hb1⟩; rw [HS.out]; have hr1 := hr'.below hb1; have hk1 := hk'.below hb1 hlt; have hc1 : w1.cell? ⟨h, 1, none⟩ = some (.int .i64 N) := hk1.cell 1; have hc0 : w1.cell? ⟨h, 0, none⟩ = some (.slice A L.length cap) := hk1.cell 0))
  all_goals first
    | (go_ret
       have hy : mayP p.data.toList s.data.toList = false := by
         rw [Bool.eq_false_iff]
         intro hc
         have hc2 := (may_iff _ _).1 hc
         rw [HF.out, HS.out, ← Lib.toList_data, ← Lib.toList_data] at hc2
         clear hr' hk' hr1 hk1 hc1 hc0 hb1 hc hlt hg HO HL HN hll hp hm hN1
         simp_all
       have hE : bindE p.data.toList s.data.toList (m :: r) = 1 := by simp only [bindE]; rw [if_pos hy]
       have hS : bindS p.data.toList s.data.toList (m :: r) = m :: r := by simp only [bindS]; rw [hE, if_neg (by decide)]
       rw [hE, hS]
       exact ⟨rfl, hr1, Tch.of_below hb1⟩)
    | (exfalso
       clear hr' hk' hr1 hk1 hc1 hc0 hb1 hlt hg HO HL HN hll hp hm hN1
       simp_all
       done)
    | (have HY := Lib.hid (show mayP p.data.toList s.data.toList = true from by
         rw [may_iff, HF.out, HS.out, ← Lib.toList_data, ← Lib.toList_data]
         clear hr' hk' hr1 hk1 hc1 hc0 hb1 hlt hg HO HL HN hll hp hm hN1
         simp_all)
       skip)
  all_goals
    have hlt1 : h < w1.heap.size := hk1.lt
    go_loopw [9, 10] (fun nn i wr => ∃ k : Nat, k ≤ L.length ∧ i = .int .i64 k ∧ nn = .int .i64 (inner N (L.take k)) ∧ Below w1.heap.size w1 wr ∧ Hid (boundIn N p.data.toList (L.take k) = false)) (fun _ i _ => L.length - (intOf i).toNat)
    case atStart => exact ⟨0, Nat.zero_le _, rfl, rfl, Below.refl _ _, Lib.hid rfl⟩
    case round =>
      obtain ⟨k, hkl, rfl, rfl, hbw, HB⟩ := hrel
      have hkr := hk1.below hbw hlt1
      have e0 : _ = some (Value.slice A L.length cap) := hkr.cell 0
      have e1 : _ = some (Value.int .i64 N) := hkr.cell 1
      have hbel : Below w.heap.size w wr := hb1.trans (hbw.mono hb1.size)
      have hrow := PRow.below HO.out hbel
      have hikk := inner_le N (L.take k)
      have hlk' : (L.take k).length ≤ k := List.length_take_le _ _
      by_cases hlk : k < L.length
      · obtain ⟨rb, rfl, _, hrl, hcap, hcm, d0, _, d2⟩ := hrow.cell hlk
        have hcm2 : cap ≤ 9223372036854775807 := by simpa [maxLen] using hcm
        have hin := inner_snoc N (L.take k) L[k]
        have hbo := bound_snoc N p.data.toList (L.take k) L[k]
        have htk : L.take (k + 1) = L.take k ++ [L[k]] := List.take_succ_eq_append_getElem hlk
        rw [← htk] at hin hbo
        rw [HB.out, Bool.false_or] at hbo
        have hrr := hr1.below hbw
        clear hrow hcm htk
        by_cases hnn : (L[k]).n = N
        · rw [if_pos hnn] at hin
          rw [hnn] at d2
          by_cases hpp : (L[k]).p = p.data.toList
          · have hbt : boundIn N p.data.toList L = true := by
              unfold boundIn
              rw [List.any_eq_true]
              exact ⟨L[k], List.getElem_mem hlk, by rw [hnn, hpp]; simp⟩
            have hls : (lookP p.data.toList m).isSome = true := by
              rw [← bound_refL p.data.toList m r, HL.out, show r.length + 1 = N from HN.out]
              exact hbt
            have hE : bindE p.data.toList s.data.toList (m :: r) = 6 := by simp only [bindE]; rw [HY.out, if_neg (by decide), if_pos hls]
            have hS : bindS p.data.toList s.data.toList (m :: r) = m :: r := by simp only [bindS]; rw [hE, if_neg (by decide)]
            have HE := Lib.hid hE
            have HSt := Lib.hid hS
            rw [hpp, str_of] at d0
            clear hE hS hls hbt hpp hnn hin hbo
            go_wp2_with fail
            go_quiet (fail)
            go_wp2
            go_ret
            rw [HE.out, HSt.out]
            exact ⟨rfl, hrr.below (below_drewN (Below.refl _ _) _), Tch.of_below (below_drewN hbel _)⟩
          · have hne : (((⟨(L[k]).p.toArray⟩ : ByteArray).toList) == p.toList) = false := by
              rw [Lib.toList_data, Lib.toList_data]
              simpa using hpp
            rw [show decide ((L[k]).p = p.data.toList) = false by simpa using hpp, Bool.and_false] at hbo
            have HIN := Lib.hid hin
            have HBO := Lib.hid hbo
            generalize (⟨(L[k]).p.toArray⟩ : ByteArray) = xp at *
            have hne2 : ¬ xp.toList = p.toList := by simpa using hne
            have hne3 : p.toList = [] → xp.toList.isEmpty = false := fun h => by rw [h] at hne2; simpa using hne2
            clear hpp hnn hin hbo
            go_wp2_with fail
            go_quiet (fail)
            go_wp2
            go_roundw
            case rel => exact ⟨k + 1, hlk, by go_num, by rw [HIN.out]; go_num, below_drewN hbw _, HBO⟩
            case measure => first | (simp [intOf]; done) | (simp [intOf]; omega)
        · rw [if_neg hnn, Nat.add_zero] at hin
          rw [show decide ((L[k]).n = N) = false by simpa using hnn, Bool.false_and] at hbo
          have HIN := Lib.hid (show inner N (L.take (k + 1)) = inner N (L.take k) from hin)
          have HBO := Lib.hid hbo
          have hnf : (((L[k]).n : Int) == (N : Int)) = false := by rw [beq_eq_false_iff_ne]; omega
          generalize (L[k]).n = xn at *
          clear hin hbo
          go_wp2_with fail
          go_quiet (fail)
          go_wp2
          go_roundw
          case rel => exact ⟨k + 1, hlk, by go_num, by rw [HIN.out], below_drewN hbw _, HBO⟩
          case measure => first | (simp [intOf]; done) | (simp [intOf]; omega)
      · have hke : k = L.length := by omega
        have htk : L.take k = L := by rw [hke]; exact List.take_of_length_le (Nat.le_refl _)
        rw [htk] at HB hikk
        rw [htk]
        have hil : inner N L = m.length := by rw [← HL.out, ← show r.length + 1 = N from HN.out, inner_refL]
        rw [hil]
        have hbl := bound_refL p.data.toList m r
        rw [HL.out, show r.length + 1 = N from HN.out, HB.out] at hbl
        have hlo : (lookP p.data.toList m).isSome = false := hbl.symm
        have hrr := hr1.below hbw
        by_cases h10 : 10 ≤ m.length
        · have hE : bindE p.data.toList s.data.toList (m :: r) = 7 := by simp only [bindE]; rw [HY.out, if_neg (by decide), hlo, if_neg (by decide), if_pos h10]
          have hS : bindS p.data.toList s.data.toList (m :: r) = m :: r := by simp only [bindS]; rw [hE, if_neg (by decide)]
          have HE := Lib.hid hE
          have HSt := Lib.hid hS
          clear hE hS hlo hbl hil htk hke
          go_wp2
          go_ret
          rw [HE.out, HSt.out]
          exact ⟨rfl, hrr, Tch.of_below hbel⟩
        · have hE : bindE p.data.toList s.data.toList (m :: r) = 0 := by simp only [bindE]; rw [HY.out, if_neg (by decide), hlo, if_neg (by decide), if_neg h10]
          have hS : bindS p.data.toList s.data.toList (m :: r) = ((p.data.toList, s.data.toList) :: m) :: r := by simp only [bindS]; rw [hE, if_pos rfl]
          have HE := Lib.hid hE
          have HSt := Lib.hid hS
          clear hE hS hlo hbl hil htk hke
          have hbs : base ≤ wr.heap.size := by have := hkr.lt; omega
          have hc63 : L.length + 1 ≤ maxLen := by simp only [maxLen]; omega
          have hc40 : (L.length + 1) * 40 ≤ 140737488355328 := by omega
          have hfz := hkr.frozen 0
          have hltr := hkr.lt
          go_wp2_with fail
          go_region_law ((refine step_appG (by rfl) (.tmp 84) (.tmp 92) 33 (by rfl) base 61 _ 3 40 Try.underlying33 Try.infoPr (by rfl) (by decide) (.slice A L.length cap) L.length (pcs L) [.string p, .string s, .int .i64 N] (by rfl) (by exact PRow.alloc hrow _) (by simp [Value.oneCell']) ⟨wr.heap.size, 0, none⟩ 1 1 (by rfl) (by rfl) (by exact cells3 wr _ _ _ _) hc63 hc40 (by simp; omega) ?_; intro v2 w2 hown2 hg2; have hg3 : wr.grownBy w2 (Value.slice A L.length cap).ownBlock := ⟨hg2.os, hg2.tape, hg2.output, Nat.le_trans (by simp) hg2.size, fun k hk hne => (hg2.block k (Nat.lt_of_lt_of_le hk (by simp)) hne).trans (Below.heap_alloc wr _ k hk)⟩; have hk2 := app_far hkr hrow hg3; obtain ⟨A2, c2, rfl⟩ := row_shapeN hown2; have ec0 : w2.cell? ⟨h, 0, none⟩ = some (.slice A L.length cap) := hk2.cell 0; have ef0 := hk2.frozen 0; have el0 := hk2.lt))
          all_goals
            go_wp2
            go_ret
            rw [HE.out, HSt.out]
            obtain ⟨r1, r2⟩ := rbind_done hg hkr hrow HL.out HN.out hg3 hown2
            exact ⟨rfl, r1, (Tch.of_below hbel).trans r2⟩

theorem rbind_any (w : World) (base h : Nat) (st : St) (p s : ByteArray) (hr : RAt w base h st) (hp : p.size ≤ 140737488355328) (hm : s.size ≤ 1099511627776) (hn : ((refL st).length + 1) * 40 ≤ 140737488355328) :
    Calls Try.prog 36 #[.pointer (some ⟨h, 0, none⟩), .string p, .string s] w fun e w' => e = .returned (.int .i64 (bindE p.data.toList s.data.toList st)) ∧ RAt w' base h (bindS p.data.toList s.data.toList st) ∧ Tch base rObj w w' := by
  cases st with
  | nil => exact rbind_nil w base h p s hr hp hm
  | cons m r => exact rbind_cons w base h m r p s hr hp hm hn
end Go.Proofs.Ytgpnhgjiglnmmaa

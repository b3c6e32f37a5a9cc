/-
  The reference's Anchors as they lie (hexaplaref10): the block, the row of what is kept, each with its slice; Size.
  names: Join of the program.
  The reference's Valid (hexaplaref01): whether a text has characters.
  The reference's Local and Space (hexaplaref04): the same answers.
-/
import Derived.Test.YtkghdieakpipkaaGreatDoorAnV15
import Derived.BigQuiet
import Derived.Test.YtkghdieakpipkaaGreatDoorAnV07
import Derived.Test.YtkghdieakpipkaaGreatDoorAnV06
namespace Go.Proofs.YtkghdieakpipkaaGreatDoor
open Go.RowKit Go.Maps
set_option maxRecDepth 100000
set_option linter.unusedSimpArgs false
set_option linter.unusedVariables false

structure Kp where
  nm : List UInt8
  evs : List Ev
  lv : Value
instance : Inhabited Kp := ⟨⟨[], [], .int .i64 0⟩⟩
def Kp.ent (k : Kp) : AEnt := (k.nm, k.evs)
def kpc (k : Kp) : List Value := [strV k.nm, k.lv]
def kpcs (K : List Kp) : List Value := K.flatMap kpc
theorem kpcs_len (K : List Kp) : (kpcs K).length = K.length * 2 := by
  induction K with
  | nil => rfl
  | cons x l ih => simp only [kpcs, List.flatMap_cons, List.length_append, List.length_cons] at ih ⊢; rw [ih]; simp [kpc]; omega
theorem kpcs_get : ∀ (K : List Kp) (k : Nat) (h : k < K.length) (j : Nat) (_ : j < 2), (kpcs K)[k * 2 + j]? = (kpc K[k])[j]?
  | x :: l, 0, _, j, hj => by
    simp only [kpcs, List.flatMap_cons]
    rw [List.getElem?_append_left (by simp [kpc]; omega)]
    simp
  | x :: l, k + 1, h, j, hj => by
    have ih := kpcs_get l k (by simpa using h) j hj
    simp only [kpcs, List.flatMap_cons] at ih ⊢
    rw [List.getElem?_append_right (by simp [kpc]; omega), show (k + 1) * 2 + j - (kpc x).length = k * 2 + j by simp [kpc]; omega, ih]
    simp
theorem kpcs_snoc (K : List Kp) (x : Kp) : kpcs (K ++ [x]) = kpcs K ++ [strV x.nm, x.lv] := by simp [kpcs, kpc]
theorem Tryz.infoKp : (Tryz.prog.info? 48).map (fun i => (i.zero, i.size, i.bytes)) = some (some (.agg #[.string ⟨#[]⟩, .slice none 0 0]), 2, 40) := by kernel_rfl
def RRow (w : World) (base : Nat) (v : Value) (K : List Kp) : Prop := w.ownsRow base 48 2 v K.length (kpcs K)
theorem RRow.form {w : World} {base : Nat} {v : Value} {K : List Kp} (h : RRow w base v K) :
    ∃ A c, v = .slice A K.length c ∧ K.length ≤ c ∧ c ≤ maxLen ∧ (0 < K.length → ∃ b o : Nat, A = some ⟨b, o, none⟩ ∧ ∀ j (h : j < K.length), w.cell? ⟨b, o + j * 2, none⟩ = some (strV K[j].nm) ∧ w.cell? ⟨b, o + j * 2 + 1, none⟩ = some K[j].lv) := by
  have hr := h
  unfold RRow at hr
  rcases hr.2 with ⟨rfl, h0⟩ | ⟨r, c, cur, rfl, hg, hh, hnc, hm, hs, ht⟩
  · exact ⟨none, 0, by rw [h0], by omega, Nat.zero_le _, fun hp => by omega⟩
  · refine ⟨some ⟨r, 0, none⟩, c, rfl, hnc, hm, fun _ => ⟨r, 0, rfl, fun j hj => ?_⟩⟩
    have hat : ∀ i, i < 2 → w.cell? ⟨r, j * 2 + i, none⟩ = (kpc K[j])[i]? := by
      intro i hi
      rw [Blk.cell hh, ← kpcs_get K j hj i hi, ← ht, List.getElem?_take_of_lt (by omega), Array.getElem?_toList]
    rw [Nat.zero_add]
    have h0 := hat 0 (by omega)
    have h1 := hat 1 (by omega)
    exact ⟨h0, h1⟩
structure RRep (w : World) (r : Nat) (kv : Value) (K : List Kp) (told : Nat) : Prop where
  blk : Blk w r 28 #[kv, .int .i64 (told : Int)]
  row : RRow w 0 kv K
  evs : ∀ k ∈ K, ERow w 0 k.lv k.evs
theorem RRep.drewN {w : World} {r : Nat} {kv : Value} {K : List Kp} {t : Nat} (h : RRep w r kv K t) (n : Nat) : RRep (w.drewN n) r kv K t := ⟨h.blk.drewN n, h.row, h.evs⟩

theorem szOf (l : List UInt8) : (⟨l.toArray⟩ : ByteArray).size = l.length := by show l.toArray.size = _; simp
theorem sizeA_take {m : List AEnt} {i : Nat} (h : i < m.length) : sizeA (m.take (i + 1)) = sizeA (m.take i) + entSz m[i] := by
  rw [List.take_succ_eq_append_getElem h, sizeA_append, sizeA_cons]
  simp [sizeA]
theorem evsSz_take {l : List Ev} {i : Nat} (h : i < l.length) : evsSz (l.take (i + 1)) = evsSz (l.take i) + evSz l[i] := by
  rw [List.take_succ_eq_append_getElem h, evsSz_append]
  simp [evsSz]
theorem sizeA_take_le (m : List AEnt) (i : Nat) : sizeA (m.take i) ≤ sizeA m := by
  conv => rhs; rw [← List.take_append_drop i m, sizeA_append]
  omega
theorem evsSz_take_le (l : List Ev) (i : Nat) : evsSz (l.take i) ≤ evsSz l := by
  conv => rhs; rw [← List.take_append_drop i l, evsSz_append]
  omega

set_option maxHeartbeats 4000000 in
theorem rsize_any (w : World) (r : Nat) (kv : Value) (K : List Kp) (told : Nat) (h : RRep w r kv K told) (hs : sizeA (K.map Kp.ent) ≤ 4611686018427387904) :
    Calls Tryz.prog 10 #[.pointer (some ⟨r, 0, none⟩)] w fun e w' => e = .returned (.int .i64 (sizeA (K.map Kp.ent) : Int)) ∧ ∃ n, w' = w.drewN n := by
  obtain ⟨A, c, rfl, hlc, hcm, hr⟩ := h.row.form
  have hcm2 : c ≤ 9223372036854775807 := by simpa [maxLen] using hcm
  have c0 : w.cell? ⟨r, 0, none⟩ = some (.slice A K.length c) := h.blk.cell 0
  have HE := Lib.hid h.evs
  clear h hcm
  go_enter Tryz.func10, Tryz.ntmps10
  go_wp2
  go_loopw [3, 4] (fun u3 u4 wr => ∃ i n : Nat, i ≤ K.length ∧ u4 = .int .i64 (i : Int) ∧ u3 = .int .i64 (sizeA ((K.map Kp.ent).take i) : Int) ∧ wr = w.drewN n) (fun _ u4 _ => K.length - (intOf u4).toNat)
  case atStart => exact ⟨0, 0, Nat.zero_le _, rfl, rfl, rfl⟩
  case round =>
    obtain ⟨i, n, hi, rfl, rfl, rfl⟩ := hrel
    have d0 : (w.drewN n).cell? ⟨r, 0, none⟩ = some (.slice A K.length c) := c0
    by_cases hlt : i < K.length
    case neg =>
      have hie : i = K.length := by omega
      subst hie
      have e1 : (K.map Kp.ent).take K.length = K.map Kp.ent := List.take_of_length_le (by simp)
      rw [e1]
      clear hr hlt hi e1
      go_wp2
      go_ret
      exact ⟨rfl, n, rfl⟩
    case pos =>
      obtain ⟨b, o, rfl, hc⟩ := hr (by omega)
      obtain ⟨g0, g1⟩ := hc i hlt
      have k0 : (w.drewN n).cell? ⟨b, o + i * 2, none⟩ = some (strV K[i].nm) := g0
      have k1 : (w.drewN n).cell? ⟨b, o + i * 2 + 1, none⟩ = some K[i].lv := g1
      have hrow := HE.out K[i] (List.getElem_mem hlt)
      have hrd := hrow.read
      have hlm : i < (K.map Kp.ent).length := by simpa using hlt
      have hz := sizeA_take hlm
      have hzle := sizeA_take_le (K.map Kp.ent) (i + 1)
      have hee : (K.map Kp.ent)[i] = K[i].ent := by simp
      rw [hee] at hz
      obtain ⟨A2, c2, hlv, hlc2, hcm3, hr2⟩ := hrd
      rw [hlv] at k1
      have hcm4 : c2 ≤ 9223372036854775807 := by simpa [maxLen] using hcm3
      have hes : entSz K[i].ent = K[i].nm.length + evsSz K[i].evs := rfl
      have hsb := szOf K[i].nm
      unfold strV at k0
      have g0' := k0
      have g1' := k1
      change w.cell? _ = _ at g0' g1'
      clear hrow g0 g1 hc hlv hcm3 hee hlm
      generalize K[i].lv = lv at *
      generalize K[i].evs = es at *
      generalize (⟨K[i].nm.toArray⟩ : ByteArray) = sb at *
      generalize K[i].nm.length = nl at *
      generalize entSz K[i].ent = ez at *
      obtain ⟨z0, hz0⟩ : ∃ z0, sizeA ((K.map Kp.ent).take i) = z0 := ⟨_, rfl⟩
      obtain ⟨z1, hz1⟩ : ∃ z1, sizeA ((K.map Kp.ent).take (i + 1)) = z1 := ⟨_, rfl⟩
      rw [hz0, hz1] at hz
      rw [hz1] at hzle
      rw [hz0]
      have hbig : z0 + nl + evsSz es ≤ 4611686018427387904 := by omega
      have HZ := Lib.hid (And.intro hz1 hz)
      clear hz1 hz hz0 hzle hr
      have hlti : (i : Int) < K.length := by omega
      have hn1 : IntKind.i64.wrap ((z0 : Int) + (nl : Int)) = ((z0 + nl : Nat) : Int) := by rw [IntWalk.i64_in _ (by omega)]; omega
      have hsbi : (sb.size : Int) = nl := by omega
      go_wp2
      go_loopw [3, 5] (fun u3 u5 wr => ∃ k n2 : Nat, k ≤ es.length ∧ u5 = .int .i64 (k : Int) ∧ u3 = .int .i64 ((z0 + nl + evsSz (es.take k) : Nat) : Int) ∧ wr = w.drewN n2) (fun _ u5 _ => es.length - (intOf u5).toNat)
      case atStart => exact ⟨0, n, Nat.zero_le _, rfl, by go_num, rfl⟩
      case round =>
        obtain ⟨k, n2, hk, rfl, rfl, rfl⟩ := hrel
        have d0 : (w.drewN n2).cell? ⟨r, 0, none⟩ = some (.slice (some ⟨b, o, none⟩) K.length c) := c0
        have m0 : (w.drewN n2).cell? ⟨b, o + i * 2, none⟩ = some (.string sb) := k0
        have m1 : (w.drewN n2).cell? ⟨b, o + i * 2 + 1, none⟩ = some (.slice A2 es.length c2) := k1
        by_cases hk2 : k < es.length
        case neg =>
          have hke : k = es.length := by omega
          subst hke
          rw [List.take_of_length_le (Nat.le_refl _)] at *
          have HF : Hid (sizeA ((K.map Kp.ent).take (i + 1)) = z0 + nl + evsSz es) := Lib.hid (by rw [HZ.out.1, HZ.out.2, hes]; omega)
          clear hr2 hn1 hes
          go_wp2
          go_roundw
          case rel => exact ⟨i + 1, n2, hlt, by go_num, by rw [HF.out], rfl⟩
          case measure => first | (simp [intOf]; done) | (simp [intOf]; omega)
        case pos =>
          obtain ⟨b2, o2, rfl, hc2⟩ := hr2 (by omega)
          obtain ⟨_, t1, t2⟩ := hc2 k hk2
          have y1 : (w.drewN n2).cell? ⟨b2, o2 + k * 3 + 1, none⟩ = some (.string es[k].t) := t1
          have y2 : (w.drewN n2).cell? ⟨b2, o2 + k * 3 + 2, none⟩ = some (.string es[k].v) := t2
          have q1 := evsSz_take hk2
          have q2 := evsSz_take_le es (k + 1)
          have q3 : evSz es[k] = es[k].t.size + es[k].v.size + 1 := rfl
          have hk2i : (k : Int) < es.length := by omega
          clear hc2 hr2 hn1 g0' k0 d0 m0 y1 y2 m1 k1
          generalize es[k] = x at *
          rw [q3] at q1
          generalize evSz x = ex at *
          obtain ⟨a0, ha0⟩ : ∃ a0, evsSz (es.take k) = a0 := ⟨_, rfl⟩
          obtain ⟨a1, ha1⟩ : ∃ a1, evsSz (es.take (k + 1)) = a1 := ⟨_, rfl⟩
          rw [ha0, ha1] at q1
          rw [ha1] at q2
          rw [ha0]
          obtain ⟨tx, htx⟩ : ∃ tx, x.t.size = tx := ⟨_, rfl⟩
          obtain ⟨vx, hvx⟩ : ∃ vx, x.v.size = vx := ⟨_, rfl⟩
          have HA : Hid (evsSz (es.take (k + 1)) = a0 + (tx + vx + 1)) := Lib.hid (by rw [ha1, q1, htx, hvx])
          have HW : Hid (wrap64 (wrap64 (wrap64 (((z0 + nl + a0 : Nat) : Int) + (x.t.size : Int)) + (x.v.size : Int)) + 1) = ((z0 + nl + (a0 + (tx + vx + 1)) : Nat) : Int)) := Lib.hid (by
            rw [IntWalk.wrap64_in (((z0 + nl + a0 : Nat) : Int) + (x.t.size : Int)) (by omega), IntWalk.wrap64_in (((z0 + nl + a0 : Nat) : Int) + (x.t.size : Int) + (x.v.size : Int)) (by omega), IntWalk.wrap64_in _ (by omega)]
            omega)
          clear ha0 ha1 htx hvx q1 q2 q3
          go_wp2
          go_quiet (fail)
          go_wp2
          go_roundw
          case rel => exact ⟨k + 1, _, hk2, by go_num, by rw [HA.out, ← HW.out]; go_num, rfl⟩
          case measure => first | (simp [intOf]; done) | (simp [intOf]; omega)
end Go.Proofs.YtkghdieakpipkaaGreatDoor
namespace Go.Proofs.YtkghdieakpipkaaGreatDoor
open Go.RowKit Go.Maps
set_option maxRecDepth 100000

def JoinEnd (s l : List UInt8) : Ending :=
  match joinL s l with
  | none => .returned (.tuple #[.string ⟨#[]⟩, .bool false])
  | some f => .returned (.tuple #[.string ⟨f.toArray⟩, .bool true])
theorem joinEnd_none {s l : List UInt8} (h : joinL s l = none) : JoinEnd s l = .returned (.tuple #[.string ⟨#[]⟩, .bool false]) := by unfold JoinEnd; rw [h]
theorem joinEnd_some {s l f : List UInt8} (h : joinL s l = some f) : JoinEnd s l = .returned (.tuple #[.string ⟨f.toArray⟩, .bool true]) := by unfold JoinEnd; rw [h]
theorem joined_str (s l : ByteArray) : (⟨#[123]⟩ ++ s ++ ⟨#[125]⟩ ++ l : ByteArray) = ⟨(123 :: (s.data.toList ++ 125 :: l.data.toList)).toArray⟩ := by
  apply ByteArray.ext
  apply Array.toList_inj.1
  simp
theorem joined_size (s l : ByteArray) : (⟨#[123]⟩ ++ s ++ ⟨#[125]⟩ ++ l : ByteArray).size = s.size + l.size + 2 := by
  simp only [ByteArray.size_append]
  show 1 + s.size + 1 + l.size = _
  omega

end Go.Proofs.YtkghdieakpipkaaGreatDoor
namespace Go.Proofs.YtkghdieakpipkaaGreatDoor
open Go.RowKit
set_option maxRecDepth 100000

theorem valid_any (s : ByteArray) (w : World) (hm : s.size ≤ 1099511627776) :
    Calls Tryz.prog 82 #[.string s] w fun e w' => e = .returned (.bool (runesL s.data.toList).isSome) ∧ Below w.heap.size w w' := by
  go_enter Tryz.func82, Tryz.ntmps82
  go_wp2_with (first
    | (go_at_call 94; refine (rrunes_any s _ hm).mono ?_; rintro e w1 ⟨v, rfl, _, hb1⟩))
  go_ret
  exact ⟨rfl, hb1⟩

end Go.Proofs.YtkghdieakpipkaaGreatDoor
namespace Go.Proofs.YtkghdieakpipkaaGreatDoor
open Go.RowKit Go.Maps
set_option maxRecDepth 100000

/-- All bytes up to k may stand in a local name, the first at its head. -/
def locAt (l : List UInt8) (k : Nat) : Prop := (l.take k).all (fun d => laterB (d.toNat : Int)) = true ∧ (0 < k → ∀ c t, l = c :: t → firstB (c.toNat : Int) = true)
theorem loc_head {s : ByteArray} (h : 0 < s.size) {k : Nat} (hk : 0 < k) (hl : locAt s.data.toList k) : firstB (s[0].toNat : Int) = true := hl.2 hk _ _ (bytes_cons s h)
theorem loc_end {s : ByteArray} (h0 : 0 < s.size) (h16 : s.size ≤ 16) (hl : locAt s.data.toList s.size) : localL s.data.toList = true := by
  have h1 := hl.1
  rw [List.take_of_length_le (by simp)] at h1
  rw [local_eq s h0 h16, loc_head h0 h0 hl, h1]
  rfl
theorem loc_step {s : ByteArray} {k : Nat} (h0 : 0 < s.size) (hlt : k < s.size) (hl : locAt s.data.toList k) (hb : laterB (s[k].toNat : Int) = true) (hz : k = 0 → firstB (s[0].toNat : Int) = true) : locAt s.data.toList (k + 1) := by
  refine ⟨(all_snoc hlt hl.1).trans hb, fun _ c t hct => ?_⟩
  have e := bytes_cons s h0
  rw [hct] at e
  injection e with e1 _
  rw [e1]
  by_cases hk : k = 0
  · exact hz hk
  · exact loc_head h0 (by omega) hl
theorem loc_bad {s : ByteArray} {k : Nat} (h0 : 0 < s.size) (h16 : s.size ≤ 16) (hlt : k < s.size) (hb : laterB (s[k].toNat : Int) = false) : localL s.data.toList = false := by
  rw [local_eq s h0 h16, all_break (p := fun d => laterB (d.toNat : Int)) hlt hb, Bool.and_false]
theorem loc_bad0 {s : ByteArray} (h0 : 0 < s.size) (h16 : s.size ≤ 16) (hb : firstB (s[0].toNat : Int) = false) : localL s.data.toList = false := by
  rw [local_eq s h0 h16, hb, Bool.false_and]

set_option maxHeartbeats 2000000 in
theorem rlocal_any (s : ByteArray) (w : World) (hm : s.size ≤ 140737488355328) :
    Calls Tryz.prog 33 #[.string s] w fun e w' => e = .returned (.bool (localL s.data.toList)) ∧ w = w' := by
  by_cases h0 : s.size = 0
  · rw [local_long s (.inl h0)]
    have hs : s = ⟨#[]⟩ := ByteArray.ext (Array.eq_empty_of_size_eq_zero h0)
    subst hs
    go_enter Tryz.func33, Tryz.ntmps33
    go_wp2
    go_ret
    exact ⟨rfl, rfl⟩
  by_cases h16 : 16 < s.size
  · rw [local_long s (.inr h16)]
    go_enter Tryz.func33, Tryz.ntmps33
    go_wp2
    go_ret
    exact ⟨rfl, rfl⟩
  have hp : 0 < s.size := by omega
  have h16' : s.size ≤ 16 := by omega
  go_enter Tryz.func33, Tryz.ntmps33
  go_wp2
  go_loop [3] (fun i => ∃ k : Nat, k ≤ s.size ∧ i = .int .i64 k ∧ Hid (locAt s.data.toList k)) (fun i => s.size - (intOf i).toNat)
  case atStart => exact ⟨0, Nat.zero_le _, rfl, Lib.hid ⟨rfl, fun h => absurd h (by decide)⟩⟩
  case round =>
    obtain ⟨k, hk, rfl, HK⟩ := hrel
    by_cases hlt : k < s.size
    · have HB := fun h => Lib.hid (loc_bad hp h16' hlt h)
      have HB0 := fun h => Lib.hid (loc_bad0 hp h16' h)
      have HS := fun h1 h2 => Lib.hid (loc_step hp hlt HK.out h1 h2)
      clear HK
      go_wp2
      all_goals clear hm h0 h16 h16' hk
      all_goals first
        | (go_ret; refine ⟨ret_bool (Eq.symm ?_), rfl⟩)
        | (go_round
           case rel =>
             refine ⟨k + 1, by omega, by go_num, HS ?_ ?_⟩
             · clear HB HB0 HS
               simp only [laterB]
               rw [decide_eq_true_iff]
               simp at *
               try omega
             · rintro rfl
               clear HB HB0 HS
               simp only [firstB]
               rw [decide_eq_true_iff]
               simp at *
               try omega
           case measure => simp [intOf]; omega)
      all_goals
        rcases Bool.eq_false_or_eq_true (laterB (s[k].toNat : Int)) with hL | hL
        · have hk0 : k = 0 := by
            rcases Nat.eq_zero_or_pos k with h | h
            · exact h
            · exfalso
              clear HB HB0 HS
              unfold laterB at hL
              simp [h] at *
              try omega
          subst hk0
          refine (HB0 ?_).out
          clear HB HB0 HS hL
          simp only [firstB]
          rw [decide_eq_false_iff_not]
          simp at *
          try omega
        · exact (HB hL).out
    · have hkn : k = s.size := by omega
      subst hkn
      have HE := Lib.hid (loc_end hp h16' HK.out)
      go_wp2
      go_ret
      rw [HE.out]
      exact ⟨rfl, rfl⟩

theorem badB_false {b : Int} (h : 33 ≤ b) (h1 : b ≠ 123) (h2 : b ≠ 125) (h3 : b ≠ 34) (h4 : b ≠ 60) (h5 : b ≠ 62) (h6 : b ≠ 38) (h7 : b ≠ 92) : badB b = false := by
  unfold badB
  rw [decide_eq_false_iff_not]
  omega

set_option maxHeartbeats 1000000 in
theorem rspace_any (s : ByteArray) (w : World) (hm : s.size ≤ 1099511627776) :
    Calls Tryz.prog 95 #[.string s] w fun e w' => e = .returned (.bool (spaceL s.data.toList)) ∧ Below w.heap.size w w' := by
  have hl : s.data.toList.length = s.size := by simp
  rcases Bool.eq_false_or_eq_true (runesL s.data.toList).isSome with hv | hv
  case inr =>
    rw [show spaceL s.data.toList = false by unfold spaceL; rw [hv]; rfl]
    have HV := Lib.hid hv
    clear hv hl
    go_enter Tryz.func95, Tryz.ntmps95
    go_wp2_with (first
      | (go_at_call 82; refine (valid_any s _ hm).mono ?_; rintro e w1 ⟨rfl, hb1⟩; rw [HV.out]))
    go_ret
    exact ⟨rfl, hb1⟩
  case inl =>
    have HV := Lib.hid hv
    by_cases h0 : s.size = 0 ∨ 48 < s.size
    · rw [space_long s h0]
      clear hv hl
      rcases h0 with h0 | h0
      · have hs : s = ⟨#[]⟩ := ByteArray.ext (Array.eq_empty_of_size_eq_zero h0)
        subst hs
        clear h0
        go_enter Tryz.func95, Tryz.ntmps95
        go_wp2_with (first
          | (go_at_call 82; refine (valid_any _ _ hm).mono ?_; rintro e w1 ⟨rfl, hb1⟩; rw [HV.out]))
        go_ret
        exact ⟨rfl, hb1⟩
      · go_enter Tryz.func95, Tryz.ntmps95
        go_wp2_with (first
          | (go_at_call 82; refine (valid_any s _ hm).mono ?_; rintro e w1 ⟨rfl, hb1⟩; rw [HV.out]))
        go_ret
        exact ⟨rfl, hb1⟩
    have h1 : 1 ≤ s.size := by omega
    have h48 : s.size ≤ 48 := by omega
    have hR := space_eq s (by omega) (by omega)
    rw [hv, Bool.true_and] at hR
    generalize hgl : spaceL s.data.toList = R at *
    have HR := Lib.hid hR
    clear hR hgl h0 hv hl
    go_enter Tryz.func95, Tryz.ntmps95
    go_wp2_with (first
      | (go_at_call 82; refine (valid_any s _ hm).mono ?_; rintro e w1 ⟨rfl, hb1⟩; rw [HV.out]))
    go_loop [4] (fun i => ∃ k : Nat, k ≤ s.size ∧ i = .int .i64 k ∧ Hid ((s.data.toList.take k).all (fun d => !badB (d.toNat : Int)) = true)) (fun i => s.size - (intOf i).toNat)
    case atStart => exact ⟨0, Nat.zero_le _, rfl, Lib.hid rfl⟩
    case round =>
      obtain ⟨k, hk, rfl, HK⟩ := hrel
      by_cases hlt : k < s.size
      · have HX := fun hb => Lib.hid (all_break (p := fun d => !badB (d.toNat : Int)) hlt hb)
        have HY := Lib.hid (all_snoc (p := fun d => !badB (d.toNat : Int)) hlt HK.out)
        clear HK
        go_wp2
        all_goals first
          | (go_ret
             refine ⟨ret_bool ?_, hb1⟩
             rw [HR.out, (HX ?_).out]
             clear HX HY HR HV
             simp [badB] at *
             try omega)
          | (go_round
             case rel =>
               refine ⟨k + 1, by omega, by go_num, Lib.hid (HY.out.trans ?_)⟩
               clear HX HY HR HV
               rw [badB_false]
               all_goals (simp at *; try omega)
             case measure => simp [intOf]; omega)
      · go_wp2
        go_ret
        refine ⟨ret_bool ?_, hb1⟩
        have hK := HK.out
        rw [List.take_of_length_le (by simp; omega)] at hK
        rw [HR.out, hK]
end Go.Proofs.YtkghdieakpipkaaGreatDoor

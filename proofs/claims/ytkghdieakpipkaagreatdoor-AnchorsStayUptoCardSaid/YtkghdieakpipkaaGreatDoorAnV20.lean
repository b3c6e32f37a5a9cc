/-
  The parts of a text, told by places in it.
  The reference's run: its contract.
  The reference's parts: its contract.
-/
import Derived.Test.YtkghdieakpipkaaGreatDoorAnV08
import Derived.Test.YtkghdieakpipkaaGreatDoorAnV07
import Derived.Lib.Strings
import Derived.BigQuiet
import Derived.Deep.DeepCutAuto
import Derived.Deep.QuietTactic
namespace Go.Proofs.YtkghdieakpipkaaGreatDoor.Nm

def twN (l : List UInt8) : Nat := (l.takeWhile dig).length
theorem tw_len {l : List UInt8} {m : Nat} (hm : m ≤ l.length) (h : (l.take m).all dig = true) (hend : ∀ b, l[m]? = some b → dig b = false) : twN l = m := by
  unfold twN
  induction l generalizing m with
  | nil => simp at hm; subst hm; rfl
  | cons b l ih =>
    cases m with
    | zero =>
      have := hend b rfl
      rw [List.takeWhile_cons, this]
      rfl
    | succ m =>
      rw [List.take_succ_cons, List.all_cons, Bool.and_eq_true] at h
      rw [List.takeWhile_cons, h.1, if_pos rfl, List.length_cons, ih (by simpa using hm) h.2 (fun b hb => hend b (by simpa using hb))]
theorem tw_le (l : List UInt8) : twN l ≤ l.length := (List.takeWhile_prefix _).sublist.length_le
theorem tw_take (l : List UInt8) : l.takeWhile dig = l.take (twN l) := by
  have h := List.takeWhile_append_dropWhile (p := dig) (l := l)
  have : l.take (twN l) = (l.takeWhile dig ++ l.dropWhile dig).take (twN l) := by rw [h]
  rw [this]
  exact (List.take_left' rfl).symm
theorem tw_drop (l : List UInt8) : l.dropWhile dig = l.drop (twN l) := by
  have h := List.takeWhile_append_dropWhile (p := dig) (l := l)
  have : l.drop (twN l) = (l.takeWhile dig ++ l.dropWhile dig).drop (twN l) := by rw [h]
  rw [this]
  exact (List.drop_left' rfl).symm
theorem tw_all (l : List UInt8) : l.all dig = decide (twN l = l.length) := by
  rw [Bool.eq_iff_iff, decide_eq_true_eq]
  constructor
  · intro h
    exact tw_len (Nat.le_refl _) (by rw [List.take_length]; exact h) (fun b hb => by rw [List.getElem?_eq_none (Nat.le_refl _)] at hb; cases hb)
  · intro h
    have := all_tw l
    rw [tw_take, h, List.take_length] at this
    exact this

/-- The byte at a place. -/
def bAt (l : List UInt8) (k : Nat) : Nat := (l.getD k 0).toNat
theorem drop_at {l : List UInt8} {k : Nat} (h : k < l.length) : ∃ c, l.drop k = c :: l.drop (k + 1) ∧ c.toNat = bAt l k := by
  refine ⟨l[k], List.drop_eq_getElem_cons h, ?_⟩
  unfold bAt
  rw [List.getD_eq_getElem?_getD, List.getElem?_eq_getElem h]
  rfl
def off (l : List UInt8) : Nat := if negL l then 1 else 0
theorem unsigned_off (l : List UInt8) : unsigned l = l.drop (off l) := by
  unfold unsigned off
  split <;> simp
theorem off_one {l : List UInt8} (h : 0 < l.length) (hb : bAt l 0 = 45) : off l = 1 := by
  obtain ⟨c, h1, h2⟩ := drop_at h
  rw [List.drop_zero] at h1
  unfold off
  rw [h1, show negL (c :: l.drop (0 + 1)) = true from decide_eq_true (by omega), if_pos rfl]
theorem off_zero {l : List UInt8} (h : 0 < l.length → bAt l 0 ≠ 45) : off l = 0 := by
  unfold off
  cases l with
  | nil => rfl
  | cons c l =>
    have := h (by simp)
    rw [show negL (c :: l) = false from decide_eq_false this]
    rfl

section
variable {l : List UInt8} {a0 n : Nat}
theorem head_at {u : List UInt8} (h : 0 < twN u) : (u.takeWhile dig).head? = some (u.getD 0 0) := by
  cases u with
  | nil => simp [twN] at h
  | cons b u =>
    unfold twN at h
    rw [List.takeWhile_cons] at h ⊢
    cases hb : dig b
    · rw [hb] at h; simp at h
    · simp
theorem first_at (hn : twN (l.drop a0) = n) (h0 : 0 < n) : ((l.drop a0).takeWhile dig).head? = some 48 ↔ bAt l a0 = 48 := by
  rw [head_at (by omega)]
  unfold bAt
  have : (l.drop a0).getD 0 0 = l.getD a0 0 := by simp [List.getD_eq_getElem?_getD]
  rw [this]
  constructor
  · intro h; injection h with h; rw [h]; rfl
  · intro h; congr 1; exact UInt8.toNat_inj.1 h
theorem parts_U (ha : off l = a0) : parts l = partsU (l.drop a0) := by unfold parts; rw [unsigned_off, ha]
theorem drop_n (hn : twN (l.drop a0) = n) : (l.drop a0).dropWhile dig = l.drop (a0 + n) := by rw [tw_drop, hn, List.drop_drop]
theorem take_n (hn : twN (l.drop a0) = n) : (l.drop a0).takeWhile dig = (l.drop a0).take n := by rw [tw_take, hn]
theorem take_nil (hn : twN (l.drop a0) = n) : (l.drop a0).takeWhile dig = [] ↔ n = 0 := by
  rw [← hn]; unfold twN; exact List.length_eq_zero_iff.symm
theorem ne_drop {k : Nat} (h : k < l.length) : l.drop k ≠ [] := by
  intro hc; have := congrArg List.length hc; simp at this; omega
theorem e_bad0 (ha : off l = a0) (hn : twN (l.drop a0) = n) (h1 : a0 + n < l.length) (h2 : n = 0) : parts l = noParts := by
  rw [parts_U ha]
  unfold partsU
  rw [drop_n hn, if_pos ⟨ne_drop h1, (take_nil hn).2 h2⟩]
theorem e_bad1 (ha : off l = a0) (hn : twN (l.drop a0) = n) (h1 : 1 < n) (hb : bAt l a0 = 48) : parts l = noParts := by
  rw [parts_U ha]
  unfold partsU
  rw [if_neg (fun h => by have := (take_nil hn).1 h.2; omega), if_pos ⟨by have : twN (l.drop a0) = ((l.drop a0).takeWhile dig).length := rfl; omega, (first_at hn (by omega)).2 hb⟩]
theorem e_W (ha : off l = a0) (hn : twN (l.drop a0) = n) (h1 : a0 + n < l.length → 0 < n) (h2 : ¬ (1 < n ∧ bAt l a0 = 48)) : parts l = partsW ((l.drop a0).take n) (l.drop (a0 + n)) := by
  rw [parts_U ha]
  unfold partsU
  have hl : twN (l.drop a0) = ((l.drop a0).takeWhile dig).length := rfl
  rw [if_neg (fun h => by
    have := (take_nil hn).1 h.2
    have : a0 + n < l.length := by
      rcases Nat.lt_or_ge (a0 + n) l.length with hh | hh
      · exact hh
      · exact absurd (by rw [drop_n hn]; exact List.drop_eq_nil_of_le hh) h.1
    have := h1 this
    omega), if_neg (fun h => h2 ⟨by omega, (first_at hn (by omega)).1 h.2⟩), take_n hn, drop_n hn]
theorem e_end (ha : off l = a0) (hn : twN (l.drop a0) = n) (h1 : a0 + n = l.length) (h2 : ¬ (1 < n ∧ bAt l a0 = 48)) : parts l = ⟨(l.drop a0).take n, [], [], true, decide (0 < n)⟩ := by
  rw [e_W ha hn (by omega) h2, h1, List.drop_length]
  unfold partsW
  have : decide ((l.drop a0).take n ≠ []) = decide (0 < n) := by
    rw [← take_n hn]
    rw [decide_eq_decide, ne_eq, take_nil hn]
    omega
  rw [this]
/-- From place K on stands what may begin with an e. -/
def AtE (l : List UInt8) (K : Nat) (W F : List UInt8) : Prop := parts l = partsX W F (l.drop K) ∧ K < l.length
theorem e_pt {m K2 : Nat} (ha : off l = a0) (hn : twN (l.drop a0) = n) (h0 : 0 < n) (h2 : ¬ (1 < n ∧ bAt l a0 = 48)) (h1 : a0 + n < l.length) (hb : bAt l (a0 + n) = 46) (hm : twN (l.drop (a0 + n + 1)) = m) (hK : K2 = a0 + n + 1 + m) :
    parts l = if K2 < l.length then (if m = 0 then noParts else partsX ((l.drop a0).take n) ((l.drop (a0 + n + 1)).take m) (l.drop K2)) else ⟨(l.drop a0).take n, (l.drop (a0 + n + 1)).take m, [], true, decide (0 < m)⟩ := by
  rw [e_W ha hn (fun _ => h0) h2]
  obtain ⟨c, hd, hc⟩ := drop_at h1
  rw [hd]
  simp only [partsW]
  rw [if_pos (by omega)]
  unfold partsF
  rw [drop_n hm, take_n hm, ← hK]
  have hnil : (l.drop (a0 + n + 1)).take m = [] ↔ m = 0 := by rw [← take_n hm]; exact take_nil hm
  by_cases h : K2 < l.length
  · rw [if_pos h, if_neg (ne_drop h)]
    by_cases hz : m = 0
    · rw [if_pos hz, if_pos (hnil.2 hz)]
    · rw [if_neg hz, if_neg (fun hc => hz (hnil.1 hc))]
  · rw [if_neg h, if_pos (List.drop_eq_nil_of_le (by omega))]
    have : decide ((l.drop (a0 + n + 1)).take m ≠ []) = decide (0 < m) := by
      rw [decide_eq_decide, ne_eq, hnil]; omega
    rw [this]
theorem e_pt_end {m : Nat} (ha : off l = a0) (hn : twN (l.drop a0) = n) (h0 : 0 < n) (h2 : ¬ (1 < n ∧ bAt l a0 = 48)) (h1 : a0 + n < l.length) (hb : bAt l (a0 + n) = 46) (hm : twN (l.drop (a0 + n + 1)) = m) (h : a0 + n + 1 + m = l.length) :
    parts l = ⟨(l.drop a0).take n, (l.drop (a0 + n + 1)).take m, [], true, decide (0 < m)⟩ := by
  rw [e_pt ha hn h0 h2 h1 hb hm rfl, if_neg (by omega)]
theorem e_pt_bad {m : Nat} (ha : off l = a0) (hn : twN (l.drop a0) = n) (h0 : 0 < n) (h2 : ¬ (1 < n ∧ bAt l a0 = 48)) (h1 : a0 + n < l.length) (hb : bAt l (a0 + n) = 46) (hm : twN (l.drop (a0 + n + 1)) = m) (h : a0 + n + 1 + m < l.length) (hz : m = 0) :
    parts l = noParts := by
  rw [e_pt ha hn h0 h2 h1 hb hm rfl, if_pos (by omega), if_pos hz]
theorem e_pt_go {m : Nat} (ha : off l = a0) (hn : twN (l.drop a0) = n) (h0 : 0 < n) (h2 : ¬ (1 < n ∧ bAt l a0 = 48)) (h1 : a0 + n < l.length) (hb : bAt l (a0 + n) = 46) (hm : twN (l.drop (a0 + n + 1)) = m) (h : a0 + n + 1 + m < l.length) (hz : m ≠ 0) :
    AtE l (a0 + n + 1 + m) ((l.drop a0).take n) ((l.drop (a0 + n + 1)).take m) := by
  refine ⟨?_, h⟩
  rw [e_pt ha hn h0 h2 h1 hb hm rfl, if_pos (by omega), if_neg hz]
theorem e_np_go (ha : off l = a0) (hn : twN (l.drop a0) = n) (h0 : 0 < n) (h2 : ¬ (1 < n ∧ bAt l a0 = 48)) (h1 : a0 + n < l.length) (hb : bAt l (a0 + n) ≠ 46) :
    AtE l (a0 + n) ((l.drop a0).take n) [] := by
  refine ⟨?_, h1⟩
  rw [e_W ha hn (fun _ => h0) h2]
  obtain ⟨c, hd, hc⟩ := drop_at h1
  rw [hd]
  simp only [partsW]
  rw [if_neg (by omega)]
theorem e_x_no {K : Nat} {W F : List UInt8} (h : AtE l K W F) (h1 : bAt l K ≠ 101) (h2 : bAt l K ≠ 69) : parts l = noParts := by
  obtain ⟨h, hlt⟩ := h
  obtain ⟨c, hd, hc⟩ := drop_at hlt
  rw [h, hd]
  simp only [partsX]
  rw [if_neg (by rw [isE_iff]; omega)]
theorem sgn_at {k at' : Nat} (h : (at' = k + 1 ∧ k < l.length ∧ (bAt l k = 43 ∨ bAt l k = 45)) ∨ (at' = k ∧ (l.length ≤ k ∨ (bAt l k ≠ 43 ∧ bAt l k ≠ 45)))) : sgn (l.drop k) = l.drop at' := by
  rcases Nat.lt_or_ge k l.length with hlt | hge
  · obtain ⟨c, hd, hc⟩ := drop_at hlt
    rcases h with ⟨rfl, _, hb⟩ | ⟨rfl, hb⟩
    · rw [hd]
      unfold sgn
      have : isPM c = true := by rw [isPM_iff]; omega
      simp only [this, if_true]
    · have : isPM c = false := by
        cases hp : isPM c
        · rfl
        · rw [isPM_iff] at hp; omega
      rw [hd]
      unfold sgn
      simp only [this]
      rfl
  · rcases h with ⟨_, hk, _⟩ | ⟨rfl, _⟩
    · omega
    · rw [List.drop_eq_nil_of_le hge]; rfl
theorem e_x {K at' q : Nat} {W F : List UInt8} (h : AtE l K W F) (h1 : bAt l K = 101 ∨ bAt l K = 69) (hs : sgn (l.drop (K + 1)) = l.drop at') (hq : twN (l.drop at') = q) :
    parts l = if at' + q < l.length then noParts else ⟨W, F, l.drop (K + 1), true, decide (0 < q)⟩ := by
  obtain ⟨h, hlt⟩ := h
  obtain ⟨c, hd, hc⟩ := drop_at hlt
  rw [h, hd]
  simp only [partsX]
  rw [if_pos (by rw [isE_iff]; omega)]
  unfold partsE
  rw [hs, tw_all, hq]
  have hle := tw_le (l.drop at')
  rw [hq, List.length_drop] at hle
  have e1 : (l.drop at').length = l.length - at' := List.length_drop ..
  by_cases hc : at' + q < l.length
  · rw [if_pos hc, decide_eq_false (by omega)]
    rfl
  · rw [if_neg hc, decide_eq_true (by omega), if_pos rfl]
    have : decide (l.drop at' ≠ []) = decide (0 < q) := by
      rw [decide_eq_decide, ne_eq, ← List.length_eq_zero_iff]
      omega
    rw [this]
theorem e_x_bad {K at' q : Nat} {W F : List UInt8} (h : AtE l K W F) (h1 : bAt l K = 101 ∨ bAt l K = 69) (hs : sgn (l.drop (K + 1)) = l.drop at') (hq : twN (l.drop at') = q) (hc : at' + q < l.length) : parts l = noParts := by
  rw [e_x h h1 hs hq, if_pos hc]
theorem e_x_ok {K at' q : Nat} {W F : List UInt8} (h : AtE l K W F) (h1 : bAt l K = 101 ∨ bAt l K = 69) (hs : sgn (l.drop (K + 1)) = l.drop at') (hq : twN (l.drop at') = q) (hc : l.length ≤ at' + q) : parts l = ⟨W, F, l.drop (K + 1), true, decide (0 < q)⟩ := by
  rw [e_x h h1 hs hq, if_neg (by omega)]
end
end Go.Proofs.YtkghdieakpipkaaGreatDoor.Nm
namespace Go.Proofs.YtkghdieakpipkaaGreatDoor.Nm
open Go.RowKit
set_option maxRecDepth 100000

set_option maxHeartbeats 1000000 in
theorem run_any (s : ByteArray) (k : Nat) (i : Int) (hi : i = (k : Int)) (w : World) (hk : k ≤ s.size) (hs : s.size ≤ 140737488355328) :
    Calls Tryz.prog 119 #[.string s, .int .i64 i] w fun e w' => e = .returned (.int .i64 (twN (s.data.toList.drop k))) ∧ w = w' := by
  subst hi
  go_enter Tryz.func119, Tryz.ntmps119
  go_wp2
  go_loop [5] (fun n => ∃ m : Nat, n = .int .i64 m ∧ k + m ≤ s.size ∧ Hid (((s.data.toList.drop k).take m).all dig = true)) (fun n => s.size - (k + (intOf n).toNat))
  case atStart => exact ⟨0, rfl, by omega, Lib.hid (by simp)⟩
  case round =>
    obtain ⟨m, rfl, hm, HD⟩ := hrel
    by_cases hlt : k + m < s.size
    · have hidx : (s.data.toList.drop k)[m]? = some s[k + m] := by
        rw [List.getElem?_drop, List.getElem?_eq_getElem (by simpa using hlt)]
        rfl
      cases hd : dig s[k + m]
      · have hfin : twN (s.data.toList.drop k) = m := tw_len (by simp; omega) HD.out (fun b hb => by rw [hidx] at hb; injection hb with hb; rw [← hb]; exact hd)
        have HF := Lib.hid hfin
        rw [dig_not] at hd
        have hcase : (s[k + m].toNat : Int) < 48 ∨ (48 ≤ (s[k + m].toNat : Int) ∧ 57 < (s[k + m].toNat : Int)) := by omega
        clear hidx hfin hd
        rcases hcase with h | ⟨h, h2⟩
        all_goals
          go_wp2
          go_ret
          exact ⟨ret_int (by rw [HF.out]), rfl⟩
      · have hr := dig_range hd
        have h1 : 48 ≤ (s[k + m].toNat : Int) := by omega
        have h2 : (s[k + m].toNat : Int) ≤ 57 := by omega
        have hnew : ((s.data.toList.drop k).take (m + 1)).all dig = true := by
          rw [List.take_add_one, hidx]
          simp only [Option.toList_some, List.all_append, HD.out, List.all_cons, hd]
          rfl
        have HN := Lib.hid hnew
        clear hidx hd hr hnew
        go_wp2
        go_round
        case rel => exact ⟨m + 1, by go_num, by omega, HN⟩
        case measure => simp [intOf]; omega
    · have hfin : twN (s.data.toList.drop k) = m := tw_len (by simp; omega) HD.out (fun b hb => by
        rw [List.getElem?_eq_none (by simp; omega)] at hb; cases hb)
      have HF := Lib.hid hfin
      clear hfin
      go_wp2
      go_ret
      exact ⟨ret_int (by rw [HF.out]), rfl⟩
end Go.Proofs.YtkghdieakpipkaaGreatDoor.Nm
namespace Go.Proofs.YtkghdieakpipkaaGreatDoor.Nm
open Go.RowKit
set_option maxRecDepth 100000

theorem results_tmp5 {fn : Func} {t u v x y : Tmp} (h : fn.results = #[.tmp t, .tmp u, .tmp v, .tmp x, .tmp y]) (tmps : Array Value) (P : Program) (w : World) :
    (results fn tmps).run P w = .ok (.tuple #[tmps.getD t undef, tmps.getD u undef, tmps.getD v undef, tmps.getD x undef, tmps.getD y undef]) w := by
  simp [results, h]
def partsA (p : Parts) : Value := .tuple #[.string ⟨p.whole.toArray⟩, .string ⟨p.part.toArray⟩, .string ⟨p.tail.toArray⟩, .bool p.begins, .bool p.is]
theorem fin5 {l : List UInt8} {W F T : List UInt8} {b i : Bool} (h : parts l = ⟨W, F, T, b, i⟩) {x y z : ByteArray} {u v : Bool} (hx : x.data.toList = W) (hy : y.data.toList = F) (hz : z.data.toList = T) (hu : u = b) (hv : v = i) :
    Ending.returned (.tuple #[.string x, .string y, .string z, .bool u, .bool v]) = .returned (partsA (parts l)) := by
  subst hx hy hz hu hv
  rw [h]
  unfold partsA
  simp
theorem fin_no {l : List UInt8} (h : parts l = noParts) :
    Ending.returned (.tuple #[.string ⟨#[]⟩, .string ⟨#[]⟩, .string ⟨#[]⟩, .bool false, .bool false]) = .returned (partsA (parts l)) := by
  rw [h]; rfl
theorem b_at (s : ByteArray) (k : Nat) (h : k < s.size) : bAt s.data.toList k = s[k].toNat := by
  unfold bAt
  rw [List.getD_eq_getElem?_getD, List.getElem?_eq_getElem (by simpa using h)]
  rfl
theorem ext_take (s : ByteArray) (a n : Nat) : (s.extract a (a + n)).data.toList = (s.data.toList.drop a).take n := by
  rw [Lib.extract_data]; simp
theorem ext_drop (s : ByteArray) (a : Nat) : (s.extract a s.size).data.toList = s.data.toList.drop a := by
  rw [Lib.extract_data, List.take_of_length_le]
  simp

end Go.Proofs.YtkghdieakpipkaaGreatDoor.Nm

/-
  names: which bytes a name may have; Local, Space of the program.
  names: Space, Cut and Join of the program.
  names: Cut and Join of the program.
  names: Cut and Join of the program, whole.
-/
import Derived.Test.YtjepnddndpmnnaaGreatDoorGwA05
import Derived.Test.YtjepnddndpmnnaaGreatDoorGwA02
import Derived.Test.YtjepnddndpmnnaaGreatDoorShelf
namespace Go.Proofs.YtjepnddndpmnnaaGreatDoor
open Go.RowKit Go.Maps
set_option maxRecDepth 100000

theorem begins_any (b : Int) (w : World) :
    Calls Tryz.prog 47 #[.int .u8 b] w fun e w' => e = .returned (.bool (firstB b)) ∧ w = w' := by
  go_enter Tryz.func47, Tryz.ntmps47
  go_wp2
  all_goals go_ret
  all_goals refine ⟨ret_bool ?_, rfl⟩
  all_goals simp only [firstB]
  all_goals (rw [Bool.eq_iff_iff]; simp; try omega)

theorem later_of_first {b : Int} (h : firstB b = true) : laterB b = true := by
  unfold firstB at h
  unfold laterB
  rw [decide_eq_true_iff] at h ⊢
  omega
theorem later_eq (b : Int) : laterB b = (firstB b || decide ((48 ≤ b ∧ b ≤ 57) ∨ b = 45 ∨ b = 46)) := by
  unfold firstB laterB
  rw [Bool.eq_iff_iff]
  simp
  omega

theorem inloc_any (b : Int) (w : World) :
    Calls Tryz.prog 48 #[.int .u8 b] w fun e w' => e = .returned (.bool (laterB b)) ∧ w = w' := by
  cases hf : firstB b
  all_goals have HF := Lib.hid hf
  all_goals clear hf
  all_goals
    go_enter Tryz.func48, Tryz.ntmps48
    go_wp2_with (go_at_call 47; refine (begins_any _ _).mono ?_; rintro e w' ⟨rfl, rfl⟩; rw [HF.out])
  all_goals go_ret
  all_goals refine ⟨ret_bool ?_, rfl⟩
  all_goals rw [later_eq]
  all_goals first
    | (rw [HF.out]; simp only [Bool.true_or]; done)
    | (rw [HF.out, Bool.eq_iff_iff]; simp; try omega)
    | decide

theorem inspace_any (b : Int) (w : World) :
    Calls Tryz.prog 46 #[.int .u8 b] w fun e w' => e = .returned (.bool (!badB b)) ∧ w = w' := by
  go_enter Tryz.func46, Tryz.ntmps46
  go_wp2
  all_goals try (go_step3; go_wp2)
  all_goals go_ret
  all_goals refine ⟨ret_bool ?_, rfl⟩
  all_goals simp only [beq_iff_eq, beq_eq_false_iff_ne] at *
  all_goals (rw [Bool.eq_iff_iff]; simp [badB]; try omega)

theorem local_le {l : List UInt8} (h : localL l = true) : 1 ≤ l.length ∧ l.length ≤ 16 ∧ l.all (fun d => laterB (d.toNat : Int)) = true := by
  have h1 := local_len h
  cases l with
  | nil => cases h
  | cons c t =>
    simp only [localL, Bool.and_eq_true, decide_eq_true_eq] at h
    refine ⟨h1.1, h1.2, ?_⟩
    rw [List.all_cons, later_of_first h.1.2, h.2]
    rfl
theorem local_eq (s : ByteArray) (h : 0 < s.size) (h16 : s.size ≤ 16) : localL s.data.toList = (firstB (s[0].toNat : Int) && s.data.toList.all (fun d => laterB (d.toNat : Int))) := by
  have hl : s.data.toList.length = s.size := by simp
  have he := bytes_cons s h
  rw [he] at hl ⊢
  generalize List.drop 1 s.data.toList = t at *
  simp only [List.length_cons] at hl
  simp only [localL, List.all_cons]
  rw [decide_eq_true (show t.length < 16 by omega), Bool.true_and]
  cases hf : firstB (s[0].toNat : Int)
  · rfl
  · rw [later_of_first hf, Bool.true_and, Bool.true_and]
theorem local_long (s : ByteArray) (h : s.size = 0 ∨ 16 < s.size) : localL s.data.toList = false := by
  have hl : s.data.toList.length = s.size := by simp
  cases hb : localL s.data.toList with
  | false => rfl
  | true => have := local_len hb; omega
theorem all_snoc {p : UInt8 → Bool} {s : ByteArray} {k : Nat} (h : k < s.size) (ha : (s.data.toList.take k).all p = true) : (s.data.toList.take (k + 1)).all p = p s[k] := by
  rw [take_snoc s k h, List.all_append, ha]
  simp
theorem all_break {p : UInt8 → Bool} {s : ByteArray} {k : Nat} (h : k < s.size) (hp : p s[k] = false) : s.data.toList.all p = false := by
  cases ha : s.data.toList.all p with
  | false => rfl
  | true =>
    rw [List.all_eq_true] at ha
    have := ha s[k] (by simp [ByteArray.getElem_eq_getElem_data])
    rw [hp] at this
    cases this

theorem str_ne {s : ByteArray} (h : ¬ s.size = 0) : s.toList.isEmpty = false := by
  rw [Lib.toList_data]
  cases hl : s.data.toList with
  | nil => have : s.data.toList.length = s.size := by simp
           rw [hl] at this
           simp at this
           omega
  | cons c t => rfl
theorem str_ne2 {s : ByteArray} (h : ¬ s.size = 0) : ¬ s.toList = [] := by
  have := str_ne h
  intro hc
  rw [hc] at this
  cases this

set_option maxHeartbeats 1000000 in
theorem local_any (s : ByteArray) (w : World) (hm : s.size ≤ 140737488355328) :
    Calls Tryz.prog 40 #[.string s] w fun e w' => e = .returned (.bool (localL s.data.toList)) ∧ w = w' := by
  by_cases h0 : s.size = 0
  · rw [local_long s (.inl h0)]
    have hs : s = ⟨#[]⟩ := ByteArray.ext (Array.eq_empty_of_size_eq_zero h0)
    subst hs
    go_enter Tryz.func40, Tryz.ntmps40
    go_wp2
    go_ret
    exact ⟨rfl, rfl⟩
  have hn1 := str_ne h0
  have hn2 := str_ne2 h0
  by_cases h16 : 16 < s.size
  · rw [local_long s (.inr h16)]
    go_enter Tryz.func40, Tryz.ntmps40
    go_wp2
    go_ret
    exact ⟨rfl, rfl⟩
  have hp : 0 < s.size := by omega
  have hR := local_eq s hp (by omega)
  generalize hgl : localL s.data.toList = R at *
  have HR := Lib.hid hR
  clear hR hgl h0
  rcases Bool.eq_false_or_eq_true (firstB (s[0].toNat : Int)) with hf | hf
  case' inl => have HF := Lib.hid hf
  case' inr => have HF := Lib.hid hf
  all_goals clear hf
  case inr =>
    go_enter Tryz.func40, Tryz.ntmps40
    go_wp2_with (go_at_call 47; refine (begins_any _ _).mono ?_; rintro e w' ⟨rfl, rfl⟩; rw [HF.out])
    go_ret
    refine ⟨ret_bool ?_, rfl⟩
    rw [HR.out, HF.out]
    rfl
  case inl =>
    go_enter Tryz.func40, Tryz.ntmps40
    go_wp2_with (go_at_call 47; refine (begins_any _ _).mono ?_; rintro e w' ⟨rfl, rfl⟩; rw [HF.out])
    go_loop [19] (fun i => ∃ k : Nat, k ≤ s.size ∧ i = .int .i64 k ∧ Hid ((s.data.toList.take k).all (fun d => laterB (d.toNat : Int)) = true)) (fun i => s.size - (intOf i).toNat)
    case atStart => exact ⟨0, Nat.zero_le _, rfl, Lib.hid rfl⟩
    case round =>
      obtain ⟨k, hk, rfl, HK⟩ := hrel
      by_cases hlt : k < s.size
      · rcases Bool.eq_false_or_eq_true (laterB (s[k].toNat : Int)) with hl | hl
        case' inl => have HL := Lib.hid hl
        case' inr => have HL := Lib.hid hl
        all_goals clear hl
        case inr =>
          go_wp2_with (go_at_call 48; refine (inloc_any _ _).mono ?_; rintro e w' ⟨rfl, rfl⟩; rw [HL.out])
          go_ret
          refine ⟨ret_bool ?_, rfl⟩
          rw [HR.out, all_break hlt HL.out, Bool.and_false]
        case inl =>
          go_wp2_with (go_at_call 48; refine (inloc_any _ _).mono ?_; rintro e w' ⟨rfl, rfl⟩; rw [HL.out])
          go_round
          case rel => exact ⟨k + 1, by omega, by go_num, Lib.hid ((all_snoc hlt HK.out).trans HL.out)⟩
          case measure => simp [intOf]; omega
      · go_wp2
        go_ret
        refine ⟨ret_bool ?_, rfl⟩
        have hK := HK.out
        rw [List.take_of_length_le (by simp; omega)] at hK
        rw [HR.out, HF.out, hK]
        rfl
end Go.Proofs.YtjepnddndpmnnaaGreatDoor
namespace Go.Proofs.YtjepnddndpmnnaaGreatDoor
open Go.RowKit Go.Maps
set_option maxRecDepth 100000

theorem space_long (s : ByteArray) (h : s.size = 0 ∨ 48 < s.size) : spaceL s.data.toList = false := by
  have hl : s.data.toList.length = s.size := by simp
  cases hb : spaceL s.data.toList with
  | false => rfl
  | true => have := space_len hb; omega
theorem space_eq (s : ByteArray) (h : 0 < s.size) (h48 : s.size ≤ 48) : spaceL s.data.toList = ((runesL s.data.toList).isSome && s.data.toList.all (fun d => !badB (d.toNat : Int))) := by
  have hl : s.data.toList.length = s.size := by simp
  unfold spaceL
  rw [decide_eq_true (show 1 ≤ s.data.toList.length ∧ s.data.toList.length ≤ 48 by omega), Bool.and_true]

set_option maxHeartbeats 1000000 in
theorem space_any (s : ByteArray) (w : World) (hm : s.size ≤ 140737488355328) :
    Calls Tryz.prog 39 #[.string s] w fun e w' => e = .returned (.bool (spaceL s.data.toList)) ∧ Below w.heap.size w w' := by
  by_cases h0 : s.size = 0
  · rw [space_long s (.inl h0)]
    have hs : s = ⟨#[]⟩ := ByteArray.ext (Array.eq_empty_of_size_eq_zero h0)
    subst hs
    go_enter Tryz.func39, Tryz.ntmps39
    go_wp2
    go_ret
    exact ⟨rfl, Below.refl _ _⟩
  have hn1 := str_ne h0
  have hn2 := str_ne2 h0
  by_cases h48 : 48 < s.size
  · rw [space_long s (.inr h48)]
    go_enter Tryz.func39, Tryz.ntmps39
    go_wp2
    go_ret
    exact ⟨rfl, Below.refl _ _⟩
  have hR := space_eq s (by omega) (by omega)
  generalize hgl : spaceL s.data.toList = R at *
  have HR := Lib.hid hR
  clear hR hgl h0
  go_enter Tryz.func39, Tryz.ntmps39
  go_wp2_with (first
    | (go_at_call 24; refine (new_any _).mono ?_; rintro e w' ⟨rfl, rfl⟩))
  go_loopw [15] (fun i wr => ∃ (k : Nat) (l lo hi : Int), k ≤ s.size ∧ i = .int .i64 k ∧ ScanAt wr w.heap.size l lo hi ∧ 0 ≤ l ∧ l ≤ 3 ∧ Below w.heap.size w wr ∧ Hid (UtfAt s.data.toList k l lo hi) ∧ Hid ((s.data.toList.take k).all (fun d => !badB (d.toNat : Int)) = true)) (fun i _ => s.size - (intOf i).toNat)
  case atStart => exact ⟨0, 0, 128, 191, Nat.zero_le _, rfl, Blk.new w _ _, by decide, by decide, (Below.refl _ _).alloc (Nat.le_refl _) _, Lib.hid ⟨0, [], rfl⟩, Lib.hid rfl⟩
  case round =>
    obtain ⟨k, l, lo, hi, hk, rfl, hsc, h0, h3, hbel, HW, HK⟩ := hrel
    by_cases hlt : k < s.size
    · have hle := byte_le s[k]
      have HD := Lib.hid (drop_cons s k hlt)
      have hr := stL_range (b := s[k].toNat) h0 h3
      obtain ⟨hr0, hr3⟩ := hr
      rcases Bool.eq_false_or_eq_true (badB (s[k].toNat : Int)) with hb | hb
      case' inl => have HB := Lib.hid hb
      case' inr => have HB := Lib.hid hb
      all_goals clear hb
      case inl =>
        have HX := Lib.hid (all_break (p := fun d => !badB (d.toNat : Int)) hlt (by rw [HB.out]; rfl))
        go_wp2_with (first
          | (go_at_call 46; refine (inspace_any _ _).mono ?_; rintro e w' ⟨rfl, rfl⟩; rw [HB.out]))
        go_ret
        refine ⟨ret_bool ?_, hbel⟩
        rw [HR.out, HX.out, Bool.and_false]
      case inr =>
        have HX := Lib.hid (all_snoc (p := fun d => !badB (d.toNat : Int)) hlt HK.out)
        go_wp2_with (first
          | (go_at_call 46; refine (inspace_any _ _).mono ?_; rintro e w' ⟨rfl, rfl⟩; rw [HB.out]))
        refine (step_any _ _ _ _ _ _ hsc h0 h3 (by omega) hle).mono ?_
        rintro e w1 ⟨rfl, hg1, hs1⟩
        have hbel1 : Below w.heap.size w w1 := below_only hbel hg1 hbel.size (Nat.le_refl _)
        clear hg1 hsc hbel
        generalize hO : stOk l lo hi s[k].toNat = O at *
        have HO := Lib.hid hO
        clear hO
        cases O
        · have HE := Lib.hid (utf_bad HD.out HW.out HO.out)
          go_wp2
          go_ret
          refine ⟨ret_bool ?_, hbel1⟩
          rw [HR.out, HE.out, Bool.false_and]
        · rw [if_pos rfl] at hs1
          go_wp2
          go_roundw
          case rel => exact ⟨k + 1, _, _, _, by omega, by go_num, hs1, hr0, hr3, hbel1, Lib.hid (utf_step HD.out HW.out HO.out), Lib.hid (HX.out.trans (by rw [HB.out]; rfl))⟩
          case measure => simp [intOf]; omega
    · have hend := utf_end (by simp; omega) HW.out
      have HE := Lib.hid hend
      clear hend
      go_wp2_with (first
        | (go_at_call 36; refine (whole_any _ _ _ _ _ hsc).mono ?_; rintro e w' ⟨rfl, rfl⟩))
      go_ret
      refine ⟨ret_bool ?_, hbel⟩
      have hK := HK.out
      rw [List.take_of_length_le (by simp; omega)] at hK
      rw [HR.out, HE.out, hK, Bool.and_true]

theorem clone_any (s : ByteArray) (w : World) (hm : s.size ≤ 140737488355328) :
    Calls Tryz.prog 34 #[.string s] w fun e w' => e = .returned (.string s) ∧ Below w.heap.size w w' := by
  go_enter Tryz.func34, Tryz.ntmps34
  go_wp2_with (go_at_call 43; refine (Tryz.stringslite_Clone s w (by omega)).mono ?_; rintro e w' ⟨rfl, hb⟩)
  go_ret
  exact ⟨rfl, hb⟩
end Go.Proofs.YtjepnddndpmnnaaGreatDoor
namespace Go.Proofs.YtjepnddndpmnnaaGreatDoor
open Go.RowKit Go.Maps
set_option maxRecDepth 100000

/-- A text cut at its first closing brace. -/
def cutAt (l : List UInt8) : List UInt8 × List UInt8 × Bool :=
  match l.dropWhile noEnd with
  | [] => (l, [], false)
  | _ :: b => (l.takeWhile noEnd, b, true)

theorem noEnd_iff (c : UInt8) : noEnd c = !(c == 125) := by
  unfold noEnd
  rw [Bool.eq_iff_iff]
  simp
  constructor
  · intro h hc; subst hc; exact h rfl
  · intro h hc; exact h (UInt8.toNat_inj.1 (by rw [show (125 : UInt8).toNat = 125 from rfl]; omega))

theorem index_none {l : List UInt8} (h : l.dropWhile noEnd = []) : Lib.indexByte l 125 = -1 := by
  induction l with
  | nil => rfl
  | cons c t ih =>
    rw [List.dropWhile_cons] at h
    split at h
    · rename_i hc
      have hc' : (c == 125) = false := by rw [noEnd_iff] at hc; simpa using hc
      simp only [Lib.indexByte, hc', ih h]
      rfl
    · cases h
theorem index_some {l b : List UInt8} {c : UInt8} (h : l.dropWhile noEnd = c :: b) : Lib.indexByte l 125 = ((l.takeWhile noEnd).length : Int) := by
  induction l with
  | nil => cases h
  | cons d t ih =>
    rw [List.dropWhile_cons] at h
    rw [List.takeWhile_cons]
    split at h
    · rename_i hc
      have hc' : (d == 125) = false := by rw [noEnd_iff] at hc; simpa using hc
      have e := ih h
      simp only [Lib.indexByte, hc', e]
      rw [if_neg (by simp), if_neg (by simp), if_pos hc]
      simp
    · rename_i hc
      have hc' : (d == 125) = true := by rw [noEnd_iff] at hc; simpa using hc
      simp only [Lib.indexByte, hc']
      rw [if_pos trivial, if_neg hc]
      rfl
theorem parts_len {l b : List UInt8} {c : UInt8} (h : l.dropWhile noEnd = c :: b) : (l.takeWhile noEnd).length + 1 + b.length = l.length := by
  have := congrArg List.length (List.takeWhile_append_dropWhile (p := noEnd) (l := l))
  rw [h, List.length_append, List.length_cons] at this
  omega
theorem parts_eq {l b : List UInt8} {c : UInt8} (h : l.dropWhile noEnd = c :: b) : l = l.takeWhile noEnd ++ c :: b := by rw [← h]; exact List.takeWhile_append_dropWhile.symm
theorem parts_take {l b : List UInt8} {c : UInt8} (h : l.dropWhile noEnd = c :: b) : l.take (l.takeWhile noEnd).length = l.takeWhile noEnd := by
  have e := parts_eq h
  generalize l.takeWhile noEnd = a at *
  subst e
  simp
theorem parts_drop {l b : List UInt8} {c : UInt8} (h : l.dropWhile noEnd = c :: b) : l.drop ((l.takeWhile noEnd).length + 1) = b := by
  have e := parts_eq h
  generalize l.takeWhile noEnd = a at *
  subst e
  rw [List.drop_append]
  simp

theorem index_any (s : ByteArray) (w : World) :
    Calls Tryz.prog 52 #[.string s, .string ⟨#[125]⟩] w fun e w' => e = .returned (.int .i64 (Lib.indexByte s.data.toList 125)) ∧ w = w' := by
  cases hE : ([125] == s.toList)
  · have hE2 : ¬ ([125] = s.toList) := by simpa using hE
    go_enter Tryz.func52, Tryz.ntmps52
    go_wp2_with (go_at_call 56; refine (Tryz.stringslite_IndexByte s _ _).mono ?_; rintro e w' ⟨rfl, rfl⟩)
    go_ret
    exact ⟨rfl, rfl⟩
  · have hE2 : [125] = s.toList := by simpa using hE
    have hI := Lib.hid (show Lib.indexByte s.data.toList 125 = 0 by rw [← Lib.toList_data, ← hE2]; rfl)
    clear hE2
    go_enter Tryz.func52, Tryz.ntmps52
    go_wp2_with (go_at_call 56; refine (Tryz.stringslite_IndexByte s _ _).mono ?_; rintro e w' ⟨rfl, rfl⟩)
    go_ret
    exact ⟨ret_int hI.out.symm, rfl⟩

def CutAtEnd (l : List UInt8) : Ending := .returned (.tuple #[.string ⟨(cutAt l).1.toArray⟩, .string ⟨(cutAt l).2.1.toArray⟩, .bool (cutAt l).2.2])
theorem str_of (s : ByteArray) : (⟨s.data.toList.toArray⟩ : ByteArray) = s := rfl

set_option maxHeartbeats 400000 in
theorem lcut_any (s : ByteArray) (w : World) (hm : s.size ≤ 140737488355328) :
    Calls Tryz.prog 45 #[.string s, .string ⟨#[125]⟩] w fun e w' => e = CutAtEnd s.data.toList ∧ ∃ n, w' = w.drewN n := by
  have hl : s.data.toList.length = s.size := by simp
  cases hd : s.data.toList.dropWhile noEnd with
  | nil =>
    have hi := Lib.hid (index_none hd)
    have hE : CutAtEnd s.data.toList = .returned (.tuple #[.string s, .string ⟨#[]⟩, .bool false]) := by
      unfold CutAtEnd cutAt
      rw [hd]
    rw [hE]
    clear hE hd hl
    go_enter Tryz.func45, Tryz.ntmps45
    go_wp2_with (go_at_call 52; refine (index_any s _).mono ?_; rintro e w' ⟨rfl, rfl⟩; rw [hi.out])
    go_ret3
    exact ⟨rfl, 0, rfl⟩
  | cons c b =>
    have hi := Lib.hid (index_some hd)
    have hlen := parts_len hd
    have hE : CutAtEnd s.data.toList = .returned (.tuple #[.string (s.extract 0 (s.data.toList.takeWhile noEnd).length), .string (s.extract ((s.data.toList.takeWhile noEnd).length + 1) s.size), .bool true]) := by
      have p1 : s.extract 0 (s.data.toList.takeWhile noEnd).length = ⟨(s.data.toList.takeWhile noEnd).toArray⟩ := by
        apply ByteArray.ext
        apply Array.toList_inj.1
        rw [show (s.extract 0 (s.data.toList.takeWhile noEnd).length).data.toList = s.data.toList.take (s.data.toList.takeWhile noEnd).length from by simp, parts_take hd]
      have p2 : s.extract ((s.data.toList.takeWhile noEnd).length + 1) s.size = ⟨b.toArray⟩ := by
        apply ByteArray.ext
        apply Array.toList_inj.1
        rw [show (s.extract ((s.data.toList.takeWhile noEnd).length + 1) s.size).data.toList = s.data.toList.drop ((s.data.toList.takeWhile noEnd).length + 1) from extract_all _ _, parts_drop hd]
      rw [p1, p2]
      unfold CutAtEnd cutAt
      rw [hd]
    rw [hE]
    clear hE
    generalize (s.data.toList.takeWhile noEnd).length = i at *
    have c1 : (0 : Int) ≤ ↑i := by omega
    have c2 : (↑i : Int) ≤ ↑s.size := by omega
    have c3 : (0 : Int) ≤ ↑i + 1 := by omega
    have c4 : (↑i + 1 : Int) ≤ ↑s.size := by omega
    clear hd hl hlen
    go_enter Tryz.func45, Tryz.ntmps45
    go_wp2_with (go_at_call 52; refine (index_any s _).mono ?_; rintro e w' ⟨rfl, rfl⟩; rw [hi.out])
    go_region
    go_wp2
    go_ret3
    exact ⟨rfl, 1, rfl⟩
end Go.Proofs.YtjepnddndpmnnaaGreatDoor
namespace Go.Proofs.YtjepnddndpmnnaaGreatDoor
open Go.RowKit Go.Maps
set_option maxRecDepth 100000

theorem scut_any (s : ByteArray) (w : World) (hm : s.size ≤ 140737488355328) :
    Calls Tryz.prog 38 #[.string s, .string ⟨#[125]⟩] w fun e w' => e = CutAtEnd s.data.toList ∧ ∃ n, w' = w.drewN n := by
  unfold CutAtEnd
  go_enter Tryz.func38, Tryz.ntmps38
  go_wp2_with (go_at_call 45; refine (lcut_any s _ hm).mono ?_; unfold CutAtEnd; rintro e w' ⟨rfl, n, rfl⟩)
  go_ret3
  exact ⟨rfl, n, rfl⟩

def CutEnd (l : List UInt8) : Ending :=
  match cutL l with
  | none => .returned (.tuple #[.string ⟨#[]⟩, .string ⟨#[]⟩, .bool false])
  | some p => .returned (.tuple #[.string ⟨p.1.toArray⟩, .string ⟨p.2.toArray⟩, .bool true])
theorem cutEnd_none {l : List UInt8} (h : cutL l = none) : CutEnd l = .returned (.tuple #[.string ⟨#[]⟩, .string ⟨#[]⟩, .bool false]) := by unfold CutEnd; rw [h]
theorem cutEnd_some {l a b : List UInt8} (h : cutL l = some (a, b)) : CutEnd l = .returned (.tuple #[.string ⟨a.toArray⟩, .string ⟨b.toArray⟩, .bool true]) := by unfold CutEnd; rw [h]
theorem cutL_long {l : List UInt8} (h : 48 < l.length) : cutL l = none := by
  cases l with
  | nil => rfl
  | cons c t => simp only [cutL]; rw [if_pos (by simpa using h)]
theorem cutL_plain {l : List UInt8} (h : ¬ 48 < l.length) (hp : Lib.hasPrefix l [123] = false) : cutL l = if localL l = true then some ([], l) else none := by
  cases l with
  | nil => rfl
  | cons c t =>
    simp only [cutL]
    have hc : (c.toNat : Int) ≠ 123 := by
      intro hc
      have : c = 123 := UInt8.toNat_inj.1 (by rw [show (123 : UInt8).toNat = 123 from rfl]; omega)
      subst this
      cases hp
    rw [if_neg (by simpa using h), if_neg hc]
theorem prefix_cons {l : List UInt8} (hp : Lib.hasPrefix l [123] = true) : ∃ t, l = 123 :: t := by
  cases l with
  | nil => cases hp
  | cons c t =>
    refine ⟨t, ?_⟩
    simp [Lib.hasPrefix, List.isPrefixOf] at hp
    rw [← hp]
theorem cutL_brace {t : List UInt8} (h : ¬ 48 < t.length + 1) : cutL (123 :: t) = if spaceL (cutAt t).1 = true ∧ localL (cutAt t).2.1 = true then some ((cutAt t).1, (cutAt t).2.1) else none := by
  cases hd : t.dropWhile noEnd with
  | nil =>
    have e : cutAt t = (t, [], false) := by unfold cutAt; rw [hd]
    rw [e]
    simp only [cutL]
    rw [if_neg h, if_pos (by rfl), hd]
    simp [localL]
  | cons c b =>
    have e : cutAt t = (t.takeWhile noEnd, b, true) := by unfold cutAt; rw [hd]
    rw [e]
    simp only [cutL]
    rw [if_neg h, if_pos (by rfl), hd]
theorem cutAt_len (t : List UInt8) : (cutAt t).1.length ≤ t.length ∧ (cutAt t).2.1.length ≤ t.length := by
  unfold cutAt
  cases hd : t.dropWhile noEnd with
  | nil => simp
  | cons c b => have := parts_len hd; simp only; omega

set_option maxHeartbeats 1000000 in
theorem cut_any (s : ByteArray) (w : World) (hm : s.size ≤ 140737488355328) :
    Calls Tryz.prog 29 #[.string s] w fun e w' => e = CutEnd s.data.toList ∧ Below w.heap.size w w' := by
  have hl : s.data.toList.length = s.size := by simp
  by_cases h48 : 48 < s.size
  · rw [cutEnd_none (cutL_long (by omega))]
    clear hl
    go_enter Tryz.func29, Tryz.ntmps29
    go_wp2
    go_ret3
    exact ⟨rfl, Below.refl _ _⟩
  rcases Bool.eq_false_or_eq_true (Lib.hasPrefix s.data.toList [123]) with hp | hp
  · -- it begins with a brace
    obtain ⟨t, ht⟩ := prefix_cons hp
    have hE : CutEnd s.data.toList = CutEnd (123 :: t) := by rw [ht]
    rw [hE]
    have hcl := cutAt_len t
    have hb := cutL_brace (t := t) (by rw [ht] at hl; simp at hl; omega)
    have HP := Lib.hid hp
    have HT := Lib.hid (show Lib.trimPrefix s.data.toList [123] = t by rw [ht]; simp [Lib.trimPrefix, Lib.hasPrefix, List.isPrefixOf])
    have htl : t.length ≤ 48 := by rw [ht] at hl; simp at hl; omega
    clear hE ht hp hl
    have HA := Lib.hid (show CutAtEnd t = .returned (.tuple #[.string ⟨(cutAt t).1.toArray⟩, .string ⟨(cutAt t).2.1.toArray⟩, .bool (cutAt t).2.2]) from rfl)
    generalize (cutAt t).1 = A at *
    generalize (cutAt t).2.1 = B at *
    generalize (cutAt t).2.2 = F at *
    obtain ⟨hA, hB⟩ := hcl
    have HL : Hid ((⟨t.toArray⟩ : ByteArray).data.toList = t) := Lib.hid rfl
    have hsA : (⟨A.toArray⟩ : ByteArray).size ≤ 48 := by show A.toArray.size ≤ 48; simp; omega
    have hsB : (⟨B.toArray⟩ : ByteArray).size ≤ 48 := by show B.toArray.size ≤ 48; simp; omega
    have hsT : (⟨t.toArray⟩ : ByteArray).size ≤ 48 := by show t.toArray.size ≤ 48; simp; omega
    generalize hsa : (⟨A.toArray⟩ : ByteArray) = sa at *
    generalize hsb : (⟨B.toArray⟩ : ByteArray) = sb at *
    generalize hst : (⟨t.toArray⟩ : ByteArray) = st at *
    have ea : sa.data.toList = A := by rw [← hsa]
    have eb : sb.data.toList = B := by rw [← hsb]
    have HST := Lib.hid hst
    have hbel := Below.refl w.heap.size w
    rcases Bool.eq_false_or_eq_true (spaceL A) with hs | hs
    · have HS := Lib.hid (show spaceL sa.data.toList = true by rw [ea, hs])
      rcases Bool.eq_false_or_eq_true (localL B) with hf | hf
      · rw [if_pos ⟨hs, hf⟩] at hb
        rw [cutEnd_some hb, hsa, hsb]
        have HF := Lib.hid (show localL sb.data.toList = true by rw [eb, hf])
        clear hs hf hb ea eb hsa hsb hst
        go_enter Tryz.func29, Tryz.ntmps29
        go_wp2_with (first
          | (go_at_call 37; refine (Tryz.strings_CutPrefix s _ _).mono ?_; rintro e w' ⟨rfl, rfl⟩; rw [show (⟨#[123]⟩ : ByteArray).data.toList = [123] from rfl, HP.out, HT.out, HST.out])
          | (go_at_call 38; refine (scut_any _ _ (by omega)).mono ?_; rw [HL.out, HA.out]; rintro e w' ⟨rfl, n, rfl⟩; replace hbel := below_drewN hbel n)
          | (go_at_call 39; refine (space_any _ _ (by omega)).mono ?_; rintro e w' ⟨rfl, hb1⟩; rw [HS.out]; replace hbel := hbel.trans (hb1.mono hbel.size); clear hb1)
          | (go_at_call 40; refine (local_any _ _ (by omega)).mono ?_; rintro e w' ⟨rfl, rfl⟩; rw [HF.out])
          | (go_at_call 34; refine (clone_any _ _ (by omega)).mono ?_; rintro e w' ⟨rfl, hb1⟩; replace hbel := hbel.trans (hb1.mono hbel.size); clear hb1))
        go_ret3
        exact ⟨rfl, hbel⟩
      · rw [if_neg (by rw [hf]; simp)] at hb
        rw [cutEnd_none hb]
        have HF := Lib.hid (show localL sb.data.toList = false by rw [eb, hf])
        clear hs hf hb ea eb hsa hsb hst
        go_enter Tryz.func29, Tryz.ntmps29
        go_wp2_with (first
          | (go_at_call 37; refine (Tryz.strings_CutPrefix s _ _).mono ?_; rintro e w' ⟨rfl, rfl⟩; rw [show (⟨#[123]⟩ : ByteArray).data.toList = [123] from rfl, HP.out, HT.out, HST.out])
          | (go_at_call 38; refine (scut_any _ _ (by omega)).mono ?_; rw [HL.out, HA.out]; rintro e w' ⟨rfl, n, rfl⟩; replace hbel := below_drewN hbel n)
          | (go_at_call 39; refine (space_any _ _ (by omega)).mono ?_; rintro e w' ⟨rfl, hb1⟩; rw [HS.out]; replace hbel := hbel.trans (hb1.mono hbel.size); clear hb1)
          | (go_at_call 40; refine (local_any _ _ (by omega)).mono ?_; rintro e w' ⟨rfl, rfl⟩; rw [HF.out])
          | (go_at_call 34; refine (clone_any _ _ (by omega)).mono ?_; rintro e w' ⟨rfl, hb1⟩; replace hbel := hbel.trans (hb1.mono hbel.size); clear hb1))
        go_ret3
        exact ⟨rfl, hbel⟩
    · have HS := Lib.hid (show spaceL sa.data.toList = false by rw [ea, hs])
      rw [if_neg (by rw [hs]; simp)] at hb
      rw [cutEnd_none hb]
      have HF : True := trivial
      clear hs hb ea eb hsa hsb hst
      go_enter Tryz.func29, Tryz.ntmps29
      go_wp2_with (first
        | (go_at_call 37; refine (Tryz.strings_CutPrefix s _ _).mono ?_; rintro e w' ⟨rfl, rfl⟩; rw [show (⟨#[123]⟩ : ByteArray).data.toList = [123] from rfl, HP.out, HT.out, HST.out])
        | (go_at_call 38; refine (scut_any _ _ (by omega)).mono ?_; rw [HL.out, HA.out]; rintro e w' ⟨rfl, n, rfl⟩; replace hbel := below_drewN hbel n)
        | (go_at_call 39; refine (space_any _ _ (by omega)).mono ?_; rintro e w' ⟨rfl, hb1⟩; rw [HS.out]; replace hbel := hbel.trans (hb1.mono hbel.size); clear hb1))
      go_ret3
      exact ⟨rfl, hbel⟩
  · have hb := cutL_plain (l := s.data.toList) (by omega) hp
    have HP := Lib.hid hp
    have HT := Lib.hid (show Lib.trimPrefix s.data.toList [123] = s.data.toList by simp [Lib.trimPrefix, hp])
    have hbel := Below.refl w.heap.size w
    rcases Bool.eq_false_or_eq_true (localL s.data.toList) with hf | hf
    case' inl => rw [hf, if_pos rfl] at hb
    case' inl => rw [cutEnd_some hb]
    case' inr => rw [hf, if_neg (by simp)] at hb
    case' inr => rw [cutEnd_none hb]
    all_goals have HF := Lib.hid hf
    all_goals clear hf hb hp hl
    all_goals
      go_enter Tryz.func29, Tryz.ntmps29
      go_wp2_with (first
        | (go_at_call 37; refine (Tryz.strings_CutPrefix s _ _).mono ?_; rintro e w' ⟨rfl, rfl⟩; rw [show (⟨#[123]⟩ : ByteArray).data.toList = [123] from rfl, HP.out, HT.out, str_of])
        | (go_at_call 40; refine (local_any s _ hm).mono ?_; rintro e w' ⟨rfl, rfl⟩; rw [HF.out])
        | (go_at_call 34; refine (clone_any _ _ (by first | omega | (show (0 : Nat) ≤ _; omega))).mono ?_; rintro e w' ⟨rfl, hb1⟩; replace hbel := hbel.trans (hb1.mono hbel.size); clear hb1))
      go_ret3
      exact ⟨rfl, hbel⟩
end Go.Proofs.YtjepnddndpmnnaaGreatDoor

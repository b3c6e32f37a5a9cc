/-
  names: Cut and Join of the program.
-/
import Derived.Test.YtmnijjbhkbdojaaGreatDoorNamesB
namespace Go.Proofs.YtmnijjbhkbdojaaGreatDoor
open Go.RowKit Go.Maps
set_option maxRecDepth 100000

/-- A text cut at its first closing brace. -/
def cutAt (l : List UInt8) : List UInt8 × List UInt8 × Bool :=
  match l.dropWhile noEnd with
  | [] => (l, [], false)
  | _ :: b => (l.takeWhile noEnd, b, true)

theorem noEnd_iff (c : UInt8) : noEnd c = !(c == 125) := by
  unfold noEnd
  rw [Bool.eq_iff_iff]
  simp
  constructor
  · intro h hc; subst hc; exact h rfl
  · intro h hc; exact h (UInt8.toNat_inj.1 (by rw [show (125 : UInt8).toNat = 125 from rfl]; omega))

theorem index_none {l : List UInt8} (h : l.dropWhile noEnd = []) : Lib.indexByte l 125 = -1 := by
  induction l with
  | nil => rfl
  | cons c t ih =>
    rw [List.dropWhile_cons] at h
    split at h
    · rename_i hc
      have hc' : (c == 125) = false := by rw [noEnd_iff] at hc; simpa using hc
      simp only [Lib.indexByte, hc', ih h]
      rfl
    · cases h
theorem index_some {l b : List UInt8} {c : UInt8} (h : l.dropWhile noEnd = c :: b) : Lib.indexByte l 125 = ((l.takeWhile noEnd).length : Int) := by
  induction l with
  | nil => cases h
  | cons d t ih =>
    rw [List.dropWhile_cons] at h
    rw [List.takeWhile_cons]
    split at h
    · rename_i hc
      have hc' : (d == 125) = false := by rw [noEnd_iff] at hc; simpa using hc
      have e := ih h
      simp only [Lib.indexByte, hc', e]
      rw [if_neg (by simp), if_neg (by simp), if_pos hc]
      simp
    · rename_i hc
      have hc' : (d == 125) = true := by rw [noEnd_iff] at hc; simpa using hc
      simp only [Lib.indexByte, hc']
      rw [if_pos trivial, if_neg hc]
      rfl
theorem parts_len {l b : List UInt8} {c : UInt8} (h : l.dropWhile noEnd = c :: b) : (l.takeWhile noEnd).length + 1 + b.length = l.length := by
  have := congrArg List.length (List.takeWhile_append_dropWhile (p := noEnd) (l := l))
  rw [h, List.length_append, List.length_cons] at this
  omega
theorem parts_eq {l b : List UInt8} {c : UInt8} (h : l.dropWhile noEnd = c :: b) : l = l.takeWhile noEnd ++ c :: b := by rw [← h]; exact List.takeWhile_append_dropWhile.symm
theorem parts_take {l b : List UInt8} {c : UInt8} (h : l.dropWhile noEnd = c :: b) : l.take (l.takeWhile noEnd).length = l.takeWhile noEnd := by
  have e := parts_eq h
  generalize l.takeWhile noEnd = a at *
  subst e
  simp
theorem parts_drop {l b : List UInt8} {c : UInt8} (h : l.dropWhile noEnd = c :: b) : l.drop ((l.takeWhile noEnd).length + 1) = b := by
  have e := parts_eq h
  generalize l.takeWhile noEnd = a at *
  subst e
  rw [List.drop_append]
  simp

theorem index_any (s : ByteArray) (w : World) :
    Calls Tryz.prog 62 #[.string s, .string ⟨#[125]⟩] w fun e w' => e = .returned (.int .i64 (Lib.indexByte s.data.toList 125)) ∧ w = w' := by
  cases hE : ([125] == s.toList)
  · have hE2 : ¬ ([125] = s.toList) := by simpa using hE
    go_enter Tryz.func62, Tryz.ntmps62
    go_wp2_with (go_at_call 69; refine (Tryz.stringslite_IndexByte s _ _).mono ?_; rintro e w' ⟨rfl, rfl⟩)
    go_ret
    exact ⟨rfl, rfl⟩
  · have hE2 : [125] = s.toList := by simpa using hE
    have hI := Lib.hid (show Lib.indexByte s.data.toList 125 = 0 by rw [← Lib.toList_data, ← hE2]; rfl)
    clear hE2
    go_enter Tryz.func62, Tryz.ntmps62
    go_wp2_with (go_at_call 69; refine (Tryz.stringslite_IndexByte s _ _).mono ?_; rintro e w' ⟨rfl, rfl⟩)
    go_ret
    exact ⟨ret_int hI.out.symm, rfl⟩

def CutAtEnd (l : List UInt8) : Ending := .returned (.tuple #[.string ⟨(cutAt l).1.toArray⟩, .string ⟨(cutAt l).2.1.toArray⟩, .bool (cutAt l).2.2])
theorem str_of (s : ByteArray) : (⟨s.data.toList.toArray⟩ : ByteArray) = s := rfl

set_option maxHeartbeats 400000 in
theorem lcut_any (s : ByteArray) (w : World) (hm : s.size ≤ 140737488355328) :
    Calls Tryz.prog 49 #[.string s, .string ⟨#[125]⟩] w fun e w' => e = CutAtEnd s.data.toList ∧ ∃ n, w' = w.drewN n := by
  have hl : s.data.toList.length = s.size := by simp
  cases hd : s.data.toList.dropWhile noEnd with
  | nil =>
    have hi := Lib.hid (index_none hd)
    have hE : CutAtEnd s.data.toList = .returned (.tuple #[.string s, .string ⟨#[]⟩, .bool false]) := by
      unfold CutAtEnd cutAt
      rw [hd]
    rw [hE]
    clear hE hd hl
    go_enter Tryz.func49, Tryz.ntmps49
    go_wp2_with (go_at_call 62; refine (index_any s _).mono ?_; rintro e w' ⟨rfl, rfl⟩; rw [hi.out])
    go_ret3
    exact ⟨rfl, 0, rfl⟩
  | cons c b =>
    have hi := Lib.hid (index_some hd)
    have hlen := parts_len hd
    have hE : CutAtEnd s.data.toList = .returned (.tuple #[.string (s.extract 0 (s.data.toList.takeWhile noEnd).length), .string (s.extract ((s.data.toList.takeWhile noEnd).length + 1) s.size), .bool true]) := by
      have p1 : s.extract 0 (s.data.toList.takeWhile noEnd).length = ⟨(s.data.toList.takeWhile noEnd).toArray⟩ := by
        apply ByteArray.ext
        apply Array.toList_inj.1
        rw [show (s.extract 0 (s.data.toList.takeWhile noEnd).length).data.toList = s.data.toList.take (s.data.toList.takeWhile noEnd).length from by simp, parts_take hd]
      have p2 : s.extract ((s.data.toList.takeWhile noEnd).length + 1) s.size = ⟨b.toArray⟩ := by
        apply ByteArray.ext
        apply Array.toList_inj.1
        rw [show (s.extract ((s.data.toList.takeWhile noEnd).length + 1) s.size).data.toList = s.data.toList.drop ((s.data.toList.takeWhile noEnd).length + 1) from extract_all _ _, parts_drop hd]
      rw [p1, p2]
      unfold CutAtEnd cutAt
      rw [hd]
    rw [hE]
    clear hE
    generalize (s.data.toList.takeWhile noEnd).length = i at *
    have c1 : (0 : Int) ≤ ↑i := by omega
    have c2 : (↑i : Int) ≤ ↑s.size := by omega
    have c3 : (0 : Int) ≤ ↑i + 1 := by omega
    have c4 : (↑i + 1 : Int) ≤ ↑s.size := by omega
    clear hd hl hlen
    go_enter Tryz.func49, Tryz.ntmps49
    go_wp2_with (go_at_call 62; refine (index_any s _).mono ?_; rintro e w' ⟨rfl, rfl⟩; rw [hi.out])
    go_region
    go_wp2
    go_ret3
    exact ⟨rfl, 1, rfl⟩
end Go.Proofs.YtmnijjbhkbdojaaGreatDoor

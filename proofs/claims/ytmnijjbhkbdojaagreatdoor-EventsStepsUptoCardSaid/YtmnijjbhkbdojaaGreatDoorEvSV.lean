/-
  The reference's May, Right, At and own (hexaplaref05).
  The reference's Right (hexaplaref05): whether an event's Text and Val may be: the same answer.
  The reference's At (hexaplaref05): where one stands behind some events.
  The reference's own (hexaplaref05): what stands in a thing, not in others within it.
-/
import Derived.Test.YtmnijjbhkbdojaaGreatDoorEvPR
import Derived.Test.YtmnijjbhkbdojaaGreatDoorEvGM
import Derived.Test.YtmnijjbhkbdojaaGreatDoorSrcGH
import Derived.Test.YtmnijjbhkbdojaaGreatDoorNamesBG
import Derived.Test.YtmnijjbhkbdojaaGreatDoorNumV
namespace Go.Proofs.YtmnijjbhkbdojaaGreatDoor
open Go.RowKit
set_option maxRecDepth 100000

theorem rmay5_any (s : ByteArray) (w : World) (hs : s.size ≤ 1099511627776) :
    Calls Tryz.prog 23 #[.string s] w fun e w' => e = .returned (.bool (validL s.data.toList)) ∧ Below w.heap.size w w' := by
  have hl : s.data.toList.length = s.size := by simp
  obtain ⟨rs, hrs⟩ : ∃ b, (runesL s.data.toList).isSome = b := ⟨_, rfl⟩
  have HR := Lib.hid hrs
  by_cases h48 : s.size ≤ 48
  · have hV : validL s.data.toList = rs := by unfold validL; rw [hl, decide_eq_true h48, Bool.true_and, hrs]
    rw [hV]
    have h48i : decide ((s.size : Int) ≤ 48) = true := decide_eq_true (by omega)
    clear hl hV hrs h48
    cases rs
    all_goals
      go_enter Tryz.func23, Tryz.ntmps23
      go_wp2_with (first
        | (go_at_call 33; refine (valid_any s _ hs).mono ?_; rintro e w1 ⟨rfl, hb1⟩; rw [HR.out]))
      go_ret
      exact ⟨rfl, hb1⟩
  · have hV : validL s.data.toList = false := by unfold validL; rw [hl, decide_eq_false h48]; rfl
    rw [hV]
    have h48i : decide ((s.size : Int) ≤ 48) = false := decide_eq_false (by omega)
    clear hl hV hrs h48
    cases rs
    all_goals
      go_enter Tryz.func23, Tryz.ntmps23
      go_wp2_with (first
        | (go_at_call 33; refine (valid_any s _ hs).mono ?_; rintro e w1 ⟨rfl, hb1⟩; rw [HR.out]))
      go_ret
      exact ⟨rfl, hb1⟩

theorem rfull_any (s : ByteArray) (w : World) (hs : s.size ≤ 1099511627776) :
    Calls Tryz.prog 24 #[.string s] w fun e w' => e = .returned (.bool (fullL s.data.toList)) ∧ Below w.heap.size w w' := by
  obtain ⟨x, y, hE⟩ := cutEnd_ex s.data.toList
  have HE := Lib.hid hE
  generalize fullL s.data.toList = f at *
  clear hE
  go_enter Tryz.func24, Tryz.ntmps24
  go_wp2_with (first
    | (go_at_call 34; refine (rcut_any s _ (by omega)).mono ?_; rintro e w1 ⟨he, hb1⟩; rw [HE.out] at he; subst he))
  go_ret
  exact ⟨rfl, hb1⟩

theorem ris_any (s : ByteArray) (w : World) (hs : s.size ≤ 140737488355328) :
    Calls Tryz.prog 25 #[.string s] w fun e w' => e = .returned (.bool (normL s.data.toList)) ∧ Below w.heap.size w w' := by
  rw [read_norm]
  have hR := Nm.rnorm_any s w hs
  generalize Nm.readC s.data.toList = c at *
  generalize Nm.readS s.data.toList = f at *
  by_cases hc : c = 0
  · subst hc
    by_cases hf : f = s
    · subst hf
      simp only [decide_true, Bool.true_and]
      go_enter Tryz.func25, Tryz.ntmps25
      go_wp2_with (first
        | (go_at_call 35; refine hR.mono ?_; rintro e w1 ⟨rfl, hb1⟩))
      go_ret
      exact ⟨rfl, hb1⟩
    · obtain ⟨n1, n2⟩ := str_diff hf
      rw [decide_eq_false hf, Bool.and_false]
      clear hf
      go_enter Tryz.func25, Tryz.ntmps25
      go_wp2_with (first
        | (go_at_call 35; refine hR.mono ?_; rintro e w1 ⟨rfl, hb1⟩))
      go_ret
      exact ⟨rfl, hb1⟩
  · have d : (c == 0) = false := by rw [beq_eq_false_iff_ne]; exact hc
    rw [decide_eq_false hc, Bool.false_and]
    clear hc
    go_enter Tryz.func25, Tryz.ntmps25
    go_wp2_with (first
      | (go_at_call 35; refine hR.mono ?_; rintro e w1 ⟨rfl, hb1⟩))
    go_ret
    exact ⟨rfl, hb1⟩
end Go.Proofs.YtmnijjbhkbdojaaGreatDoor
namespace Go.Proofs.YtmnijjbhkbdojaaGreatDoor
open Go.RowKit
set_option maxRecDepth 100000

section
variable (x : Ev) (w : World)

set_option maxHeartbeats 4000000 in
theorem right_attr (h : x.k = 11) (hs : x.t.size ≤ 1099511627776) (hs2 : x.v.size ≤ 1099511627776) : Calls Tryz.prog 17 #[evV x] w (FPost x w) := by
  have hF : formedB x = (fullL x.t.data.toList && validL x.v.data.toList) := by rw [Bool.and_comm]; unfold formedB; rw [h, if_neg (by decide), if_neg (by decide), if_neg (by decide), if_neg (by decide), if_neg (by decide), if_pos rfl]
  unfold FPost evV
  rw [hF]
  clear hF
  obtain ⟨k, t, v⟩ := x
  simp only at h hs hs2 ⊢
  subst h
  obtain ⟨ft, hft⟩ : ∃ b, fullL t.data.toList = b := ⟨_, rfl⟩
  obtain ⟨vb, hvb⟩ : ∃ b, validL v.data.toList = b := ⟨_, rfl⟩
  rw [hft, hvb]
  have HF := Lib.hid hft
  have HV := Lib.hid hvb
  clear hft hvb
  cases ft
  all_goals
    have hX := EvAt.new w (⟨11, t, v⟩ : Ev)
    have hbel := (Below.refl w.heap.size w).alloc (Nat.le_refl _) (.cells #[.int .i64 11, .string t, .string v] 28)
    have y1 := hX.c1
    simp only at hX y1
    go_enter Tryz.func17, Tryz.ntmps17
    go_wp2_with fail
    refine (rmay5_any t _ (by first | exact hs | decide)).mono ?_
    rintro e w1 ⟨rfl, hb1⟩
    replace hX := hX.below hb1
    replace hbel := hbel.trans (hb1.mono hbel.size)
    have y2 := hX.c2
    simp only at y2
    generalize validL t.data.toList = va at *
    go_wp2_with fail
    refine (rmay5_any v _ (by first | exact hs2 | decide)).mono ?_
    rintro e w2 ⟨rfl, hb2⟩
    rw [HV.out]
    replace hX := hX.below hb2
    replace hbel := hbel.trans (hb2.mono hbel.size)
    have z0 := hX.c0
    have z1 := hX.c1
    have z2 := hX.c2
    simp only at z0 z1 z2
    clear y1 y2
    go_wp2_with (first
      | (go_at_call 24; refine (rfull_any t _ hs).mono ?_; rintro e w3 ⟨rfl, hb3⟩; rw [HF.out]; replace hbel := hbel.trans (hb3.mono hbel.size)))
    go_ret
    exact ⟨rfl, hbel⟩

set_option maxHeartbeats 4000000 in
theorem right_val (h : x.k ≠ 11) (hv : ¬ x.v.size = 0) (hs : x.t.size ≤ 1099511627776) (hs2 : x.v.size ≤ 1099511627776) : Calls Tryz.prog 17 #[evV x] w (FPost x w) := by
  have hF : formedB x = false := by
    unfold formedB
    rw [emptyT_no hv]
    simp only [Bool.and_false, Bool.false_and]
    repeat' split
    all_goals first | rfl | (exact absurd (by assumption) h)
  unfold FPost evV
  rw [hF]
  clear hF
  obtain ⟨k, t, v⟩ := x
  simp only at h hv hs hs2 ⊢
  have d11 := ne_beq h
  have n1 := str_ne hv
  have n2 := str_ne2 hv
  clear h hv
  have hX := EvAt.new w (⟨k, t, v⟩ : Ev)
  have hbel := (Below.refl w.heap.size w).alloc (Nat.le_refl _) (.cells #[.int .i64 k, .string t, .string v] 28)
  have y1 := hX.c1
  simp only at hX y1
  go_enter Tryz.func17, Tryz.ntmps17
  go_wp2_with fail
  refine (rmay5_any t _ (by first | exact hs | decide)).mono ?_
  rintro e w1 ⟨rfl, hb1⟩
  replace hX := hX.below hb1
  replace hbel := hbel.trans (hb1.mono hbel.size)
  have y2 := hX.c2
  simp only at y2
  generalize validL t.data.toList = va at *
  go_wp2_with fail
  refine (rmay5_any v _ (by first | exact hs2 | decide)).mono ?_
  rintro e w2 ⟨rfl, hb2⟩
  replace hX := hX.below hb2
  replace hbel := hbel.trans (hb2.mono hbel.size)
  have z0 := hX.c0
  have z1 := hX.c1
  have z2 := hX.c2
  simp only at z0 z1 z2
  clear y1 y2
  go_wp2_with fail
  go_ret
  exact ⟨rfl, hbel⟩

set_option maxHeartbeats 8000000 in
theorem right_bare (h : bareK x.k = true) (hv : x.v.size = 0) (hs : x.t.size ≤ 1099511627776) : Calls Tryz.prog 17 #[evV x] w (FPost x w) := by
  have hF : formedB x = (emptyT x.t && emptyT x.v) := by unfold formedB; rw [if_pos h]
  unfold FPost evV
  rw [hF]
  clear hF
  obtain ⟨k, t, v⟩ := x
  simp only at h hv hs ⊢
  obtain rfl := str_nil hv
  rw [emptyT_nil, Bool.and_true]
  unfold bareK at h
  rw [decide_eq_true_iff] at h
  have hs2 : (⟨#[]⟩ : ByteArray).size ≤ 1099511627776 := by decide
  by_cases ht : t.size = 0
  · obtain rfl := str_nil ht
    rw [emptyT_nil]
    rcases h with rfl | rfl | rfl | rfl | rfl | rfl
    · have hX := EvAt.new w (⟨1, ⟨#[]⟩, ⟨#[]⟩⟩ : Ev)
      have hbel := (Below.refl w.heap.size w).alloc (Nat.le_refl _) (.cells #[.int .i64 1, .string ⟨#[]⟩, .string ⟨#[]⟩] 28)
      have y1 := hX.c1
      simp only at hX y1
      go_enter Tryz.func17, Tryz.ntmps17
      go_wp2_with fail
      refine (rmay5_any ⟨#[]⟩ _ (by first | exact hs | decide)).mono ?_
      rintro e w1 ⟨rfl, hb1⟩
      replace hX := hX.below hb1
      replace hbel := hbel.trans (hb1.mono hbel.size)
      have y2 := hX.c2
      simp only at y2
      generalize validL (⟨#[]⟩ : ByteArray).data.toList = va at *
      go_wp2_with fail
      refine (rmay5_any ⟨#[]⟩ _ (by first | exact hs2 | decide)).mono ?_
      rintro e w2 ⟨rfl, hb2⟩
      replace hX := hX.below hb2
      replace hbel := hbel.trans (hb2.mono hbel.size)
      have z0 := hX.c0
      have z1 := hX.c1
      have z2 := hX.c2
      simp only at z0 z1 z2
      clear y1 y2
      go_wp2_with fail
      go_ret
      exact ⟨rfl, hbel⟩
    · have hX := EvAt.new w (⟨5, ⟨#[]⟩, ⟨#[]⟩⟩ : Ev)
      have hbel := (Below.refl w.heap.size w).alloc (Nat.le_refl _) (.cells #[.int .i64 5, .string ⟨#[]⟩, .string ⟨#[]⟩] 28)
      have y1 := hX.c1
      simp only at hX y1
      go_enter Tryz.func17, Tryz.ntmps17
      go_wp2_with fail
      refine (rmay5_any ⟨#[]⟩ _ (by first | exact hs | decide)).mono ?_
      rintro e w1 ⟨rfl, hb1⟩
      replace hX := hX.below hb1
      replace hbel := hbel.trans (hb1.mono hbel.size)
      have y2 := hX.c2
      simp only at y2
      generalize validL (⟨#[]⟩ : ByteArray).data.toList = va at *
      go_wp2_with fail
      refine (rmay5_any ⟨#[]⟩ _ (by first | exact hs2 | decide)).mono ?_
      rintro e w2 ⟨rfl, hb2⟩
      replace hX := hX.below hb2
      replace hbel := hbel.trans (hb2.mono hbel.size)
      have z0 := hX.c0
      have z1 := hX.c1
      have z2 := hX.c2
      simp only at z0 z1 z2
      clear y1 y2
      go_wp2_with fail
      go_ret
      exact ⟨rfl, hbel⟩
    · have hX := EvAt.new w (⟨6, ⟨#[]⟩, ⟨#[]⟩⟩ : Ev)
      have hbel := (Below.refl w.heap.size w).alloc (Nat.le_refl _) (.cells #[.int .i64 6, .string ⟨#[]⟩, .string ⟨#[]⟩] 28)
      have y1 := hX.c1
      simp only at hX y1
      go_enter Tryz.func17, Tryz.ntmps17
      go_wp2_with fail
      refine (rmay5_any ⟨#[]⟩ _ (by first | exact hs | decide)).mono ?_
      rintro e w1 ⟨rfl, hb1⟩
      replace hX := hX.below hb1
      replace hbel := hbel.trans (hb1.mono hbel.size)
      have y2 := hX.c2
      simp only at y2
      generalize validL (⟨#[]⟩ : ByteArray).data.toList = va at *
      go_wp2_with fail
      refine (rmay5_any ⟨#[]⟩ _ (by first | exact hs2 | decide)).mono ?_
      rintro e w2 ⟨rfl, hb2⟩
      replace hX := hX.below hb2
      replace hbel := hbel.trans (hb2.mono hbel.size)
      have z0 := hX.c0
      have z1 := hX.c1
      have z2 := hX.c2
      simp only at z0 z1 z2
      clear y1 y2
      go_wp2_with fail
      go_ret
      exact ⟨rfl, hbel⟩
    · have hX := EvAt.new w (⟨7, ⟨#[]⟩, ⟨#[]⟩⟩ : Ev)
      have hbel := (Below.refl w.heap.size w).alloc (Nat.le_refl _) (.cells #[.int .i64 7, .string ⟨#[]⟩, .string ⟨#[]⟩] 28)
      have y1 := hX.c1
      simp only at hX y1
      go_enter Tryz.func17, Tryz.ntmps17
      go_wp2_with fail
      refine (rmay5_any ⟨#[]⟩ _ (by first | exact hs | decide)).mono ?_
      rintro e w1 ⟨rfl, hb1⟩
      replace hX := hX.below hb1
      replace hbel := hbel.trans (hb1.mono hbel.size)
      have y2 := hX.c2
      simp only at y2
      generalize validL (⟨#[]⟩ : ByteArray).data.toList = va at *
      go_wp2_with fail
      refine (rmay5_any ⟨#[]⟩ _ (by first | exact hs2 | decide)).mono ?_
      rintro e w2 ⟨rfl, hb2⟩
      replace hX := hX.below hb2
      replace hbel := hbel.trans (hb2.mono hbel.size)
      have z0 := hX.c0
      have z1 := hX.c1
      have z2 := hX.c2
      simp only at z0 z1 z2
      clear y1 y2
      go_wp2_with fail
      go_ret
      exact ⟨rfl, hbel⟩
    · have hX := EvAt.new w (⟨9, ⟨#[]⟩, ⟨#[]⟩⟩ : Ev)
      have hbel := (Below.refl w.heap.size w).alloc (Nat.le_refl _) (.cells #[.int .i64 9, .string ⟨#[]⟩, .string ⟨#[]⟩] 28)
      have y1 := hX.c1
      simp only at hX y1
      go_enter Tryz.func17, Tryz.ntmps17
      go_wp2_with fail
      refine (rmay5_any ⟨#[]⟩ _ (by first | exact hs | decide)).mono ?_
      rintro e w1 ⟨rfl, hb1⟩
      replace hX := hX.below hb1
      replace hbel := hbel.trans (hb1.mono hbel.size)
      have y2 := hX.c2
      simp only at y2
      generalize validL (⟨#[]⟩ : ByteArray).data.toList = va at *
      go_wp2_with fail
      refine (rmay5_any ⟨#[]⟩ _ (by first | exact hs2 | decide)).mono ?_
      rintro e w2 ⟨rfl, hb2⟩
      replace hX := hX.below hb2
      replace hbel := hbel.trans (hb2.mono hbel.size)
      have z0 := hX.c0
      have z1 := hX.c1
      have z2 := hX.c2
      simp only at z0 z1 z2
      clear y1 y2
      go_wp2_with fail
      go_ret
      exact ⟨rfl, hbel⟩
    · have hX := EvAt.new w (⟨12, ⟨#[]⟩, ⟨#[]⟩⟩ : Ev)
      have hbel := (Below.refl w.heap.size w).alloc (Nat.le_refl _) (.cells #[.int .i64 12, .string ⟨#[]⟩, .string ⟨#[]⟩] 28)
      have y1 := hX.c1
      simp only at hX y1
      go_enter Tryz.func17, Tryz.ntmps17
      go_wp2_with fail
      refine (rmay5_any ⟨#[]⟩ _ (by first | exact hs | decide)).mono ?_
      rintro e w1 ⟨rfl, hb1⟩
      replace hX := hX.below hb1
      replace hbel := hbel.trans (hb1.mono hbel.size)
      have y2 := hX.c2
      simp only at y2
      generalize validL (⟨#[]⟩ : ByteArray).data.toList = va at *
      go_wp2_with fail
      refine (rmay5_any ⟨#[]⟩ _ (by first | exact hs2 | decide)).mono ?_
      rintro e w2 ⟨rfl, hb2⟩
      replace hX := hX.below hb2
      replace hbel := hbel.trans (hb2.mono hbel.size)
      have z0 := hX.c0
      have z1 := hX.c1
      have z2 := hX.c2
      simp only at z0 z1 z2
      clear y1 y2
      go_wp2_with fail
      go_ret
      exact ⟨rfl, hbel⟩
  · have n1 := str_ne ht
    have n2 := str_ne2 ht
    rw [emptyT_no ht]
    clear ht
    rcases h with rfl | rfl | rfl | rfl | rfl | rfl
    · have hX := EvAt.new w (⟨1, t, ⟨#[]⟩⟩ : Ev)
      have hbel := (Below.refl w.heap.size w).alloc (Nat.le_refl _) (.cells #[.int .i64 1, .string t, .string ⟨#[]⟩] 28)
      have y1 := hX.c1
      simp only at hX y1
      go_enter Tryz.func17, Tryz.ntmps17
      go_wp2_with fail
      refine (rmay5_any t _ (by first | exact hs | decide)).mono ?_
      rintro e w1 ⟨rfl, hb1⟩
      replace hX := hX.below hb1
      replace hbel := hbel.trans (hb1.mono hbel.size)
      have y2 := hX.c2
      simp only at y2
      generalize validL t.data.toList = va at *
      go_wp2_with fail
      refine (rmay5_any ⟨#[]⟩ _ (by first | exact hs2 | decide)).mono ?_
      rintro e w2 ⟨rfl, hb2⟩
      replace hX := hX.below hb2
      replace hbel := hbel.trans (hb2.mono hbel.size)
      have z0 := hX.c0
      have z1 := hX.c1
      have z2 := hX.c2
      simp only at z0 z1 z2
      clear y1 y2
      go_wp2_with fail
      go_ret
      exact ⟨rfl, hbel⟩
    · have hX := EvAt.new w (⟨5, t, ⟨#[]⟩⟩ : Ev)
      have hbel := (Below.refl w.heap.size w).alloc (Nat.le_refl _) (.cells #[.int .i64 5, .string t, .string ⟨#[]⟩] 28)
      have y1 := hX.c1
      simp only at hX y1
      go_enter Tryz.func17, Tryz.ntmps17
      go_wp2_with fail
      refine (rmay5_any t _ (by first | exact hs | decide)).mono ?_
      rintro e w1 ⟨rfl, hb1⟩
      replace hX := hX.below hb1
      replace hbel := hbel.trans (hb1.mono hbel.size)
      have y2 := hX.c2
      simp only at y2
      generalize validL t.data.toList = va at *
      go_wp2_with fail
      refine (rmay5_any ⟨#[]⟩ _ (by first | exact hs2 | decide)).mono ?_
      rintro e w2 ⟨rfl, hb2⟩
      replace hX := hX.below hb2
      replace hbel := hbel.trans (hb2.mono hbel.size)
      have z0 := hX.c0
      have z1 := hX.c1
      have z2 := hX.c2
      simp only at z0 z1 z2
      clear y1 y2
      go_wp2_with fail
      go_ret
      exact ⟨rfl, hbel⟩
    · have hX := EvAt.new w (⟨6, t, ⟨#[]⟩⟩ : Ev)
      have hbel := (Below.refl w.heap.size w).alloc (Nat.le_refl _) (.cells #[.int .i64 6, .string t, .string ⟨#[]⟩] 28)
      have y1 := hX.c1
      simp only at hX y1
      go_enter Tryz.func17, Tryz.ntmps17
      go_wp2_with fail
      refine (rmay5_any t _ (by first | exact hs | decide)).mono ?_
      rintro e w1 ⟨rfl, hb1⟩
      replace hX := hX.below hb1
      replace hbel := hbel.trans (hb1.mono hbel.size)
      have y2 := hX.c2
      simp only at y2
      generalize validL t.data.toList = va at *
      go_wp2_with fail
      refine (rmay5_any ⟨#[]⟩ _ (by first | exact hs2 | decide)).mono ?_
      rintro e w2 ⟨rfl, hb2⟩
      replace hX := hX.below hb2
      replace hbel := hbel.trans (hb2.mono hbel.size)
      have z0 := hX.c0
      have z1 := hX.c1
      have z2 := hX.c2
      simp only at z0 z1 z2
      clear y1 y2
      go_wp2_with fail
      go_ret
      exact ⟨rfl, hbel⟩
    · have hX := EvAt.new w (⟨7, t, ⟨#[]⟩⟩ : Ev)
      have hbel := (Below.refl w.heap.size w).alloc (Nat.le_refl _) (.cells #[.int .i64 7, .string t, .string ⟨#[]⟩] 28)
      have y1 := hX.c1
      simp only at hX y1
      go_enter Tryz.func17, Tryz.ntmps17
      go_wp2_with fail
      refine (rmay5_any t _ (by first | exact hs | decide)).mono ?_
      rintro e w1 ⟨rfl, hb1⟩
      replace hX := hX.below hb1
      replace hbel := hbel.trans (hb1.mono hbel.size)
      have y2 := hX.c2
      simp only at y2
      generalize validL t.data.toList = va at *
      go_wp2_with fail
      refine (rmay5_any ⟨#[]⟩ _ (by first | exact hs2 | decide)).mono ?_
      rintro e w2 ⟨rfl, hb2⟩
      replace hX := hX.below hb2
      replace hbel := hbel.trans (hb2.mono hbel.size)
      have z0 := hX.c0
      have z1 := hX.c1
      have z2 := hX.c2
      simp only at z0 z1 z2
      clear y1 y2
      go_wp2_with fail
      go_ret
      exact ⟨rfl, hbel⟩
    · have hX := EvAt.new w (⟨9, t, ⟨#[]⟩⟩ : Ev)
      have hbel := (Below.refl w.heap.size w).alloc (Nat.le_refl _) (.cells #[.int .i64 9, .string t, .string ⟨#[]⟩] 28)
      have y1 := hX.c1
      simp only at hX y1
      go_enter Tryz.func17, Tryz.ntmps17
      go_wp2_with fail
      refine (rmay5_any t _ (by first | exact hs | decide)).mono ?_
      rintro e w1 ⟨rfl, hb1⟩
      replace hX := hX.below hb1
      replace hbel := hbel.trans (hb1.mono hbel.size)
      have y2 := hX.c2
      simp only at y2
      generalize validL t.data.toList = va at *
      go_wp2_with fail
      refine (rmay5_any ⟨#[]⟩ _ (by first | exact hs2 | decide)).mono ?_
      rintro e w2 ⟨rfl, hb2⟩
      replace hX := hX.below hb2
      replace hbel := hbel.trans (hb2.mono hbel.size)
      have z0 := hX.c0
      have z1 := hX.c1
      have z2 := hX.c2
      simp only at z0 z1 z2
      clear y1 y2
      go_wp2_with fail
      go_ret
      exact ⟨rfl, hbel⟩
    · have hX := EvAt.new w (⟨12, t, ⟨#[]⟩⟩ : Ev)
      have hbel := (Below.refl w.heap.size w).alloc (Nat.le_refl _) (.cells #[.int .i64 12, .string t, .string ⟨#[]⟩] 28)
      have y1 := hX.c1
      simp only at hX y1
      go_enter Tryz.func17, Tryz.ntmps17
      go_wp2_with fail
      refine (rmay5_any t _ (by first | exact hs | decide)).mono ?_
      rintro e w1 ⟨rfl, hb1⟩
      replace hX := hX.below hb1
      replace hbel := hbel.trans (hb1.mono hbel.size)
      have y2 := hX.c2
      simp only at y2
      generalize validL t.data.toList = va at *
      go_wp2_with fail
      refine (rmay5_any ⟨#[]⟩ _ (by first | exact hs2 | decide)).mono ?_
      rintro e w2 ⟨rfl, hb2⟩
      replace hX := hX.below hb2
      replace hbel := hbel.trans (hb2.mono hbel.size)
      have z0 := hX.c0
      have z1 := hX.c1
      have z2 := hX.c2
      simp only at z0 z1 z2
      clear y1 y2
      go_wp2_with fail
      go_ret
      exact ⟨rfl, hbel⟩

set_option maxHeartbeats 8000000 in
theorem right_bool (h : x.k = 2) (hv : x.v.size = 0) (hs : x.t.size ≤ 1099511627776) : Calls Tryz.prog 17 #[evV x] w (FPost x w) := by
  have hF : formedB x = (emptyT x.v && boolL x.t.data.toList) := by unfold formedB; rw [h, if_neg (by decide), if_pos rfl]
  unfold FPost evV
  rw [hF]
  clear hF
  obtain ⟨k, t, v⟩ := x
  simp only at h hv hs ⊢
  obtain rfl := str_nil hv
  subst h
  rw [emptyT_nil, Bool.true_and]
  have hs2 : (⟨#[]⟩ : ByteArray).size ≤ 1099511627776 := by decide
  by_cases h1 : t = ⟨#[116, 114, 117, 101]⟩
  · subst h1
    have hX := EvAt.new w (⟨2, ⟨#[116, 114, 117, 101]⟩, ⟨#[]⟩⟩ : Ev)
    have hbel := (Below.refl w.heap.size w).alloc (Nat.le_refl _) (.cells #[.int .i64 2, .string ⟨#[116, 114, 117, 101]⟩, .string ⟨#[]⟩] 28)
    have y1 := hX.c1
    simp only at hX y1
    go_enter Tryz.func17, Tryz.ntmps17
    go_wp2_with fail
    refine (rmay5_any ⟨#[116, 114, 117, 101]⟩ _ (by first | exact hs | decide)).mono ?_
    rintro e w1 ⟨rfl, hb1⟩
    replace hX := hX.below hb1
    replace hbel := hbel.trans (hb1.mono hbel.size)
    have y2 := hX.c2
    simp only at y2
    generalize validL (⟨#[116, 114, 117, 101]⟩ : ByteArray).data.toList = va at *
    go_wp2_with fail
    refine (rmay5_any ⟨#[]⟩ _ (by first | exact hs2 | decide)).mono ?_
    rintro e w2 ⟨rfl, hb2⟩
    replace hX := hX.below hb2
    replace hbel := hbel.trans (hb2.mono hbel.size)
    have z0 := hX.c0
    have z1 := hX.c1
    have z2 := hX.c2
    simp only at z0 z1 z2
    clear y1 y2
    go_wp2_with fail
    go_ret
    exact ⟨rfl, hbel⟩
  · by_cases h2 : t = ⟨#[102, 97, 108, 115, 101]⟩
    · subst h2
      have hX := EvAt.new w (⟨2, ⟨#[102, 97, 108, 115, 101]⟩, ⟨#[]⟩⟩ : Ev)
      have hbel := (Below.refl w.heap.size w).alloc (Nat.le_refl _) (.cells #[.int .i64 2, .string ⟨#[102, 97, 108, 115, 101]⟩, .string ⟨#[]⟩] 28)
      have y1 := hX.c1
      simp only at hX y1
      go_enter Tryz.func17, Tryz.ntmps17
      go_wp2_with fail
      refine (rmay5_any ⟨#[102, 97, 108, 115, 101]⟩ _ (by first | exact hs | decide)).mono ?_
      rintro e w1 ⟨rfl, hb1⟩
      replace hX := hX.below hb1
      replace hbel := hbel.trans (hb1.mono hbel.size)
      have y2 := hX.c2
      simp only at y2
      generalize validL (⟨#[102, 97, 108, 115, 101]⟩ : ByteArray).data.toList = va at *
      go_wp2_with fail
      refine (rmay5_any ⟨#[]⟩ _ (by first | exact hs2 | decide)).mono ?_
      rintro e w2 ⟨rfl, hb2⟩
      replace hX := hX.below hb2
      replace hbel := hbel.trans (hb2.mono hbel.size)
      have z0 := hX.c0
      have z1 := hX.c1
      have z2 := hX.c2
      simp only at z0 z1 z2
      clear y1 y2
      go_wp2_with fail
      go_ret
      exact ⟨rfl, hbel⟩
    · have e1 : boolL t.data.toList = false := by
        unfold boolL
        rw [decide_eq_false (fun e => h1 (ByteArray.ext (by have := congrArg List.toArray e; simpa using this))), decide_eq_false (fun e => h2 (ByteArray.ext (by have := congrArg List.toArray e; simpa using this)))]
        rfl
      rw [e1]
      obtain ⟨m1, m2⟩ := str_diff h1
      obtain ⟨m3, m4⟩ := str_diff h2
      simp at m2 m4
      have m5 : (t.toList == [116, 114, 117, 101]) = false := by simpa using m2
      have m6 : (t.toList == [102, 97, 108, 115, 101]) = false := by simpa using m4
      clear h1 h2 e1 m1 m3
      have hX := EvAt.new w (⟨2, t, ⟨#[]⟩⟩ : Ev)
      have hbel := (Below.refl w.heap.size w).alloc (Nat.le_refl _) (.cells #[.int .i64 2, .string t, .string ⟨#[]⟩] 28)
      have y1 := hX.c1
      simp only at hX y1
      go_enter Tryz.func17, Tryz.ntmps17
      go_wp2_with fail
      refine (rmay5_any t _ (by first | exact hs | decide)).mono ?_
      rintro e w1 ⟨rfl, hb1⟩
      replace hX := hX.below hb1
      replace hbel := hbel.trans (hb1.mono hbel.size)
      have y2 := hX.c2
      simp only at y2
      generalize validL t.data.toList = va at *
      go_wp2_with fail
      refine (rmay5_any ⟨#[]⟩ _ (by first | exact hs2 | decide)).mono ?_
      rintro e w2 ⟨rfl, hb2⟩
      replace hX := hX.below hb2
      replace hbel := hbel.trans (hb2.mono hbel.size)
      have z0 := hX.c0
      have z1 := hX.c1
      have z2 := hX.c2
      simp only at z0 z1 z2
      clear y1 y2
      go_wp2_with fail
      go_ret
      exact ⟨rfl, hbel⟩

set_option maxHeartbeats 4000000 in
theorem right_num (h : x.k = 3) (hv : x.v.size = 0) (hs : x.t.size ≤ 1099511627776) : Calls Tryz.prog 17 #[evV x] w (FPost x w) := by
  have hF : formedB x = (emptyT x.v && normL x.t.data.toList) := by unfold formedB; rw [h, if_neg (by decide), if_neg (by decide), if_pos rfl]
  unfold FPost evV
  rw [hF]
  clear hF
  obtain ⟨k, t, v⟩ := x
  simp only at h hv hs ⊢
  obtain rfl := str_nil hv
  subst h
  rw [emptyT_nil, Bool.true_and]
  have hs2 : (⟨#[]⟩ : ByteArray).size ≤ 1099511627776 := by decide
  have hX := EvAt.new w (⟨3, t, ⟨#[]⟩⟩ : Ev)
  have hbel := (Below.refl w.heap.size w).alloc (Nat.le_refl _) (.cells #[.int .i64 3, .string t, .string ⟨#[]⟩] 28)
  have y1 := hX.c1
  simp only at hX y1
  go_enter Tryz.func17, Tryz.ntmps17
  go_wp2_with fail
  refine (rmay5_any t _ (by first | exact hs | decide)).mono ?_
  rintro e w1 ⟨rfl, hb1⟩
  replace hX := hX.below hb1
  replace hbel := hbel.trans (hb1.mono hbel.size)
  have y2 := hX.c2
  simp only at y2
  generalize validL t.data.toList = va at *
  go_wp2_with fail
  refine (rmay5_any ⟨#[]⟩ _ (by first | exact hs2 | decide)).mono ?_
  rintro e w2 ⟨rfl, hb2⟩
  replace hX := hX.below hb2
  replace hbel := hbel.trans (hb2.mono hbel.size)
  have z0 := hX.c0
  have z1 := hX.c1
  have z2 := hX.c2
  simp only at z0 z1 z2
  clear y1 y2
  go_wp2_with (first
    | (go_at_call 25; refine (ris_any t _ (by omega)).mono ?_; rintro e w3 ⟨rfl, hb3⟩; replace hbel := hbel.trans (hb3.mono hbel.size)))
  go_ret
  exact ⟨rfl, hbel⟩

set_option maxHeartbeats 4000000 in
theorem right_elem (h : x.k = 10) (hv : x.v.size = 0) (hs : x.t.size ≤ 1099511627776) : Calls Tryz.prog 17 #[evV x] w (FPost x w) := by
  have hF : formedB x = (emptyT x.v && fullL x.t.data.toList) := by unfold formedB; rw [h, if_neg (by decide), if_neg (by decide), if_neg (by decide), if_neg (by decide), if_pos rfl]
  unfold FPost evV
  rw [hF]
  clear hF
  obtain ⟨k, t, v⟩ := x
  simp only at h hv hs ⊢
  obtain rfl := str_nil hv
  subst h
  rw [emptyT_nil, Bool.true_and]
  have hs2 : (⟨#[]⟩ : ByteArray).size ≤ 1099511627776 := by decide
  have hX := EvAt.new w (⟨10, t, ⟨#[]⟩⟩ : Ev)
  have hbel := (Below.refl w.heap.size w).alloc (Nat.le_refl _) (.cells #[.int .i64 10, .string t, .string ⟨#[]⟩] 28)
  have y1 := hX.c1
  simp only at hX y1
  go_enter Tryz.func17, Tryz.ntmps17
  go_wp2_with fail
  refine (rmay5_any t _ (by first | exact hs | decide)).mono ?_
  rintro e w1 ⟨rfl, hb1⟩
  replace hX := hX.below hb1
  replace hbel := hbel.trans (hb1.mono hbel.size)
  have y2 := hX.c2
  simp only at y2
  generalize validL t.data.toList = va at *
  go_wp2_with fail
  refine (rmay5_any ⟨#[]⟩ _ (by first | exact hs2 | decide)).mono ?_
  rintro e w2 ⟨rfl, hb2⟩
  replace hX := hX.below hb2
  replace hbel := hbel.trans (hb2.mono hbel.size)
  have z0 := hX.c0
  have z1 := hX.c1
  have z2 := hX.c2
  simp only at z0 z1 z2
  clear y1 y2
  go_wp2_with (first
    | (go_at_call 24; refine (rfull_any t _ hs).mono ?_; rintro e w3 ⟨rfl, hb3⟩; replace hbel := hbel.trans (hb3.mono hbel.size)))
  go_ret
  exact ⟨rfl, hbel⟩

set_option maxHeartbeats 4000000 in
theorem right_text (h : x.k = 4 ∨ x.k = 8) (hv : x.v.size = 0) (hs : x.t.size ≤ 1099511627776) : Calls Tryz.prog 17 #[evV x] w (FPost x w) := by
  have hF : formedB x = (emptyT x.v && validL x.t.data.toList) := by
    unfold formedB
    rw [if_neg (by unfold bareK; rw [decide_eq_true_iff]; omega), if_neg (by omega), if_neg (by omega), if_pos h]
  unfold FPost evV
  rw [hF]
  clear hF
  obtain ⟨k, t, v⟩ := x
  simp only at h hv hs ⊢
  obtain rfl := str_nil hv
  rw [emptyT_nil, Bool.true_and]
  have hs2 : (⟨#[]⟩ : ByteArray).size ≤ 1099511627776 := by decide
  obtain ⟨va, hva⟩ : ∃ b, validL t.data.toList = b := ⟨_, rfl⟩
  rw [hva]
  have HV := Lib.hid hva
  clear hva
  rcases h with rfl | rfl
  · have hX := EvAt.new w (⟨4, t, ⟨#[]⟩⟩ : Ev)
    have hbel := (Below.refl w.heap.size w).alloc (Nat.le_refl _) (.cells #[.int .i64 4, .string t, .string ⟨#[]⟩] 28)
    have y1 := hX.c1
    simp only at hX y1
    go_enter Tryz.func17, Tryz.ntmps17
    go_wp2_with fail
    refine (rmay5_any t _ (by first | exact hs | decide)).mono ?_
    rintro e w1 ⟨rfl, hb1⟩
    replace hX := hX.below hb1
    replace hbel := hbel.trans (hb1.mono hbel.size)
    have y2 := hX.c2
    simp only at y2
    rw [HV.out]
    go_wp2_with fail
    refine (rmay5_any ⟨#[]⟩ _ (by first | exact hs2 | decide)).mono ?_
    rintro e w2 ⟨rfl, hb2⟩
    replace hX := hX.below hb2
    replace hbel := hbel.trans (hb2.mono hbel.size)
    have z0 := hX.c0
    have z1 := hX.c1
    have z2 := hX.c2
    simp only at z0 z1 z2
    clear y1 y2
    go_wp2_with fail
    go_ret
    exact ⟨rfl, hbel⟩
  · have hX := EvAt.new w (⟨8, t, ⟨#[]⟩⟩ : Ev)
    have hbel := (Below.refl w.heap.size w).alloc (Nat.le_refl _) (.cells #[.int .i64 8, .string t, .string ⟨#[]⟩] 28)
    have y1 := hX.c1
    simp only at hX y1
    go_enter Tryz.func17, Tryz.ntmps17
    go_wp2_with fail
    refine (rmay5_any t _ (by first | exact hs | decide)).mono ?_
    rintro e w1 ⟨rfl, hb1⟩
    replace hX := hX.below hb1
    replace hbel := hbel.trans (hb1.mono hbel.size)
    have y2 := hX.c2
    simp only at y2
    rw [HV.out]
    go_wp2_with fail
    refine (rmay5_any ⟨#[]⟩ _ (by first | exact hs2 | decide)).mono ?_
    rintro e w2 ⟨rfl, hb2⟩
    replace hX := hX.below hb2
    replace hbel := hbel.trans (hb2.mono hbel.size)
    have z0 := hX.c0
    have z1 := hX.c1
    have z2 := hX.c2
    simp only at z0 z1 z2
    clear y1 y2
    go_wp2_with fail
    go_ret
    exact ⟨rfl, hbel⟩

set_option maxHeartbeats 4000000 in
theorem right_other (h : bareK x.k = false ∧ x.k ≠ 2 ∧ x.k ≠ 3 ∧ x.k ≠ 4 ∧ x.k ≠ 8 ∧ x.k ≠ 10 ∧ x.k ≠ 11) (hv : x.v.size = 0) (hs : x.t.size ≤ 1099511627776) : Calls Tryz.prog 17 #[evV x] w (FPost x w) := by
  obtain ⟨h1, h2, h3, h4, h8, h10, h11⟩ := h
  have hF : formedB x = false := by unfold formedB; rw [h1, if_neg (by decide), if_neg h2, if_neg h3, if_neg (by omega), if_neg h10, if_neg h11]
  unfold FPost evV
  rw [hF]
  clear hF
  obtain ⟨k, t, v⟩ := x
  simp only at h1 h2 h3 h4 h8 h10 h11 hv hs ⊢
  obtain rfl := str_nil hv
  have hs2 : (⟨#[]⟩ : ByteArray).size ≤ 1099511627776 := by decide
  unfold bareK at h1
  rw [decide_eq_false_iff_not] at h1
  have d1 : (k == 1) = false := ne_beq (by omega)
  have d2 : (k == 2) = false := ne_beq (by omega)
  have d3 : (k == 3) = false := ne_beq (by omega)
  have d4 : (k == 4) = false := ne_beq (by omega)
  have d5 : (k == 5) = false := ne_beq (by omega)
  have d6 : (k == 6) = false := ne_beq (by omega)
  have d7 : (k == 7) = false := ne_beq (by omega)
  have d8 : (k == 8) = false := ne_beq (by omega)
  have d9 : (k == 9) = false := ne_beq (by omega)
  have d10 : (k == 10) = false := ne_beq (by omega)
  have d11 : (k == 11) = false := ne_beq (by omega)
  have d12 : (k == 12) = false := ne_beq (by omega)
  clear h1 h2 h3 h4 h8 h10 h11
  have hX := EvAt.new w (⟨k, t, ⟨#[]⟩⟩ : Ev)
  have hbel := (Below.refl w.heap.size w).alloc (Nat.le_refl _) (.cells #[.int .i64 k, .string t, .string ⟨#[]⟩] 28)
  have y1 := hX.c1
  simp only at hX y1
  go_enter Tryz.func17, Tryz.ntmps17
  go_wp2_with fail
  refine (rmay5_any t _ (by first | exact hs | decide)).mono ?_
  rintro e w1 ⟨rfl, hb1⟩
  replace hX := hX.below hb1
  replace hbel := hbel.trans (hb1.mono hbel.size)
  have y2 := hX.c2
  simp only at y2
  generalize validL t.data.toList = va at *
  go_wp2_with fail
  refine (rmay5_any ⟨#[]⟩ _ (by first | exact hs2 | decide)).mono ?_
  rintro e w2 ⟨rfl, hb2⟩
  replace hX := hX.below hb2
  replace hbel := hbel.trans (hb2.mono hbel.size)
  have z0 := hX.c0
  have z1 := hX.c1
  have z2 := hX.c2
  simp only at z0 z1 z2
  clear y1 y2
  go_wp2_with fail
  go_ret
  exact ⟨rfl, hbel⟩

theorem right_any (hs : x.t.size ≤ 1099511627776) (hs2 : x.v.size ≤ 1099511627776) : Calls Tryz.prog 17 #[evV x] w (FPost x w) := by
  by_cases h11 : x.k = 11
  · exact right_attr x w h11 hs hs2
  by_cases hv : x.v.size = 0
  · cases hb : bareK x.k with
    | true => exact right_bare x w hb hv hs
    | false =>
      by_cases h2 : x.k = 2
      · exact right_bool x w h2 hv hs
      by_cases h3 : x.k = 3
      · exact right_num x w h3 hv hs
      by_cases h4 : x.k = 4 ∨ x.k = 8
      · exact right_text x w h4 hv hs
      by_cases h10 : x.k = 10
      · exact right_elem x w h10 hv hs
      · exact right_other x w ⟨hb, h2, h3, by omega, by omega, h10, h11⟩ hv hs
  · exact right_val x w h11 hv hs hs2
end
end Go.Proofs.YtmnijjbhkbdojaaGreatDoor
namespace Go.Proofs.YtmnijjbhkbdojaaGreatDoor
open Go.RowKit
set_option maxRecDepth 100000

def nV (n : Nat) : Value := .int .i64 (n : Int)
theorem row_shapeL {w : World} {base : Nat} {e : TypeId} {v : Value} {xs : List Value} {n : Nat} (h : ORow w base e v xs) (hn : xs.length = n) : ∃ A cap, v = .slice A n cap := by subst hn; exact h.shape
theorem row_blockL {w : World} {base : Nat} {e : TypeId} {A : Option Addr} {n cap : Nat} {xs : List Value} (h : ORow w base e (.slice A n cap) xs) (hn : 0 < xs.length) : ∃ r, A = some ⟨r, 0, none⟩ := by
  rcases h.2 with ⟨_, h0⟩ | ⟨g, c, cur, hv, _⟩
  · omega
  · injection hv with h1 _ _
    exact ⟨g, h1⟩
theorem rowL_of {w : World} {base : Nat} {e : TypeId} {v : Value} {xs : List Value} {n : Nat} (h : ORow w base e v xs) (hn : xs.length = n) : w.ownsRow base e 1 v n xs := by
  have := h
  unfold ORow at this
  rw [hn] at this
  exact this
theorem rowL_to {w : World} {base : Nat} {e : TypeId} {v : Value} {xs : List Value} {n : Nat} (h : w.ownsRow base e 1 v n xs) (hn : xs.length = n) : ORow w base e v xs := by
  unfold ORow
  rw [hn]
  exact h
theorem nrev_len (S : List Nat) : (S.reverse.map nV).length = S.length := by simp
theorem nrev_cons (p : Nat) (S : List Nat) : (p :: S).reverse.map nV = S.reverse.map nV ++ [nV p] := by simp
/-- The innermost place let go. -/
theorem nrow_pop {w : World} {base r n cap p : Nat} {S : List Nat} (h : ORow w base 3 (.slice (some ⟨r, 0, none⟩) n cap) ((p :: S).reverse.map nV)) (hn : n = S.length + 1) : ORow w base 3 (.slice (some ⟨r, 0, none⟩) S.length cap) (S.reverse.map nV) := by
  subst hn
  have h1 := rowN_cut (rowL_of h (by simp)) (m := S.length) (by omega)
  rw [nrev_cons, Nat.mul_one, List.take_append_of_le_length (by simp), List.take_of_length_le (by simp)] at h1
  exact rowL_to h1 (by simp)

/-- What At tells. -/
def AtEnd (l : List Ev) : Ending := match atL l with
  | [] => .returned (.tuple #[.int .i64 (-1), .int .i64 0])
  | p :: ps => .returned (.tuple #[.int .i64 p, .int .i64 ((ps.length : Int) + 1)])
theorem atEnd_nil {l : List Ev} (h : atL l = []) : AtEnd l = .returned (.tuple #[.int .i64 (-1), .int .i64 0]) := by unfold AtEnd; rw [h]
theorem atEnd_cons {l : List Ev} {p : Nat} {ps : List Nat} (h : atL l = p :: ps) : AtEnd l = .returned (.tuple #[.int .i64 p, .int .i64 ((ps.length : Int) + 1)]) := by unfold AtEnd; rw [h]

set_option maxHeartbeats 8000000 in
theorem at_any (w : World) (v : Value) (xs : List Ev) (hv : ERead w v xs) (hn : xs.length ≤ 100000) :
    Calls Tryz.prog 11 #[v] w fun e w' => e = AtEnd xs ∧ Below w.heap.size w w' := by
  obtain ⟨A, c, rfl, _, _, hr⟩ := hv
  go_enter Tryz.func11, Tryz.ntmps11
  go_wp2_with fail
  go_loopw [4, 5] (fun op i wr => ∃ k : Nat, k ≤ xs.length ∧ i = .int .i64 k ∧ ORow wr w.heap.size 3 op ((atL (xs.take k)).reverse.map nV) ∧ Hid (Below w.heap.size w wr)) (fun _ i _ => xs.length - (intOf i).toNat)
  case atStart => exact ⟨0, Nat.zero_le _, rfl, ORow.nil _ _ _, Lib.hid (Below.refl _ _)⟩
  case round =>
    obtain ⟨k, hk, rfl, hown, HB⟩ := hrel
    have hbs := HB.out.size
    by_cases hlt : k < xs.length
    · obtain ⟨bb, oo, rfl, hc⟩ := hr (by omega)
      obtain ⟨h1, _, _⟩ := hc k hlt
      have g1 := (HB.out.cell (cell_lt h1)).trans h1
      have ht := atL_take xs k hlt
      have hSl : (atL (xs.take k)).length ≤ k := by have := atL_len (xs.take k); rw [List.length_take] at this; omega
      clear hc hr h1
      generalize (xs[k]).k = xk at *
      obtain ⟨S, hS⟩ : ∃ S, atL (xs.take k) = S := ⟨_, rfl⟩
      rw [hS] at hown ht hSl
      have hlti : (k : Int) < xs.length := by omega
      cases ho : opensK xk with
      | true =>
        have hst : atL (xs.take (k + 1)) = k :: S := by rw [ht]; unfold atStep; rw [if_pos ho]
        have HS := Lib.hid hst
        unfold opensK at ho
        rw [decide_eq_true_iff] at ho
        have h63 : (S.reverse.map nV).length + 1 ≤ maxLen := by rw [nrev_len]; simp only [maxLen]; omega
        have h8 : ((S.reverse.map nV).length + 1) * 8 ≤ 140737488355328 := by rw [nrev_len]; omega
        clear hS ht hst
        rcases ho with rfl | rfl | rfl
        all_goals
          go_wp2_with (first
            | (at_builtin; refine wp_app1b rfl _ _ 45 rfl w.heap.size 3 (.int .i64 0) 8 Tryz.underlying45 Tryz.info3 rfl _ _ _ rfl (by exact hown) rfl _ rfl h63 h8 hbs ?_; intro v1 w1 hown1 hb1))
          go_roundw
          case rel => exact ⟨k + 1, hlt, by go_num, by rw [HS.out, nrev_cons]; exact hown1, Lib.hid (HB.out.trans hb1)⟩
          case measure => first | (simp [intOf]; done) | (simp [intOf]; omega)
      | false =>
        cases he : endsK xk with
        | true =>
          have hst : atL (xs.take (k + 1)) = S.tail := by rw [ht]; unfold atStep; rw [if_neg (by rw [ho]; decide), if_pos he]
          have HS := Lib.hid hst
          unfold endsK at he
          rw [decide_eq_true_iff] at he
          clear hS ht hst ho
          match S with
          | [] =>
            obtain ⟨A1, c1, rfl⟩ := row_shapeL hown (n := 0) rfl
            rcases he with rfl | rfl | rfl
            all_goals
              go_wp2_with fail
              go_roundw
              case rel => exact ⟨k + 1, hlt, by go_num, by rw [HS.out]; exact hown, HB⟩
              case measure => first | (simp [intOf]; done) | (simp [intOf]; omega)
          | p :: S =>
            obtain ⟨A1, c1, rfl⟩ := row_shapeL hown (n := S.length + 1) (by simp)
            obtain ⟨r1, rfl⟩ := row_blockL hown (by simp)
            obtain ⟨_, _, hcap, hcm, _, _, _⟩ := rowN_block (rowL_of hown (n := S.length + 1) (by simp))
            have hcm2 : c1 ≤ 9223372036854775807 := by simpa [maxLen] using hcm
            have hpop := nrow_pop hown rfl
            clear hcm
            rcases he with rfl | rfl | rfl
            all_goals
              go_wp2_with fail
              go_roundw
              case rel => exact ⟨k + 1, hlt, by go_num, by rw [HS.out]; exact hpop, HB⟩
              case measure => first | (simp [intOf]; done) | (simp [intOf]; omega)
        | false =>
          have hst : atL (xs.take (k + 1)) = S := by rw [ht]; unfold atStep; rw [if_neg (by rw [ho]; decide), if_neg (by rw [he]; decide)]
          have HS := Lib.hid hst
          unfold endsK at he
          unfold opensK at ho
          rw [decide_eq_false_iff_not] at he ho
          have d5 : (xk == 5) = false := ne_beq (by omega)
          have d6 : (xk == 6) = false := ne_beq (by omega)
          have d7 : (xk == 7) = false := ne_beq (by omega)
          have d9 : (xk == 9) = false := ne_beq (by omega)
          have d10 : (xk == 10) = false := ne_beq (by omega)
          have d12 : (xk == 12) = false := ne_beq (by omega)
          clear hS ht hst ho he
          go_wp2_with fail
          go_roundw
          case rel => exact ⟨k + 1, hlt, by go_num, by rw [HS.out]; exact hown, HB⟩
          case measure => first | (simp [intOf]; done) | (simp [intOf]; omega)
    · have hke : k = xs.length := by omega
      rw [hke, List.take_of_length_le (Nat.le_refl _)] at hown
      obtain ⟨S, hS⟩ : ∃ S, atL xs = S := ⟨_, rfl⟩
      rw [hS] at hown
      have HS := Lib.hid hS
      have hSl := atL_len xs
      rw [hS] at hSl
      clear hS
      have hlti : ¬ (k : Int) < xs.length := by omega
      match S with
      | [] =>
        obtain ⟨A1, c1, rfl⟩ := row_shapeL hown (n := 0) rfl
        go_wp2_with fail
        go_ret2
        exact ⟨by rw [atEnd_nil HS.out]; rfl, HB.out⟩
      | p :: S =>
        obtain ⟨A1, c1, rfl⟩ := row_shapeL hown (n := S.length + 1) (by simp)
        obtain ⟨r1, rfl⟩ := row_blockL hown (by simp)
        have hcl : wr.cell? ⟨r1, S.length, none⟩ = some (.int .i64 p) := by
          rw [rowN_cell (rowL_of hown (n := S.length + 1) (by simp)) (by omega), nrev_cons, List.getElem?_append_right (by simp)]
          simp [nV]
        have hsl : S.length + 1 ≤ 100000 := by simp at hSl; omega
        go_wp2_with fail
        go_ret2
        exact ⟨by rw [atEnd_cons HS.out]; rfl, HB.out⟩
end Go.Proofs.YtmnijjbhkbdojaaGreatDoor
namespace Go.Proofs.YtmnijjbhkbdojaaGreatDoor
open Go.RowKit
set_option maxRecDepth 100000

theorem nmap_len (S : List Nat) : (S.map nV).length = S.length := by simp
theorem nmap_snoc (p : Nat) (S : List Nat) : (S ++ [p]).map nV = S.map nV ++ [nV p] := by simp
/-- What own leaves. -/
def OPost (w : World) (xs : List Ev) (p : Nat) (e : Ending) (w' : World) : Prop := ∃ v, e = .returned v ∧ ORow w' w.heap.size 3 v ((ownL xs p).map nV) ∧ Below w.heap.size w w'

set_option maxHeartbeats 8000000 in
theorem rown_any (w : World) (v : Value) (xs : List Ev) (p : Nat) (hv : ERead w v xs) (hn : xs.length ≤ 100000) (hp : p < xs.length) :
    Calls Tryz.prog 18 #[v, .int .i64 p] w (OPost w xs p) := by
  obtain ⟨A, c, rfl, _, _, hr⟩ := hv
  obtain ⟨bb, oo, rfl, hc⟩ := hr (by omega)
  clear hr
  go_enter Tryz.func18, Tryz.ntmps18
  go_wp2_with fail
  go_loopw [5, 6, 7] (fun op d i wr => ∃ k : Nat, p + 1 ≤ k ∧ k ≤ xs.length ∧ i = .int .i64 k ∧ d = .int .i64 (ownT xs p k).1 ∧ ORow wr w.heap.size 3 op ((ownT xs p k).2.map nV) ∧ Hid (Below w.heap.size w wr)) (fun _ _ i _ => xs.length - (intOf i).toNat)
  case atStart => exact ⟨p + 1, Nat.le_refl _, hp, by go_num, by rw [ownT_start], by rw [ownT_start]; exact ORow.nil _ _ _, Lib.hid (Below.refl _ _)⟩
  case round =>
    obtain ⟨k, hpk, hk, rfl, rfl, hown, HB⟩ := hrel
    have hbs := HB.out.size
    by_cases hlt : k < xs.length
    · obtain ⟨h1, _, _⟩ := hc k hlt
      have g1 := (HB.out.cell (cell_lt h1)).trans h1
      have ht := ownT_step xs p k hpk hlt
      obtain ⟨hd1, hd2⟩ := ownT_deep xs p k hk
      have hSl := (ownT_lt xs p k hpk hk).2
      clear h1
      generalize (xs[k]).k = xk at *
      obtain ⟨s, hs⟩ : ∃ s, ownT xs p k = s := ⟨_, rfl⟩
      rw [hs] at hown ht hd1 hd2 hSl ⊢
      obtain ⟨D, S⟩ := s
      simp only at hown hd1 hd2 hSl ⊢
      have hlti : (k : Int) < xs.length := by omega
      have hDl : -100000 ≤ D := by omega
      have hDh : D ≤ 100000 := by omega
      clear hd1 hd2
      cases he : endsK xk with
      | true =>
        have hst : ownT xs p (k + 1) = (D - 1, S) := by rw [ht]; unfold ownStep; rw [if_pos he]
        have HS := Lib.hid hst
        unfold endsK at he
        rw [decide_eq_true_iff] at he
        clear hs ht hst
        rcases he with rfl | rfl | rfl
        all_goals
          go_wp2_with fail
          go_roundw
          case rel => exact ⟨k + 1, by omega, hlt, by go_num, by rw [HS.out], by rw [HS.out]; exact hown, HB⟩
          case measure => first | (simp [intOf]; done) | (simp [intOf]; omega)
      | false =>
        by_cases hD0 : D = 0
        · subst hD0
          have h63 : (S.map nV).length + 1 ≤ maxLen := by rw [nmap_len]; simp only [maxLen]; omega
          have h8 : ((S.map nV).length + 1) * 8 ≤ 140737488355328 := by rw [nmap_len]; omega
          cases ho : opensK xk with
          | true =>
            have hst : ownT xs p (k + 1) = (1, S ++ [k]) := by rw [ht]; unfold ownStep; rw [if_neg (by rw [he]; decide), if_pos ho, if_pos rfl]; rfl
            have HS := Lib.hid hst
            unfold opensK at ho
            rw [decide_eq_true_iff] at ho
            clear hs ht hst he
            rcases ho with rfl | rfl | rfl
            all_goals
              go_wp2_with (first
                | (at_builtin; refine wp_app1b rfl _ _ 45 rfl w.heap.size 3 (.int .i64 0) 8 Tryz.underlying45 Tryz.info3 rfl _ _ _ rfl (by exact hown) rfl _ rfl h63 h8 hbs ?_; intro v1 w1 hown1 hb1))
              go_roundw
              case rel => exact ⟨k + 1, by omega, hlt, by go_num, by rw [HS.out], by rw [HS.out, nmap_snoc]; exact hown1, Lib.hid (HB.out.trans hb1)⟩
              case measure => first | (simp [intOf]; done) | (simp [intOf]; omega)
          | false =>
            have hst : ownT xs p (k + 1) = (0, S ++ [k]) := by rw [ht]; unfold ownStep; rw [if_neg (by rw [he]; decide), if_neg (by rw [ho]; decide), if_pos rfl]
            have HS := Lib.hid hst
            unfold endsK at he
            unfold opensK at ho
            rw [decide_eq_false_iff_not] at he ho
            have d5 : (xk == 5) = false := ne_beq (by omega)
            have d6 : (xk == 6) = false := ne_beq (by omega)
            have d7 : (xk == 7) = false := ne_beq (by omega)
            have d9 : (xk == 9) = false := ne_beq (by omega)
            have d10 : (xk == 10) = false := ne_beq (by omega)
            have d12 : (xk == 12) = false := ne_beq (by omega)
            clear hs ht hst ho he
            go_wp2_with (first
              | (at_builtin; refine wp_app1b rfl _ _ 45 rfl w.heap.size 3 (.int .i64 0) 8 Tryz.underlying45 Tryz.info3 rfl _ _ _ rfl (by exact hown) rfl _ rfl h63 h8 hbs ?_; intro v1 w1 hown1 hb1))
            go_roundw
            case rel => exact ⟨k + 1, by omega, hlt, by go_num, by rw [HS.out], by rw [HS.out, nmap_snoc]; exact hown1, Lib.hid (HB.out.trans hb1)⟩
            case measure => first | (simp [intOf]; done) | (simp [intOf]; omega)
        · have e0 := ne_beq hD0
          cases ho : opensK xk with
          | true =>
            have hst : ownT xs p (k + 1) = (D + 1, S) := by rw [ht]; unfold ownStep; rw [if_neg (by rw [he]; decide), if_pos ho, if_neg hD0]
            have HS := Lib.hid hst
            unfold opensK at ho
            rw [decide_eq_true_iff] at ho
            clear hs ht hst he hD0
            rcases ho with rfl | rfl | rfl
            all_goals
              go_wp2_with fail
              go_roundw
              case rel => exact ⟨k + 1, by omega, hlt, by go_num, by rw [HS.out], by rw [HS.out]; exact hown, HB⟩
              case measure => first | (simp [intOf]; done) | (simp [intOf]; omega)
          | false =>
            have hst : ownT xs p (k + 1) = (D, S) := by rw [ht]; unfold ownStep; rw [if_neg (by rw [he]; decide), if_neg (by rw [ho]; decide), if_neg hD0]
            have HS := Lib.hid hst
            unfold endsK at he
            unfold opensK at ho
            rw [decide_eq_false_iff_not] at he ho
            have d5 : (xk == 5) = false := ne_beq (by omega)
            have d6 : (xk == 6) = false := ne_beq (by omega)
            have d7 : (xk == 7) = false := ne_beq (by omega)
            have d9 : (xk == 9) = false := ne_beq (by omega)
            have d10 : (xk == 10) = false := ne_beq (by omega)
            have d12 : (xk == 12) = false := ne_beq (by omega)
            clear hs ht hst ho he hD0
            go_wp2_with fail
            go_roundw
            case rel => exact ⟨k + 1, by omega, hlt, by go_num, by rw [HS.out], by rw [HS.out]; exact hown, HB⟩
            case measure => first | (simp [intOf]; done) | (simp [intOf]; omega)
    · have hke : xs.length ≤ k := by omega
      rw [ownT_end xs p k hke] at hown
      have hlti : ¬ (k : Int) < xs.length := by omega
      go_wp2_with fail
      go_ret
      exact ⟨_, rfl, hown, HB.out⟩
end Go.Proofs.YtmnijjbhkbdojaaGreatDoor

/-
  events: formed: whether Text and Val are allowed for a kind.
  events: continues, continuesElem: whether some document goes on with an event.
-/
import Derived.Test.YtjepnddndpmnnaaGreatGsB11
namespace Go.Proofs.YtjepnddndpmnnaaGreat
open Go.RowKit
set_option maxRecDepth 100000
set_option linter.unusedSectionVars false
variable [Tab] [Fo]

theorem emptyT_nil : emptyT ⟨#[]⟩ = true := rfl
theorem emptyT_no {s : ByteArray} (h : ¬ s.size = 0) : emptyT s = false := by
  unfold emptyT
  rw [decide_eq_false_iff_not]
  intro e
  apply h
  have := congrArg List.length e
  simpa using this
theorem str_nil {s : ByteArray} (h : s.size = 0) : s = ⟨#[]⟩ := ByteArray.ext (Array.eq_empty_of_size_eq_zero h)
def evV (x : Ev) : Value := .agg #[.int .i64 x.k, .string x.t, .string x.v]
/-- An event, in its own place. -/
def EvAt (w : World) (b : Nat) (x : Ev) : Prop := Blk w b 46 #[.int .i64 x.k, .string x.t, .string x.v]
theorem EvAt.new (w : World) (x : Ev) : EvAt (w.alloc (.cells #[.int .i64 x.k, .string x.t, .string x.v] 46)) w.heap.size x := Blk.new w _ _
theorem EvAt.below {w w' : World} {b : Nat} {x : Ev} (h : EvAt w b x) (hb : Below w.heap.size w w') : EvAt w' b x := Blk.below h hb (Blk.lt h)
theorem EvAt.drewN {w : World} {b : Nat} {x : Ev} (h : EvAt w b x) (n : Nat) : EvAt (w.drewN n) b x := h
theorem EvAt.c0 {w : World} {b : Nat} {x : Ev} (h : EvAt w b x) : w.cell? ⟨b, 0, none⟩ = some (.int .i64 x.k) := Blk.cell h 0
theorem EvAt.c1 {w : World} {b : Nat} {x : Ev} (h : EvAt w b x) : w.cell? ⟨b, 1, none⟩ = some (.string x.t) := Blk.cell h 1
theorem EvAt.c2 {w : World} {b : Nat} {x : Ev} (h : EvAt w b x) : w.cell? ⟨b, 2, none⟩ = some (.string x.v) := Blk.cell h 2

/-- What formed tells. -/
def FPost (x : Ev) (w : World) (e : Ending) (w' : World) : Prop := e = .returned (.bool (formedB x)) ∧ Below w.heap.size w w'

section
variable (x : Ev) (w : World)
set_option maxHeartbeats 4000000 in
theorem formed_bare (h : bareK x.k = true) : Calls Tryz.prog 153 #[evV x] w (FPost x w) := by
  have hF : formedB x = (emptyT x.t && emptyT x.v) := by unfold formedB; rw [if_pos h]
  unfold FPost evV
  rw [hF]
  clear hF
  obtain ⟨k, t, v⟩ := x
  have hbel := (Below.refl w.heap.size w).alloc (Nat.le_refl _) (.cells #[.int .i64 k, .string t, .string v] 46)
  simp only at h ⊢
  unfold bareK at h
  rw [decide_eq_true_iff] at h
  by_cases ht : t.size = 0
  · obtain rfl := str_nil ht
    rw [emptyT_nil, Bool.true_and]
    by_cases hv : v.size = 0
    · obtain rfl := str_nil hv
      rw [emptyT_nil]
      rcases h with rfl | rfl | rfl | rfl | rfl | rfl
      all_goals
        go_enter Tryz.func153, Tryz.ntmps153
        go_wp2
        go_ret
        exact ⟨rfl, hbel⟩
    · have n1 := str_ne hv
      have n2 := str_ne2 hv
      rw [emptyT_no hv]
      rcases h with rfl | rfl | rfl | rfl | rfl | rfl
      all_goals
        go_enter Tryz.func153, Tryz.ntmps153
        go_wp2
        go_ret
        exact ⟨rfl, hbel⟩
  · have n1 := str_ne ht
    have n2 := str_ne2 ht
    rw [emptyT_no ht, Bool.false_and]
    rcases h with rfl | rfl | rfl | rfl | rfl | rfl
    all_goals
      go_enter Tryz.func153, Tryz.ntmps153
      go_wp2
      go_ret
      exact ⟨rfl, hbel⟩

theorem str_eqT {s c : ByteArray} (h : ¬ s.data.toList = c.data.toList) : (s.toList == c.toList) = false ∧ ¬ s.toList = c.toList := str_diff (fun e => h (by rw [e]))

set_option maxHeartbeats 4000000 in
theorem formed_bool (h : x.k = 2) : Calls Tryz.prog 153 #[evV x] w (FPost x w) := by
  have hF : formedB x = (emptyT x.v && boolL x.t.data.toList) := by unfold formedB; rw [h, if_neg (by decide), if_pos rfl]
  unfold FPost evV
  rw [hF]
  clear hF
  obtain ⟨k, t, v⟩ := x
  have hbel := (Below.refl w.heap.size w).alloc (Nat.le_refl _) (.cells #[.int .i64 2, .string t, .string v] 46)
  simp only at h ⊢
  subst h
  by_cases hv : v.size = 0
  · obtain rfl := str_nil hv
    rw [emptyT_nil, Bool.true_and]
    by_cases h1 : t = ⟨#[116, 114, 117, 101]⟩
    · subst h1
      go_enter Tryz.func153, Tryz.ntmps153
      go_wp2
      go_ret
      exact ⟨rfl, hbel⟩
    · by_cases h2 : t = ⟨#[102, 97, 108, 115, 101]⟩
      · subst h2
        go_enter Tryz.func153, Tryz.ntmps153
        go_wp2
        go_ret
        exact ⟨rfl, hbel⟩
      · have e1 : boolL t.data.toList = false := by
          unfold boolL
          rw [decide_eq_false (fun e => h1 (ByteArray.ext (by have := congrArg List.toArray e; simpa using this))), decide_eq_false (fun e => h2 (ByteArray.ext (by have := congrArg List.toArray e; simpa using this)))]
          rfl
        rw [e1]
        obtain ⟨m1, m2⟩ := str_diff h1
        obtain ⟨m3, m4⟩ := str_diff h2
        simp at m1 m2 m3 m4
        clear h1 h2 e1
        go_enter Tryz.func153, Tryz.ntmps153
        go_wp2
        go_ret
        exact ⟨rfl, hbel⟩
  · have n1 := str_ne hv
    have n2 := str_ne2 hv
    rw [emptyT_no hv, Bool.false_and]
    go_enter Tryz.func153, Tryz.ntmps153
    go_wp2
    go_ret
    exact ⟨rfl, hbel⟩

set_option maxHeartbeats 4000000 in
theorem formed_num (h : x.k = 3) (hw : Nm.StdW w) (hs : x.t.size ≤ 140737488355328) : Calls Tryz.prog 153 #[evV x] w (FPost x w) := by
  have hF : formedB x = (emptyT x.v && normL x.t.data.toList) := by unfold formedB; rw [h, if_neg (by decide), if_neg (by decide), if_pos rfl]
  unfold FPost evV
  rw [hF]
  clear hF
  obtain ⟨k, t, v⟩ := x
  have hbel := (Below.refl w.heap.size w).alloc (Nat.le_refl _) (.cells #[.int .i64 3, .string t, .string v] 46)
  simp only at h hs ⊢
  subst h
  by_cases hv : v.size = 0
  · obtain rfl := str_nil hv
    rw [emptyT_nil, Bool.true_and]
    go_enter Tryz.func153, Tryz.ntmps153
    go_wp2_with (first
      | (go_at_call 163; refine (normal_any t _ (hw.below ((Below.refl w.heap.size w).alloc (Nat.le_refl _) _)) hs).mono ?_; rintro e w1 ⟨rfl, hb1⟩; replace hbel := hbel.trans (hb1.mono hbel.size)))
    go_ret
    exact ⟨rfl, hbel⟩
  · have n1 := str_ne hv
    have n2 := str_ne2 hv
    rw [emptyT_no hv, Bool.false_and]
    go_enter Tryz.func153, Tryz.ntmps153
    go_wp2
    go_ret
    exact ⟨rfl, hbel⟩

set_option maxHeartbeats 4000000 in
theorem formed_text (h : x.k = 4 ∨ x.k = 8) : Calls Tryz.prog 153 #[evV x] w (FPost x w) := by
  have hF : formedB x = (emptyT x.v && validL x.t.data.toList) := by
    unfold formedB
    rw [if_neg (by unfold bareK; rw [decide_eq_true_iff]; omega), if_neg (by omega), if_neg (by omega), if_pos h]
  unfold FPost evV
  rw [hF]
  clear hF
  obtain ⟨k, t, v⟩ := x
  simp only at h ⊢
  rcases h with rfl | rfl
  case' inl => have hbel := (Below.refl w.heap.size w).alloc (Nat.le_refl _) (.cells #[.int .i64 4, .string t, .string v] 46)
  case' inr => have hbel := (Below.refl w.heap.size w).alloc (Nat.le_refl _) (.cells #[.int .i64 8, .string t, .string v] 46)
  all_goals
    by_cases hv : v.size = 0
    · obtain rfl := str_nil hv
      rw [emptyT_nil, Bool.true_and]
      go_enter Tryz.func153, Tryz.ntmps153
      go_wp2_with (first
        | (go_at_call 164; refine (evalid_any t _).mono ?_; rintro e w1 ⟨rfl, hb1⟩; replace hbel := hbel.trans (hb1.mono hbel.size)))
      go_ret
      exact ⟨rfl, hbel⟩
    · have n1 := str_ne hv
      have n2 := str_ne2 hv
      rw [emptyT_no hv, Bool.false_and]
      go_enter Tryz.func153, Tryz.ntmps153
      go_wp2
      go_ret
      exact ⟨rfl, hbel⟩

set_option maxHeartbeats 4000000 in
theorem formed_elem (h : x.k = 10) (hs : x.t.size ≤ 140737488355328) : Calls Tryz.prog 153 #[evV x] w (FPost x w) := by
  have hF : formedB x = (emptyT x.v && fullL x.t.data.toList) := by unfold formedB; rw [h, if_neg (by decide), if_neg (by decide), if_neg (by decide), if_neg (by decide), if_pos rfl]
  unfold FPost evV
  rw [hF]
  clear hF
  have hx := EvAt.new w x
  obtain ⟨k, t, v⟩ := x
  have hbel := (Below.refl w.heap.size w).alloc (Nat.le_refl _) (.cells #[.int .i64 10, .string t, .string v] 46)
  simp only at h hs hx ⊢
  subst h
  by_cases hv : v.size = 0
  · obtain rfl := str_nil hv
    rw [emptyT_nil, Bool.true_and]
    have hc1 := hx.c1
    go_enter Tryz.func153, Tryz.ntmps153
    go_wp2_with (first
      | (go_at_call 161; refine (named_any w.heap.size t _ hc1 hs).mono ?_; rintro e w1 ⟨rfl, hb1⟩; replace hbel := hbel.trans (hb1.mono hbel.size)))
    go_ret
    exact ⟨rfl, hbel⟩
  · have n1 := str_ne hv
    have n2 := str_ne2 hv
    rw [emptyT_no hv, Bool.false_and]
    go_enter Tryz.func153, Tryz.ntmps153
    go_wp2
    go_ret
    exact ⟨rfl, hbel⟩

set_option maxHeartbeats 4000000 in
theorem formed_attr (h : x.k = 11) (hs : x.t.size ≤ 140737488355328) : Calls Tryz.prog 153 #[evV x] w (FPost x w) := by
  have hF : formedB x = (validL x.v.data.toList && fullL x.t.data.toList) := by unfold formedB; rw [h, if_neg (by decide), if_neg (by decide), if_neg (by decide), if_neg (by decide), if_neg (by decide), if_pos rfl]
  unfold FPost evV
  rw [hF]
  clear hF
  have hx := EvAt.new w x
  obtain ⟨k, t, v⟩ := x
  have hbel := (Below.refl w.heap.size w).alloc (Nat.le_refl _) (.cells #[.int .i64 11, .string t, .string v] 46)
  simp only at h hs hx ⊢
  subst h
  cases hv : validL v.data.toList with
  | true =>
    have HV := Lib.hid hv
    clear hv
    rw [Bool.true_and]
    go_enter Tryz.func153, Tryz.ntmps153
    go_wp2_with (first
      | (go_at_call 164; refine (evalid_any v _).mono ?_; rintro e w1 ⟨rfl, hb1⟩; rw [HV.out]; replace hbel := hbel.trans (hb1.mono hbel.size); have hc1 := (hx.below hb1).c1)
      | (go_at_call 161; refine (named_any w.heap.size t _ hc1 hs).mono ?_; rintro e w2 ⟨rfl, hb2⟩; replace hbel := hbel.trans (hb2.mono hbel.size)))
    go_ret
    exact ⟨rfl, hbel⟩
  | false =>
    have HV := Lib.hid hv
    clear hv
    rw [Bool.false_and]
    go_enter Tryz.func153, Tryz.ntmps153
    go_wp2_with (first
      | (go_at_call 164; refine (evalid_any v _).mono ?_; rintro e w1 ⟨rfl, hb1⟩; rw [HV.out]; replace hbel := hbel.trans (hb1.mono hbel.size)))
    go_ret
    exact ⟨rfl, hbel⟩

set_option maxHeartbeats 4000000 in
theorem formed_other (h : bareK x.k = false ∧ x.k ≠ 2 ∧ x.k ≠ 3 ∧ x.k ≠ 4 ∧ x.k ≠ 8 ∧ x.k ≠ 10 ∧ x.k ≠ 11) : Calls Tryz.prog 153 #[evV x] w (FPost x w) := by
  obtain ⟨h1, h2, h3, h4, h8, h10, h11⟩ := h
  have hF : formedB x = false := by unfold formedB; rw [h1, if_neg (by decide), if_neg h2, if_neg h3, if_neg (by omega), if_neg h10, if_neg h11]
  unfold FPost evV
  rw [hF]
  clear hF
  obtain ⟨k, t, v⟩ := x
  have hbel := (Below.refl w.heap.size w).alloc (Nat.le_refl _) (.cells #[.int .i64 k, .string t, .string v] 46)
  simp only at h1 h2 h3 h4 h8 h10 h11 ⊢
  unfold bareK at h1
  rw [decide_eq_false_iff_not] at h1
  have d1 : (k == 1) = false := by rw [beq_eq_false_iff_ne]; omega
  have d2 : (k == 2) = false := by rw [beq_eq_false_iff_ne]; omega
  have d3 : (k == 3) = false := by rw [beq_eq_false_iff_ne]; omega
  have d4 : (k == 4) = false := by rw [beq_eq_false_iff_ne]; omega
  have d5 : (k == 5) = false := by rw [beq_eq_false_iff_ne]; omega
  have d6 : (k == 6) = false := by rw [beq_eq_false_iff_ne]; omega
  have d7 : (k == 7) = false := by rw [beq_eq_false_iff_ne]; omega
  have d8 : (k == 8) = false := by rw [beq_eq_false_iff_ne]; omega
  have d9 : (k == 9) = false := by rw [beq_eq_false_iff_ne]; omega
  have d10 : (k == 10) = false := by rw [beq_eq_false_iff_ne]; omega
  have d11 : (k == 11) = false := by rw [beq_eq_false_iff_ne]; omega
  have d12 : (k == 12) = false := by rw [beq_eq_false_iff_ne]; omega
  clear h1 h2 h3 h4 h8 h10 h11
  go_enter Tryz.func153, Tryz.ntmps153
  go_wp2
  go_ret
  exact ⟨rfl, hbel⟩

/-- The variables of the library lie as the text lays them, if a number is told. -/
def NumW (k : Int) (w : World) : Prop := k = 3 → Nm.StdW w
theorem NumW.of {k : Int} {w : World} (h : Nm.StdW w) : NumW k w := fun _ => h
theorem NumW.no {k : Int} {w : World} (h : k ≠ 3) : NumW k w := fun e => absurd e h
theorem NumW.below {k : Int} {w w' : World} (h : NumW k w) (hb : Below w.heap.size w w') : NumW k w' := fun e => (h e).below hb
theorem NumW.drewN {k : Int} {w : World} (h : NumW k w) (n : Nat) : NumW k (w.drewN n) := fun e => (h e).drewN n
theorem formed_any (hw : NumW x.k w) (hs : x.t.size ≤ 140737488355328) : Calls Tryz.prog 153 #[evV x] w (FPost x w) := by
  cases hb : bareK x.k with
  | true => exact formed_bare x w hb
  | false =>
    by_cases h2 : x.k = 2
    · exact formed_bool x w h2
    by_cases h3 : x.k = 3
    · exact formed_num x w h3 (hw h3) hs
    by_cases h4 : x.k = 4 ∨ x.k = 8
    · exact formed_text x w h4
    by_cases h10 : x.k = 10
    · exact formed_elem x w h10 hs
    by_cases h11 : x.k = 11
    · exact formed_attr x w h11 hs
    · exact formed_other x w ⟨hb, h2, h3, by omega, by omega, h10, h11⟩
end
end Go.Proofs.YtjepnddndpmnnaaGreat
namespace Go.Proofs.YtjepnddndpmnnaaGreat
open Go.RowKit
set_option maxRecDepth 100000
set_option linter.unusedSectionVars false
variable [Tab] [Fo]

theorem ne_bne {k n : Int} (h : k ≠ n) : (k != n) = true := by simpa using h
theorem ne_beq {k n : Int} (h : k ≠ n) : (k == n) = false := beq_eq_false_iff_ne.2 h
section
variable (b o : Nat) (last : Int) (x : Ev) (w : World)
set_option maxHeartbeats 4000000 in
theorem contElem_any (h1 : w.cell? ⟨b, o + 1, none⟩ = some (.int .i64 last)) :
    Calls Tryz.prog 166 #[.pointer (some ⟨b, o, none⟩), evV x] w fun e w' => e = .returned (.bool (contElem last x.k (emptyT x.t))) ∧ Below w.heap.size w w' := by
  unfold evV
  obtain ⟨k, t, v⟩ := x
  have hbel := (Below.refl w.heap.size w).alloc (Nat.le_refl _) (.cells #[.int .i64 k, .string t, .string v] 46)
  have hc1 := cell?_alloc_old (.cells #[.int .i64 k, .string t, .string v] 46) h1
  simp only
  by_cases k11 : k = 11
  · subst k11
    have hR : contElem last 11 (emptyT t) = decide (last = 0 ∨ last = 11) := by unfold contElem; rw [if_pos rfl]
    rw [hR]
    clear hR
    by_cases l0 : last = 0
    · subst l0
      go_enter Tryz.func166, Tryz.ntmps166
      go_wp2
      go_ret
      exact ⟨rfl, hbel⟩
    · have d0 := ne_beq l0
      by_cases l11 : last = 11
      · subst l11
        go_enter Tryz.func166, Tryz.ntmps166
        go_wp2
        go_ret
        exact ⟨rfl, hbel⟩
      · have d11 := ne_beq l11
        rw [decide_eq_false (by omega : ¬ (last = 0 ∨ last = 11))]
        go_enter Tryz.func166, Tryz.ntmps166
        go_wp2
        go_ret
        exact ⟨rfl, hbel⟩
  have c11 := ne_beq k11
  by_cases k4 : k = 4
  · subst k4
    have hR : contElem last 4 (emptyT t) = (decide (last ≠ 4) && !emptyT t) := by unfold contElem; rw [if_neg (by decide), if_pos rfl]
    rw [hR]
    clear hR
    by_cases l4 : last = 4
    · subst l4
      go_enter Tryz.func166, Tryz.ntmps166
      go_wp2
      go_ret
      exact ⟨rfl, hbel⟩
    · have d4 := ne_beq l4
      have b4 := ne_bne l4
      rw [decide_eq_true l4, Bool.true_and]
      by_cases ht : t.size = 0
      · obtain rfl := str_nil ht
        rw [emptyT_nil]
        go_enter Tryz.func166, Tryz.ntmps166
        go_wp2
        go_ret
        exact ⟨rfl, hbel⟩
      · have n1 := str_ne ht
        have n2 := str_ne2 ht
        rw [emptyT_no ht]
        go_enter Tryz.func166, Tryz.ntmps166
        go_wp2
        go_ret
        exact ⟨rfl, hbel⟩
  have c4 := ne_beq k4
  have hR : contElem last k (emptyT t) = decide (k = 10 ∨ k = 12) := by unfold contElem; rw [if_neg k11, if_neg k4]
  rw [hR]
  clear hR
  by_cases k10 : k = 10
  · subst k10
    go_enter Tryz.func166, Tryz.ntmps166
    go_wp2
    go_ret
    exact ⟨rfl, hbel⟩
  have c10 := ne_beq k10
  by_cases k12 : k = 12
  · subst k12
    go_enter Tryz.func166, Tryz.ntmps166
    go_wp2
    go_ret
    exact ⟨rfl, hbel⟩
  have c12 := ne_beq k12
  rw [decide_eq_false (by omega : ¬ (k = 10 ∨ k = 12))]
  go_enter Tryz.func166, Tryz.ntmps166
  go_wp2
  go_ret
  exact ⟨rfl, hbel⟩

set_option maxHeartbeats 4000000 in
theorem continues_any (kind : Int) (h0 : w.cell? ⟨b, o, none⟩ = some (.int .i64 kind)) (h1 : w.cell? ⟨b, o + 1, none⟩ = some (.int .i64 last)) :
    Calls Tryz.prog 154 #[.pointer (some ⟨b, o, none⟩), evV x] w fun e w' => e = .returned (.bool (contB kind last x.k (emptyT x.t))) ∧ Below w.heap.size w w' := by
  unfold evV
  have hCE := fun w' h => contElem_any b o last x w' h
  unfold evV at hCE
  obtain ⟨k, t, v⟩ := x
  have hbel := (Below.refl w.heap.size w).alloc (Nat.le_refl _) (.cells #[.int .i64 k, .string t, .string v] 46)
  have hc0 := cell?_alloc_old (.cells #[.int .i64 k, .string t, .string v] 46) h0
  have hc1 := cell?_alloc_old (.cells #[.int .i64 k, .string t, .string v] 46) h1
  simp only at hCE ⊢
  obtain ⟨vk, hvk⟩ : ∃ vk, valueK k = vk := ⟨_, rfl⟩
  have HV := Lib.hid hvk
  by_cases q5 : kind = 5
  · subst q5
    have hR : contB 5 last k (emptyT t) = (vk || decide (k = 6)) := by unfold contB; rw [if_pos rfl, hvk]
    rw [hR]
    clear hR hvk
    cases vk with
    | true =>
      go_enter Tryz.func154, Tryz.ntmps154
      go_wp2_with (first
        | (go_at_call 165; refine (isValue_any k _).mono ?_; rintro e w' ⟨rfl, rfl⟩; rw [HV.out]))
      go_ret
      exact ⟨rfl, hbel⟩
    | false =>
      rw [Bool.false_or]
      by_cases k6 : k = 6
      · subst k6
        go_enter Tryz.func154, Tryz.ntmps154
        go_wp2_with (first
          | (go_at_call 165; refine (isValue_any 6 _).mono ?_; rintro e w' ⟨rfl, rfl⟩; rw [HV.out]))
        go_ret
        exact ⟨rfl, hbel⟩
      · have c6 := ne_beq k6
        rw [decide_eq_false k6]
        go_enter Tryz.func154, Tryz.ntmps154
        go_wp2_with (first
          | (go_at_call 165; refine (isValue_any k _).mono ?_; rintro e w' ⟨rfl, rfl⟩; rw [HV.out]))
        go_ret
        exact ⟨rfl, hbel⟩
  have d5 := ne_beq q5
  by_cases q7 : kind = 7
  · subst q7
    by_cases l8 : last = 8
    · subst l8
      have hR : contB 7 8 k (emptyT t) = vk := by unfold contB; rw [if_neg (by decide), if_pos rfl, if_pos rfl, hvk]
      rw [hR]
      clear hR hvk
      go_enter Tryz.func154, Tryz.ntmps154
      go_wp2_with (first
        | (go_at_call 165; refine (isValue_any k _).mono ?_; rintro e w' ⟨rfl, rfl⟩; rw [HV.out]))
      go_ret
      exact ⟨rfl, hbel⟩
    · have e8 := ne_beq l8
      have hR : contB 7 last k (emptyT t) = decide (k = 8 ∨ k = 9) := by unfold contB; rw [if_neg (by decide), if_pos rfl, if_neg l8]
      rw [hR]
      clear hR hvk HV
      by_cases k8 : k = 8
      · subst k8
        go_enter Tryz.func154, Tryz.ntmps154
        go_wp2
        go_ret
        exact ⟨rfl, hbel⟩
      have c8 := ne_beq k8
      by_cases k9 : k = 9
      · subst k9
        go_enter Tryz.func154, Tryz.ntmps154
        go_wp2
        go_ret
        exact ⟨rfl, hbel⟩
      have c9 := ne_beq k9
      rw [decide_eq_false (by omega : ¬ (k = 8 ∨ k = 9))]
      go_enter Tryz.func154, Tryz.ntmps154
      go_wp2
      go_ret
      exact ⟨rfl, hbel⟩
  have d7 := ne_beq q7
  by_cases q10 : kind = 10
  · subst q10
    have hR : contB 10 last k (emptyT t) = contElem last k (emptyT t) := by unfold contB; rw [if_neg (by decide), if_neg (by decide), if_pos rfl]
    rw [hR]
    clear hR hvk HV
    generalize contElem last k (emptyT t) = ce at *
    go_enter Tryz.func154, Tryz.ntmps154
    go_wp2_with (first
      | (go_at_call 166; refine (hCE _ hc1).mono ?_; rintro e w1 ⟨rfl, hb1⟩; replace hbel := hbel.trans (hb1.mono hbel.size)))
    go_ret
    exact ⟨rfl, hbel⟩
  have d10 := ne_beq q10
  have hR : contB kind last k (emptyT t) = (decide (last = 0) && vk) := by unfold contB; rw [if_neg q5, if_neg q7, if_neg q10, hvk]
  rw [hR]
  clear hR hvk hCE
  by_cases l0 : last = 0
  · subst l0
    rw [decide_eq_true rfl, Bool.true_and]
    go_enter Tryz.func154, Tryz.ntmps154
    go_wp2_with (first
      | (go_at_call 165; refine (isValue_any k _).mono ?_; rintro e w' ⟨rfl, rfl⟩; rw [HV.out]))
    go_ret
    exact ⟨rfl, hbel⟩
  · have e0 := ne_beq l0
    rw [decide_eq_false l0, Bool.false_and]
    go_enter Tryz.func154, Tryz.ntmps154
    go_wp2
    go_ret
    exact ⟨rfl, hbel⟩
end
end Go.Proofs.YtjepnddndpmnnaaGreat

/-
  quote: New, denoted, add, Text, endEscape: a Quote is a block of four cells, and what was said lies in a row of its own.
  quote: letter, digit and Step: what a byte does is the machine's step.
-/
import Derived.Test.YtmimadkepflmlaaGreatDoorBrZ24
namespace Go.Proofs.YtmimadkepflmlaaGreatDoor.Qt
open Go.RowKit Go.Maps
set_option maxRecDepth 100000
set_option linter.unusedSectionVars false
variable [Fo]

/-- The Quote at block g: what was said, what may be next, the digits and their number. -/
def QRaw (w : World) (g : Nat) (xs : List UInt8) (st d n : Int) : Prop :=
  ∃ v, Blk w g 196 #[v, .int .i64 st, .int .i64 d, .int .i64 n] ∧ ORow w (g + 1) 5 v (xs.map bV) ∧ NF v ∧ ¬ Fo.F g ∧ Fo.lim ≤ w.heap.size
/-- What its calls may turn. -/
def qObj : Obj → Prop
  | .cells _ t _ => t = 196 ∨ t = 5
  | _ => False
theorem size_set (w : World) (p : Addr) (u : Value) : (w.setCell p u).heap.size = w.heap.size := by simp [World.setCell]
def QAt (w : World) (g : Nat) (q : QS) : Prop := ∃ d n, QRaw w g q.xs q.st d n ∧ (q.st = 2 → d = q.d ∧ n = q.n)

theorem QRaw.lt {w : World} {g : Nat} {xs : List UInt8} {st d n : Int} (h : QRaw w g xs st d n) : g < w.heap.size := by obtain ⟨v, hb, _⟩ := h; exact hb.lt
theorem QAt.lt {w : World} {g : Nat} {q : QS} (h : QAt w g q) : g < w.heap.size := by obtain ⟨_, _, h, _⟩ := h; exact h.lt
theorem QRaw.below {w w' : World} {g : Nat} {xs : List UInt8} {st d n : Int} (h : QRaw w g xs st d n) (hb : Below w.heap.size w w') : QRaw w' g xs st d n := by
  obtain ⟨v, hk, ho, h1, h2, h3⟩ := h
  exact ⟨v, hk.below hb hk.lt, ho.below hb (fun g' hg => (World.ownsRow.lt ho g' hg).2), h1, h2, Nat.le_trans h3 hb.size⟩
theorem QAt.below {w w' : World} {g : Nat} {q : QS} (h : QAt w g q) (hb : Below w.heap.size w w') : QAt w' g q := by
  obtain ⟨d, n, h, h'⟩ := h
  exact ⟨d, n, h.below hb, h'⟩
theorem QRaw.set {w : World} {g : Nat} {xs : List UInt8} {st d n : Int} (h : QRaw w g xs st d n) (st' : Int) : QRaw (w.setCell ⟨g, 1, none⟩ (.int .i64 st')) g xs st' d n := by
  obtain ⟨v, hk, ho, h1, h2, h3⟩ := h
  exact ⟨v, hk.set_ 1 _, ho.set_far (by simp) _, h1, h2, by rw [size_set]; exact h3⟩
theorem QRaw.set2 {w : World} {g : Nat} {xs : List UInt8} {st d n : Int} (h : QRaw w g xs st d n) (d' : Int) : QRaw (w.setCell ⟨g, 2, none⟩ (.int .i64 d')) g xs st d' n := by
  obtain ⟨v, hk, ho, h1, h2, h3⟩ := h
  exact ⟨v, hk.set_ 2 _, ho.set_far (by simp) _, h1, h2, by rw [size_set]; exact h3⟩
theorem QRaw.set3 {w : World} {g : Nat} {xs : List UInt8} {st d n : Int} (h : QRaw w g xs st d n) (n' : Int) : QRaw (w.setCell ⟨g, 3, none⟩ (.int .i64 n')) g xs st d n' := by
  obtain ⟨v, hk, ho, h1, h2, h3⟩ := h
  exact ⟨v, hk.set_ 3 _, ho.set_far (by simp) _, h1, h2, by rw [size_set]; exact h3⟩

theorem QRaw.touch {w : World} {g : Nat} {xs : List UInt8} {st d n : Int} (h : QRaw w g xs st d n) (i : Nat) (u : Value) : Tch g qObj w (w.setCell ⟨g, i, none⟩ u) := by
  obtain ⟨v, hk, _, _, hf, _⟩ := h
  exact (Tch.refl _ _ _).set hk (Nat.le_refl _) hf (.inl rfl) i u
theorem _root_.Go.Proofs.YtmimadkepflmlaaGreatDoor.Tch.of_up {g g' : Nat} {p : Obj → Prop} {w w' : World} (h : Tch g' p w w') (hg : g ≤ g') : Tch g p w w' := ⟨h.os, h.tape, h.output, h.size, fun k o ho hc => h.block k o ho (hc.imp (fun hk => Nat.lt_of_lt_of_le hk hg) id)⟩
theorem qnew_any (w : World) (hfl : Fo.lim ≤ w.heap.size) : Calls Tryz.prog 149 #[] w fun e w' => e = .returned (.pointer (some ⟨w.heap.size, 0, none⟩)) ∧ QAt w' w.heap.size (plainQ []) ∧ Below w.heap.size w w' := by
  go_enter Tryz.func149, Tryz.ntmps149
  go_wp2
  go_ret
  exact ⟨rfl, ⟨0, 0, ⟨_, Blk.new w _ _, ORow.nil _ _ _, NF.nil, nf_new hfl, by simp; omega⟩, fun h => by cases h⟩, (Below.refl _ _).alloc (Nat.le_refl _) _⟩

theorem den_any (w : World) : Calls Tryz.prog 156 #[] w fun e w' => ∃ B, e = .returned (.map (some B)) ∧ w'.ownsMap Tryz.prog 5 (plainElem Tryz.prog 5) B 8 denD ∧ Below w.heap.size w w' := by
  have hmm := @run_makeMap Tryz.prog
  have hown0 := World.ownsMap_made (H := Unit) w Tryz.prog 5 (plainElem Tryz.prog 5)
  go_enter Tryz.func156, Tryz.ntmps156
  go_wp2
  obtain ⟨w1, hrun, hown1, hg1⟩ := hown0.update (t := 205) (key := .int .u8 34) (val := .int .u8 34) keyLaw Tryz.underlying205 (by simp [maxLen]) (keyOf_int_mk Tryz.underlying5 (by decide)) (plainElem_int Tryz.underlying5 (by decide))
  rw [hrun]
  clear hrun
  go_wp2
  obtain ⟨w2, hrun, hown2, hg2⟩ := hown1.update (t := 205) (key := .int .u8 92) (val := .int .u8 92) keyLaw Tryz.underlying205 (by simp [maxLen]) (keyOf_int_mk Tryz.underlying5 (by decide)) (plainElem_int Tryz.underlying5 (by decide))
  rw [hrun]
  clear hrun
  go_wp2
  obtain ⟨w3, hrun, hown3, hg3⟩ := hown2.update (t := 205) (key := .int .u8 47) (val := .int .u8 47) keyLaw Tryz.underlying205 (by simp [maxLen]) (keyOf_int_mk Tryz.underlying5 (by decide)) (plainElem_int Tryz.underlying5 (by decide))
  rw [hrun]
  clear hrun
  go_wp2
  obtain ⟨w4, hrun, hown4, hg4⟩ := hown3.update (t := 205) (key := .int .u8 110) (val := .int .u8 10) keyLaw Tryz.underlying205 (by simp [maxLen]) (keyOf_int_mk Tryz.underlying5 (by decide)) (plainElem_int Tryz.underlying5 (by decide))
  rw [hrun]
  clear hrun
  go_wp2
  obtain ⟨w5, hrun, hown5, hg5⟩ := hown4.update (t := 205) (key := .int .u8 116) (val := .int .u8 9) keyLaw Tryz.underlying205 (by simp [maxLen]) (keyOf_int_mk Tryz.underlying5 (by decide)) (plainElem_int Tryz.underlying5 (by decide))
  rw [hrun]
  clear hrun
  go_wp2
  obtain ⟨w6, hrun, hown6, hg6⟩ := hown5.update (t := 205) (key := .int .u8 114) (val := .int .u8 13) keyLaw Tryz.underlying205 (by simp [maxLen]) (keyOf_int_mk Tryz.underlying5 (by decide)) (plainElem_int Tryz.underlying5 (by decide))
  rw [hrun]
  clear hrun
  go_wp2
  obtain ⟨w7, hrun, hown7, hg7⟩ := hown6.update (t := 205) (key := .int .u8 98) (val := .int .u8 8) keyLaw Tryz.underlying205 (by simp [maxLen]) (keyOf_int_mk Tryz.underlying5 (by decide)) (plainElem_int Tryz.underlying5 (by decide))
  rw [hrun]
  clear hrun
  go_wp2
  obtain ⟨w8, hrun, hown8, hg8⟩ := hown7.update (t := 205) (key := .int .u8 102) (val := .int .u8 12) keyLaw Tryz.underlying205 (by simp [maxLen]) (keyOf_int_mk Tryz.underlying5 (by decide)) (plainElem_int Tryz.underlying5 (by decide))
  rw [hrun]
  clear hrun
  go_wp2
  go_ret
  refine ⟨_, rfl, hown8, ?_⟩
  have h0 : Below w.heap.size w (w.alloc (.map #[] 0)) := (Below.refl _ _).alloc (Nat.le_refl _) _
  have hs : w.heap.size ≤ w.heap.size := Nat.le_refl _
  have h1 := below_only h0 hg1 h0.size hs
  have h2 := below_only h1 hg2 h1.size hs
  have h3 := below_only h2 hg3 h2.size hs
  have h4 := below_only h3 hg4 h3.size hs
  have h5 := below_only h4 hg5 h4.size hs
  have h6 := below_only h5 hg6 h5.size hs
  have h7 := below_only h6 hg7 h6.size hs
  exact below_only h7 hg8 h7.size hs

theorem text_any (w : World) (g : Nat) (xs : List UInt8) (st d n : Int) (hq : QRaw w g xs st d n) :
    Calls Tryz.prog 145 #[.pointer (some ⟨g, 0, none⟩)] w fun e w' => e = .returned (.string ⟨xs.toArray⟩) ∧ w = w' := by
  obtain ⟨v, hk, ho, _⟩ := hq
  have hc : w.cell? ⟨g, 0, none⟩ = some v := hk.cell 0
  have hstr := put_str _ ho
  go_enter Tryz.func145, Tryz.ntmps145
  go_wp2
  first | rw [hstr] | skip
  go_wp2
  go_ret
  exact ⟨rfl, rfl⟩

def addE (xs ch : List UInt8) : Int := if 48 < xs.length + ch.length then 4 else 0
def addX (xs ch : List UInt8) : List UInt8 := if 48 < xs.length + ch.length then xs else xs ++ ch

theorem add_any (w : World) (g : Nat) (xs : List UInt8) (st d n : Int) (hq : QRaw w g xs st d n) (hl : xs.length ≤ 48) (A : Addr) (ch : List UInt8) (c : Nat) (h4 : ch.length ≤ 4)
    (hc : ∀ j u, (ch.map bV)[j]? = some u → w.cell? (A.add j) = some u) :
    Calls Tryz.prog 152 #[.pointer (some ⟨g, 0, none⟩), .slice (some A) ch.length c] w fun e w' => e = .returned (.int .i64 (addE xs ch)) ∧ QRaw w' g (addX xs ch) st d n ∧ Tch g qObj w w' := by
  by_cases hov : 48 < xs.length + ch.length
  · unfold addE addX
    rw [if_pos hov, if_pos hov]
    have hq' := hq
    obtain ⟨v, hk, ho, _⟩ := hq'
    obtain ⟨A', cap, rfl⟩ := ho.shape
    have hc0 : w.cell? ⟨g, 0, none⟩ = some (.slice A' (xs.map bV).length cap) := hk.cell 0
    rw [List.length_map] at hc0
    clear hk ho
    go_enter Tryz.func152, Tryz.ntmps152
    go_wp2
    go_ret
    exact ⟨rfl, hq, Tch.refl _ _ _⟩
  · unfold addE addX
    rw [if_neg hov, if_neg hov]
    obtain ⟨v, hk, ho, hnf, hfg, hfl⟩ := hq
    have ho' := ho
    obtain ⟨A', cap, hv⟩ := ho'.shape
    subst hv
    clear ho'
    have hc0 : w.cell? ⟨g, 0, none⟩ = some (.slice A' xs.length cap) := by have := hk.cell 0; simpa using this
    have hlt := hk.lt
    have hvs : (Value.slice A' (xs.map bV).length cap) = .slice A' xs.length cap := by rw [List.length_map]
    rw [hvs] at ho hk hnf
    have HN := Lib.hid (And.intro hnf (And.intro hfg hfl))
    clear hnf hfg hfl
    go_enter Tryz.func152, Tryz.ntmps152
    go_wp2_with (first
      | (at_builtin; refine wp_appSg rfl _ _ 22 rfl (g + 1) 5 (.int .u8 0) 1 Tryz.underlying22 Tryz.info5 rfl _ _ (ch.map bV) rfl (by exact ho) (by intro u hu; simp at hu; obtain ⟨b, _, rfl⟩ := hu; rfl) A ch.length c (by simp) rfl hc (by simp [maxLen]; omega) (by simp; omega) (by omega) ?_; intro v1 w1 hown1 hb1 hnb1; obtain ⟨A1, c1, rfl⟩ := hown1.shape; have hk1 := hk.grown hb1 (ho.not_own (Nat.lt_succ_self _)); have HG1 := Lib.hid (And.intro hb1 hnb1); clear hb1 hnb1; have hc1 : w1.cell? ⟨g, 0, none⟩ = some (.slice A' xs.length cap) := hk1.cell 0; have hf1 := hk1.frozen 0; have hlt1 := hk1.lt))
    go_ret
    obtain ⟨hb1, hnb1⟩ := HG1.out
    obtain ⟨hnf, hfg, hfl⟩ := HN.out
    refine ⟨rfl, ⟨_, hk1.set_ 0 _, ?_, hnf.nb (w := w) ?_ hfl, hfg, by rw [size_set]; exact Nat.le_trans hfl hb1.size⟩, ?_⟩
    · rw [List.map_append]
      rw [List.length_append, List.length_map, List.length_map] at hown1
      exact ORow.set_far hown1 (Nat.lt_succ_self _) _
    · have h := hnb1
      rw [List.length_append, List.length_map, List.length_map] at h
      exact h
    · exact (Tch.of_row ho hb1 (Nat.le_succ g) hnf (fun _ => .inr rfl)).set hk1 (Nat.le_refl g) hfg (.inl rfl) 0 _

theorem qadd_eq {q : QS} {ch : List UInt8} : qAdd q ch = ⟨false, addE q.xs ch, if 48 < q.xs.length + ch.length then q else plainQ (q.xs ++ ch)⟩ := by
  unfold qAdd addE; split <;> rfl

theorem end_any (w : World) (g : Nat) (xs : List UInt8) (st d n : Int) (hq : QRaw w g xs st d n) (hl : xs.length ≤ 48) (A : Addr) (ch : List UInt8) (c : Nat) (h4 : ch.length ≤ 4)
    (hc : ∀ j u, (ch.map bV)[j]? = some u → w.cell? (A.add j) = some u) :
    Calls Tryz.prog 157 #[.pointer (some ⟨g, 0, none⟩), .slice (some A) ch.length c] w fun e w' => e = .returned (.int .i64 (addE xs ch)) ∧ QRaw w' g (addX xs ch) (if 48 < xs.length + ch.length then st else 0) d n ∧ Tch g qObj w w' := by
  have hlt := hq.lt
  by_cases hov : 48 < xs.length + ch.length
  · have e1 : addE xs ch = 4 := if_pos hov
    rw [if_pos hov, e1]
    go_enter Tryz.func157, Tryz.ntmps157
    go_wp2_with fail
    refine (add_any w g xs st d n hq hl A ch c h4 hc).mono ?_
    rintro e w1 ⟨rfl, hq1, hb1⟩
    rw [e1]
    go_wp2
    go_ret
    exact ⟨rfl, hq1, hb1⟩
  · have e1 : addE xs ch = 0 := if_neg hov
    rw [if_neg hov, e1]
    go_enter Tryz.func157, Tryz.ntmps157
    go_wp2_with fail
    refine (add_any w g xs st d n hq hl A ch c h4 hc).mono ?_
    rintro e w1 ⟨rfl, hq1, hb1⟩
    rw [e1]
    have hc1 : w1.cell? ⟨g, 1, none⟩ = some (.int .i64 st) := by obtain ⟨v, hk, _⟩ := hq1; exact hk.cell 1
    have hf1 : w1.frozen? ⟨g, 1, none⟩ = false := by obtain ⟨v, hk, _⟩ := hq1; exact hk.frozen 1
    have hlt1 := hq1.lt
    go_wp2
    go_ret
    exact ⟨rfl, hq1.set 0, hb1.trans (hq1.touch 1 _)⟩
end Go.Proofs.YtmimadkepflmlaaGreatDoor.Qt
namespace Go.Proofs.YtmimadkepflmlaaGreatDoor.Qt
open Go.RowKit Go.Maps
set_option maxRecDepth 100000
set_option linter.unusedSectionVars false
variable [Fo]

theorem qat_add {w : World} {g : Nat} {q : QS} {ch : List UInt8} {d n : Int} (h' : q.st = 2 → d = q.d ∧ n = q.n) (h : QRaw w g (addX q.xs ch) (if 48 < q.xs.length + ch.length then q.st else 0) d n) : QAt w g (qAdd q ch).q := by
  rw [qadd_eq]
  unfold addX at h
  simp only
  split
  · rename_i hov
    rw [if_pos hov, if_pos hov] at h
    exact ⟨d, n, h, h'⟩
  · rename_i hov
    rw [if_neg hov, if_neg hov] at h
    exact ⟨d, n, h, fun hc => by cases hc⟩

/-- A step's word: what it tells, and the Quote as the machine has it. -/
def Stepd (w : World) (g : Nat) (r : QR) (w' : World) : Prop := QAt w' g r.q ∧ Tch g qObj w w'

theorem letter_u (w : World) (g : Nat) (q : QS) (hq : QAt w g q) :
    Calls Tryz.prog 150 #[.pointer (some ⟨g, 0, none⟩), .int .u8 117] w fun e w' => e = .returned (.int .i64 (qLetter q 117).e) ∧ Stepd w g (qLetter q 117) w' := by
  obtain ⟨d, n, hq, _⟩ := hq
  have hlt := hq.lt
  have hq' := hq
  obtain ⟨v, hk, _⟩ := hq'
  have c1 : w.cell? ⟨g, 1, none⟩ = some (.int .i64 q.st) := hk.cell 1
  have c2 : w.cell? ⟨g, 2, none⟩ = some (.int .i64 d) := hk.cell 2
  have c3 : w.cell? ⟨g, 3, none⟩ = some (.int .i64 n) := hk.cell 3
  have f1 := hk.frozen 1
  have f2 := hk.frozen 2
  have f3 := hk.frozen 3
  clear hk
  go_enter Tryz.func150, Tryz.ntmps150
  go_wp2
  go_ret
  exact ⟨rfl, ⟨0, 0, ((hq.set 2).set2 0).set3 0, fun _ => ⟨rfl, rfl⟩⟩, ((hq.touch 1 _).trans ((hq.set 2).touch 2 _)).trans (((hq.set 2).set2 0).touch 3 _)⟩

theorem letter_any (w : World) (g : Nat) (q : QS) (b : Int) (h0 : 0 ≤ b) (h1 : b ≤ 255) (hq : QAt w g q) (hl : q.xs.length ≤ 48) :
    Calls Tryz.prog 150 #[.pointer (some ⟨g, 0, none⟩), .int .u8 b] w fun e w' => e = .returned (.int .i64 (qLetter q b).e) ∧ Stepd w g (qLetter q b) w' := by
  by_cases hu : b = 117
  · subst hu; exact letter_u w g q hq
  have hub : (b == 117) = false := beq_eq_false_iff_ne.2 hu
  have hkey := keyOf_int_mk Tryz.underlying5 (wf_b h0 h1)
  have hhas := den_has b
  by_cases he : escI b < 0
  · have hr : qLetter q b = ⟨false, 9, q⟩ := by unfold qLetter; rw [if_neg hu, if_pos he]
    rw [hr]
    rw [show decide (0 ≤ escI b) = false from by simp; omega] at hhas
    have HH := Lib.hid hhas
    clear hhas hr he hu
    go_enter Tryz.func150, Tryz.ntmps150
    go_wp2_with (first
      | (go_at_call 156; refine (den_any _).mono ?_; rintro e w1 ⟨B, rfl, hown, hb1⟩)
      | (at_lookup; refine wpList_lookup_own_ok_int _ rfl _ _ 205 rfl 5 5 .u8 keyLaw Tryz.underlying205 Tryz.underlying5 (zeroB _) B 8 denD rfl hown _ _ rfl hkey ?_; intro c hat hwc; rw [HH.out]; clear hat))
    go_ret
    exact ⟨rfl, hq.below hb1, Tch.of_below hb1⟩
  · have hr : qLetter q b = qAdd q [b8 (escI b)] := by unfold qLetter; rw [if_neg hu, if_neg he]
    have hat0 := den_at b (by omega)
    rw [show decide (0 ≤ escI b) = true from by simp; omega] at hhas
    have hel := escI_lt b
    have HH := Lib.hid hhas
    rw [hr]
    obtain ⟨d, n, hq, h2⟩ := hq
    have hq9 := hq.lt
    have HA := Lib.hid hat0
    have e0 : (qAdd q [b8 (escI b)]).e = addE q.xs [b8 (escI b)] := by rw [qadd_eq]
    rw [e0]
    clear hhas hr hu hat0 e0
    go_enter Tryz.func150, Tryz.ntmps150
    go_wp2_with (first
      | (go_at_call 156; refine (den_any _).mono ?_; rintro e w1 ⟨B, rfl, hown, hb1⟩)
      | (at_lookup; refine wpList_lookup_own_ok_int _ rfl _ _ 205 rfl 5 5 .u8 keyLaw Tryz.underlying205 Tryz.underlying5 (zeroB _) B 8 denD rfl hown _ _ rfl hkey ?_; intro c hat hwc; rw [HH.out]))
    have hce : c = escI b := by
      rw [HA.out] at hat
      injection hat with hat
      injection hat with _ hat
      exact hat.symm
    subst hce
    have hqa : QRaw (w1.alloc (.cells #[.int .u8 (escI b)] 5)) g q.xs q.st d n := (hq.below hb1).below ((Below.refl _ _).alloc (Nat.le_refl _) _)
    refine (end_any _ g q.xs q.st d n hqa hl ⟨w1.heap.size, 0, none⟩ [b8 (escI b)] 1 (by simp) ?_).mono ?_
    · have := cell_one_new w1 (.int .u8 (escI b)) 5
      simp only [List.map_cons, List.map_nil]
      rw [bV_b8 _ (by omega) hel]
      exact this
    rintro e w2 ⟨rfl, hq2, hb2⟩
    go_wp2
    go_ret
    refine ⟨rfl, qat_add h2 hq2, ?_⟩
    exact ((Tch.of_below hb1).alloc _).trans hb2
end Go.Proofs.YtmimadkepflmlaaGreatDoor.Qt

/-
  events: Step of a Check where a thing opens; Step, whole.
  events: slices of events that can be read; Whole.
  The reference's Valid (hexaplaref01): whether a text has characters.
  names: Join of the program.
  The reference's Local and Space (hexaplaref04): the same answers.
-/
import Derived.Test.YtkghdieakpipkaaGreatDoorAnU15
import Derived.Test.YtkghdieakpipkaaGreatDoorAnU07
import Derived.Test.YtkghdieakpipkaaGreatDoorAnU09
namespace Go.Proofs.YtkghdieakpipkaaGreatDoor
open Go.RowKit Go.Maps
set_option maxRecDepth 100000

theorem Tryz.infoPart : (Tryz.prog.info? 78).map (fun i => (i.zero, i.size, i.bytes)) = some (some (.agg #[.int .i64 0, .int .i64 0, .map none]), 3, 24) := by kernel_rfl
theorem cellsOf3 (w : World) (a b c : Value) (t : TypeId) : ∀ j u, [a, b, c][j]? = some u → (w.alloc (.cells #[a, b, c] t)).cell? ((⟨w.heap.size, 0, none⟩ : Addr).add j) = some u := by
  intro j u hj
  rw [addr_add0]
  exact (Blk.new w t #[a, b, c]).cell j |>.trans (by simpa using hj)
theorem rowN_shape {w : World} {base : Nat} {e : TypeId} {size n : Nat} {v : Value} {xs : List Value} (h : w.ownsRow base e size v n xs) (hn : 0 < n) : ∃ r c, v = .slice (some ⟨r, 0, none⟩) n c := by
  rcases h.2 with ⟨rfl, rfl⟩ | ⟨g, cap, cur, rfl, _⟩
  · omega
  · exact ⟨_, _, rfl⟩

theorem CRep.far_row {w w2 : World} {base g rb cap : Nat} {qs : List PQ} {n : Nat} (h : CRep w base g rb cap qs) (hg : w.grownBy w2 (Value.slice (some ⟨rb, 0, none⟩) n cap).ownBlock) : Blk w2 g 81 #[.slice (some ⟨rb, 0, none⟩) qs.length cap] :=
  h.blk.grown hg (by intro e; injection e with e; exact h.rb_ne e)
theorem CRep.pushed {w w2 : World} {base g rb cap rb2 c2 : Nat} {qs : List PQ} {k : Int} (h : CRep w base g rb cap qs) (hg : w.grownBy w2 (Value.slice (some ⟨rb, 0, none⟩) qs.length cap).ownBlock)
    (hr : w2.ownsRow base 78 3 (.slice (some ⟨rb2, 0, none⟩) (qs.length + 1) c2) (qs.length + 1) (qcs qs ++ [.int .i64 k, .int .i64 0, .map none])) :
    CRep (w2.setCell ⟨g, 0, none⟩ (.slice (some ⟨rb2, 0, none⟩) (qs.length + 1) c2)) base g rb2 c2 (⟨⟨k, 0, []⟩, none⟩ :: qs) ∧ Tch base cObj w (w2.setCell ⟨g, 0, none⟩ (.slice (some ⟨rb2, 0, none⟩) (qs.length + 1) c2)) := by
  have hk2 := h.far_row hg
  obtain ⟨cur, hcur⟩ := h.row_obj
  have T1 : Tch base cObj w w2 := Tch.of_grown hg h.rb_ge hcur (.inr rfl)
  refine ⟨⟨h.hg, hk2.set_ 0 _, ?_, ?_⟩, T1.set hk2 h.hg (.inl rfl) 0 _⟩
  · refine World.ownsRow.kept (row := some g) hr (only_setCell (p := ⟨g, 0, none⟩) (World.grownBy.refl _ (some g)) (.inl rfl) _) (.inr ?_)
    intro e
    obtain ⟨cur2, hcur2⟩ := Go.Proofs.YtkghdieakpipkaaGreatDoor.row_obj hr e
    unfold Blk at hk2
    rw [hk2] at hcur2
    cases hcur2
  · refine ⟨fun b hb => (by cases hb), rfl, ?_⟩
    refine h.maps.keep fun _ _ b _ hb => ?_
    have hne := h.map_ne hb
    refine (Below.heap_setCell w2 ⟨g, 0, none⟩ _ b hne.1).trans (hg.block b ?_ ?_)
    · obtain ⟨es, c, hb⟩ := hb
      exact (Array.getElem?_eq_some_iff.1 hb).1
    · intro e
      injection e with e
      exact hne.2 e

theorem CRep.set_lastX {w : World} {base g rb cap b : Nat} {q : PQ} {r : List PQ} {x : Ev} (h : CRep w base g rb cap (q :: r)) (hX : EvAt w b x) :
    CRep (w.setCell ⟨rb, r.length * 3 + 1, none⟩ (.int .i64 x.k)) base g rb cap (⟨{ q.p with last := x.k }, q.m⟩ :: r) ∧ Tch base cObj w (w.setCell ⟨rb, r.length * 3 + 1, none⟩ (.int .i64 x.k)) ∧
    EvAt (w.setCell ⟨rb, r.length * 3 + 1, none⟩ (.int .i64 x.k)) b x :=
  ⟨h.set_last _, h.touch _ _, hX.of_c (h.touch _ _)⟩
section
variable (w : World) (base g rb cap : Nat) (q : PQ) (r : List PQ) (x : Ev)
set_option maxHeartbeats 4000000 in
theorem step_open (h : CRep w base g rb cap (q :: r)) (hl : r.length ≤ 6) (hw : Nm.StdW w) (hs : x.t.size ≤ 140737488355328) (hf : formedB x = true) (hn : contB q.p.kind q.p.last x.k (emptyT x.t) = true) (hk : opensK x.k = true) (h6 : ¬ 6 ≤ r.length) :
    Calls Tryz.prog 27 #[.pointer (some ⟨g, 0, none⟩), evV x] w (SPost w base g (ptsOf (q :: r)) x) := by
  have hne : endsK x.k = false := opens_not_ends' hk
  have hE : stepE (ptsOf (q :: r)) x = 0 := by rw [ptsOf_cons]; simp only [stepE]; rw [if_neg (by rw [hf, hn]; decide), if_neg (by rw [hne]; decide), if_pos hk, if_neg (by rw [ptsOf_len]; exact h6)]
  have hS : stepS (ptsOf (q :: r)) x = ptsOf (⟨⟨x.k, 0, []⟩, none⟩ :: ⟨{ q.p with last := x.k }, q.m⟩ :: r) := by
    unfold stepS; rw [hE, if_pos rfl, ptsOf_cons]; simp only [goS]; rw [if_neg (by rw [hne]; decide), if_pos hk]; rfl
  unfold SPost
  rw [hE, hS]
  clear hE hS hne
  have hF := fun w' h => @formedV x w' h hs
  have hN := fun w' h => @continuesV base g rb cap q r x w' h
  have hD : ∀ w', CRep w' base g rb cap (q :: r) → Calls Tryz.prog 45 #[.pointer (some ⟨g, 0, none⟩)] w' fun e w'' => e = .returned (.int .i64 r.length) ∧ w'' = w' := by
    intro w' hw'
    refine (depth_any w' base g _ ⟨rb, cap, q :: r, rfl, hw'⟩ (by rw [ptsOf_len]; simp; omega)).mono ?_
    rintro e w'' ⟨rfl, rfl⟩
    rw [ptsOf_len, List.length_cons]
    exact ⟨by congr 2; omega, rfl⟩
  unfold evV
  have HF := Lib.hid hf
  have HC := Lib.hid hn
  have h6i : (r.length : Int) < 6 := by omega
  clear hf hn h6
  unfold opensK at hk
  rw [decide_eq_true_iff] at hk
  have hA := h.alloc (.cells #[.int .i64 x.k, .string x.t, .string x.v] 31)
  have hX := EvAt.new w x
  have hbel := (Below.refl w.heap.size w).alloc (Nat.le_refl _) (.cells #[.int .i64 x.k, .string x.t, .string x.v] 31)
  obtain ⟨k, t, v⟩ := x
  simp only at *
  rcases hk with rfl | rfl | rfl
  all_goals
    have hc := hA.c
    have hltA := hA.lt
    have hlrA := hA.rb_lt
    go_enter Tryz.func27, Tryz.ntmps27
    go_wp2_with fail
    go_quiet (fail)
    rename_i nq
    replace hA := hA.drewN nq
    replace hX := hX.drewN nq
    replace hbel := below_drewN hbel nq
    generalize World.drewN _ nq = w1 at *
    have hw1 := hw.below hbel
    have x0 := hX.c0
    have x1 := hX.c1
    have x2 := hX.c2
    go_wp2_with (first
      | (go_at_call 42; refine (hF _ hw1).mono ?_; rintro e w2 ⟨rfl, hb2⟩; rw [HF.out]; have hA2 := hA.below hb2; have hX2 := hX.below hb2; have y0 := hX2.c0; have y1 := hX2.c1; have y2 := hX2.c2)
      | (go_at_call 43; refine (hN _ hA2).mono ?_; rintro e w3 ⟨rfl, hb3⟩; rw [HC.out]; have hA3 := hA2.below hb3; have hX3 := hX2.below hb3; have z0 := hX3.c0; have fz := hA3.frz (r.length * 3 + 1); have lc := hA3.c1; have lr := hA3.rb_lt)
      | (go_at_call 45; refine (hD _ hA3).mono ?_; rintro e w4 ⟨rfl, rfl⟩))
    obtain ⟨hA5, hT5, hX5⟩ := hA3.set_lastX hX3
    simp only at hA5 hT5 hX5
    generalize w4.setCell _ _ = w5 at *
    have d0 := hX5.c0
    have dc := hA5.c
    have gl := hA5.lt
    have el := Blk.lt hX5
    have hbs : base ≤ w5.heap.size := by have := hA5.hg; have := hA5.lt; omega
    have h63 : (r.length + 1) + 1 ≤ maxLen := by simp only [maxLen]; omega
    have h24 : ((r.length + 1) + 1) * 24 ≤ 140737488355328 := by omega
    have hrow := hA5.drew.row
    go_region_law ((refine step_appG (by rfl) (.tmp 51) (.tmp 55) 79 (by rfl) base 78 _ 3 24 Tryz.underlying79 Tryz.infoPart (by rfl) (by decide) (.slice (some ⟨rb, 0, none⟩) (r.length + 1) cap) (r.length + 1) _ [.int .i64 _, .int .i64 0, .map none] (by rfl) (by exact World.ownsRow.alloc hrow _) (by simp [Value.oneCell']) ⟨w5.heap.size, 0, none⟩ 1 1 (by rfl) (by rfl) (by exact cellsOf3 w5.drew _ _ _ _) h63 h24 (by simp; omega) ?_; intro v2 w6 hown hg6; obtain ⟨rb2, c2, rfl⟩ := rowN_shape hown (Nat.succ_pos _); have hk6 := (hA5.drew.alloc (.cells #[.int .i64 _, .int .i64 0, .map none] 78)).far_row hg6; have ec0 := hk6.cell 0; have ef0 := hk6.frozen 0; have el0 := hk6.lt))
    all_goals
      go_wp2
      go_ret
      obtain ⟨r1, r2⟩ := (hA5.drew.alloc (.cells #[.int .i64 _, .int .i64 0, .map none] 78)).pushed hg6 hown
      exact ⟨rfl, ⟨rb2, c2, _, rfl, r1⟩, ((((((Tch.of_below hbel).trans (Tch.of_below hb2)).trans (Tch.of_below hb3)).trans hT5).drew).alloc _).trans r2⟩

theorem step_rep (h : CRep w base g rb cap (q :: r)) (hl : r.length ≤ 6) (hw : Nm.StdW w) (hs : x.t.size ≤ 140737488355328) :
    Calls Tryz.prog 27 #[.pointer (some ⟨g, 0, none⟩), evV x] w (SPost w base g (ptsOf (q :: r)) x) := by
  cases hf : formedB x with
  | false => exact step_bad w base g rb cap q r x h hl hw hs (.inl hf)
  | true =>
    cases hn : contB q.p.kind q.p.last x.k (emptyT x.t) with
    | false => exact step_bad w base g rb cap q r x h hl hw hs (.inr hn)
    | true =>
      by_cases h1 : endsK x.k = true
      · exact step_close w base g rb cap q r x h hl hw hs hf hn h1
      by_cases h2 : opensK x.k = true
      · by_cases h6 : 6 ≤ r.length
        · exact step_deep w base g rb cap q r x h hl hw hs hf hn h2 h6
        · exact step_open w base g rb cap q r x h hl hw hs hf hn h2 h6
      by_cases h3 : x.k = 8 ∨ x.k = 11
      · exact step_key w base g rb cap q r x h hl hw hs hf hn h3
      · refine step_plain w base g rb cap q r x h hl hw hs hf hn ?_
        unfold endsK at h1
        unfold opensK at h2
        rw [decide_eq_true_iff] at h1 h2
        unfold formedB bareK at hf
        repeat' split at hf
        all_goals first
          | omega
          | (exfalso; exact absurd hf (by decide))
          | (rename_i hb; rw [decide_eq_true_iff] at hb; omega)
end
theorem estep_any (w : World) (base g : Nat) (st : List Pt) (x : Ev) (h : CAt w base g st) (hg : Good st) (hw : Nm.StdW w) (hs : x.t.size ≤ 140737488355328) :
    Calls Tryz.prog 27 #[.pointer (some ⟨g, 0, none⟩), evV x] w (SPost w base g st x) := by
  obtain ⟨rb, cap, qs, rfl, h⟩ := h
  cases qs with
  | nil => exact hg.1.elim
  | cons q r => exact step_rep w base g rb cap q r x h (by have := hg.2; rw [ptsOf_cons, List.length_cons, ptsOf_len] at this; omega) hw hs
end Go.Proofs.YtkghdieakpipkaaGreatDoor
namespace Go.Proofs.YtkghdieakpipkaaGreatDoor
open Go.RowKit Go.Maps
set_option maxRecDepth 100000

def okE (x : Ev) : Prop := -9223372036854775808 ≤ x.k ∧ x.k ≤ 9223372036854775807 ∧ x.t.size ≤ 140737488355328 ∧ x.v.size ≤ 140737488355328
/-- A slice of events that can be read. -/
def ERead (w : World) (v : Value) (xs : List Ev) : Prop :=
  ∃ A c, v = .slice A xs.length c ∧ xs.length ≤ c ∧ c ≤ maxLen ∧ (0 < xs.length → ∃ b o : Nat, A = some ⟨b, o, none⟩ ∧ ∀ j (h : j < xs.length),
    w.cell? ⟨b, o + j * 3, none⟩ = some (.int .i64 (xs[j]).k) ∧ w.cell? ⟨b, o + j * 3 + 1, none⟩ = some (.string (xs[j]).t) ∧ w.cell? ⟨b, o + j * 3 + 2, none⟩ = some (.string (xs[j]).v))
theorem ERead.below {w w' : World} {v : Value} {xs : List Ev} (h : ERead w v xs) (hb : Below w.heap.size w w') : ERead w' v xs := by
  obtain ⟨A, c, rfl, h1, h2, h3⟩ := h
  refine ⟨A, c, rfl, h1, h2, fun hp => ?_⟩
  obtain ⟨b, o, rfl, hc⟩ := h3 hp
  refine ⟨b, o, rfl, fun j hj => ?_⟩
  obtain ⟨c0, c1, c2⟩ := hc j hj
  exact ⟨(hb.cell (cell_lt c0)).trans c0, (hb.cell (cell_lt c1)).trans c1, (hb.cell (cell_lt c2)).trans c2⟩
theorem ERead.take {w : World} {A : Option Addr} {n c : Nat} {xs : List Ev} (h : ERead w (.slice A n c) xs) {k : Nat} (hk : k ≤ xs.length) : ERead w (.slice A k c) (xs.take k) := by
  obtain ⟨A', c', hv, h1, h2, h3⟩ := h
  injection hv with e1 e2 e3
  subst e1 e2 e3
  have hl : (xs.take k).length = k := by rw [List.length_take, Nat.min_eq_left hk]
  refine ⟨A, c, by rw [hl], by omega, h2, fun hp => ?_⟩
  obtain ⟨b, o, rfl, hc⟩ := h3 (by omega)
  refine ⟨b, o, rfl, fun j hj => ?_⟩
  rw [List.getElem_take]
  exact hc j (by omega)

/-- What Whole tells. -/
def WEnd (p : Nat × Int) : Ending := .returned (.tuple #[.int .i64 p.1, .int .i64 p.2])

end Go.Proofs.YtkghdieakpipkaaGreatDoor
namespace Go.Proofs.YtkghdieakpipkaaGreatDoor
open Go.RowKit
set_option maxRecDepth 100000

theorem valid_any (s : ByteArray) (w : World) (hm : s.size ≤ 1099511627776) :
    Calls Tryz.prog 82 #[.string s] w fun e w' => e = .returned (.bool (runesL s.data.toList).isSome) ∧ Below w.heap.size w w' := by
  go_enter Tryz.func82, Tryz.ntmps82
  go_wp2_with (first
    | (go_at_call 94; refine (rrunes_any s _ hm).mono ?_; rintro e w1 ⟨v, rfl, _, hb1⟩))
  go_ret
  exact ⟨rfl, hb1⟩

end Go.Proofs.YtkghdieakpipkaaGreatDoor
namespace Go.Proofs.YtkghdieakpipkaaGreatDoor
open Go.RowKit Go.Maps
set_option maxRecDepth 100000

def JoinEnd (s l : List UInt8) : Ending :=
  match joinL s l with
  | none => .returned (.tuple #[.string ⟨#[]⟩, .bool false])
  | some f => .returned (.tuple #[.string ⟨f.toArray⟩, .bool true])
theorem joinEnd_none {s l : List UInt8} (h : joinL s l = none) : JoinEnd s l = .returned (.tuple #[.string ⟨#[]⟩, .bool false]) := by unfold JoinEnd; rw [h]
theorem joinEnd_some {s l f : List UInt8} (h : joinL s l = some f) : JoinEnd s l = .returned (.tuple #[.string ⟨f.toArray⟩, .bool true]) := by unfold JoinEnd; rw [h]
theorem joined_str (s l : ByteArray) : (⟨#[123]⟩ ++ s ++ ⟨#[125]⟩ ++ l : ByteArray) = ⟨(123 :: (s.data.toList ++ 125 :: l.data.toList)).toArray⟩ := by
  apply ByteArray.ext
  apply Array.toList_inj.1
  simp
theorem joined_size (s l : ByteArray) : (⟨#[123]⟩ ++ s ++ ⟨#[125]⟩ ++ l : ByteArray).size = s.size + l.size + 2 := by
  simp only [ByteArray.size_append]
  show 1 + s.size + 1 + l.size = _
  omega

end Go.Proofs.YtkghdieakpipkaaGreatDoor
namespace Go.Proofs.YtkghdieakpipkaaGreatDoor
open Go.RowKit Go.Maps
set_option maxRecDepth 100000

/-- All bytes up to k may stand in a local name, the first at its head. -/
def locAt (l : List UInt8) (k : Nat) : Prop := (l.take k).all (fun d => laterB (d.toNat : Int)) = true ∧ (0 < k → ∀ c t, l = c :: t → firstB (c.toNat : Int) = true)
theorem loc_head {s : ByteArray} (h : 0 < s.size) {k : Nat} (hk : 0 < k) (hl : locAt s.data.toList k) : firstB (s[0].toNat : Int) = true := hl.2 hk _ _ (bytes_cons s h)
theorem loc_end {s : ByteArray} (h0 : 0 < s.size) (h16 : s.size ≤ 16) (hl : locAt s.data.toList s.size) : localL s.data.toList = true := by
  have h1 := hl.1
  rw [List.take_of_length_le (by simp)] at h1
  rw [local_eq s h0 h16, loc_head h0 h0 hl, h1]
  rfl
theorem loc_step {s : ByteArray} {k : Nat} (h0 : 0 < s.size) (hlt : k < s.size) (hl : locAt s.data.toList k) (hb : laterB (s[k].toNat : Int) = true) (hz : k = 0 → firstB (s[0].toNat : Int) = true) : locAt s.data.toList (k + 1) := by
  refine ⟨(all_snoc hlt hl.1).trans hb, fun _ c t hct => ?_⟩
  have e := bytes_cons s h0
  rw [hct] at e
  injection e with e1 _
  rw [e1]
  by_cases hk : k = 0
  · exact hz hk
  · exact loc_head h0 (by omega) hl
theorem loc_bad {s : ByteArray} {k : Nat} (h0 : 0 < s.size) (h16 : s.size ≤ 16) (hlt : k < s.size) (hb : laterB (s[k].toNat : Int) = false) : localL s.data.toList = false := by
  rw [local_eq s h0 h16, all_break (p := fun d => laterB (d.toNat : Int)) hlt hb, Bool.and_false]
theorem loc_bad0 {s : ByteArray} (h0 : 0 < s.size) (h16 : s.size ≤ 16) (hb : firstB (s[0].toNat : Int) = false) : localL s.data.toList = false := by
  rw [local_eq s h0 h16, hb, Bool.false_and]

set_option maxHeartbeats 2000000 in
theorem rlocal_any (s : ByteArray) (w : World) (hm : s.size ≤ 140737488355328) :
    Calls Tryz.prog 33 #[.string s] w fun e w' => e = .returned (.bool (localL s.data.toList)) ∧ w = w' := by
  by_cases h0 : s.size = 0
  · rw [local_long s (.inl h0)]
    have hs : s = ⟨#[]⟩ := ByteArray.ext (Array.eq_empty_of_size_eq_zero h0)
    subst hs
    go_enter Tryz.func33, Tryz.ntmps33
    go_wp2
    go_ret
    exact ⟨rfl, rfl⟩
  by_cases h16 : 16 < s.size
  · rw [local_long s (.inr h16)]
    go_enter Tryz.func33, Tryz.ntmps33
    go_wp2
    go_ret
    exact ⟨rfl, rfl⟩
  have hp : 0 < s.size := by omega
  have h16' : s.size ≤ 16 := by omega
  go_enter Tryz.func33, Tryz.ntmps33
  go_wp2
  go_loop [3] (fun i => ∃ k : Nat, k ≤ s.size ∧ i = .int .i64 k ∧ Hid (locAt s.data.toList k)) (fun i => s.size - (intOf i).toNat)
  case atStart => exact ⟨0, Nat.zero_le _, rfl, Lib.hid ⟨rfl, fun h => absurd h (by decide)⟩⟩
  case round =>
    obtain ⟨k, hk, rfl, HK⟩ := hrel
    by_cases hlt : k < s.size
    · have HB := fun h => Lib.hid (loc_bad hp h16' hlt h)
      have HB0 := fun h => Lib.hid (loc_bad0 hp h16' h)
      have HS := fun h1 h2 => Lib.hid (loc_step hp hlt HK.out h1 h2)
      clear HK
      go_wp2
      all_goals clear hm h0 h16 h16' hk
      all_goals first
        | (go_ret; refine ⟨ret_bool (Eq.symm ?_), rfl⟩)
        | (go_round
           case rel =>
             refine ⟨k + 1, by omega, by go_num, HS ?_ ?_⟩
             · clear HB HB0 HS
               simp only [laterB]
               rw [decide_eq_true_iff]
               simp at *
               try omega
             · rintro rfl
               clear HB HB0 HS
               simp only [firstB]
               rw [decide_eq_true_iff]
               simp at *
               try omega
           case measure => simp [intOf]; omega)
      all_goals
        rcases Bool.eq_false_or_eq_true (laterB (s[k].toNat : Int)) with hL | hL
        · have hk0 : k = 0 := by
            rcases Nat.eq_zero_or_pos k with h | h
            · exact h
            · exfalso
              clear HB HB0 HS
              unfold laterB at hL
              simp [h] at *
              try omega
          subst hk0
          refine (HB0 ?_).out
          clear HB HB0 HS hL
          simp only [firstB]
          rw [decide_eq_false_iff_not]
          simp at *
          try omega
        · exact (HB hL).out
    · have hkn : k = s.size := by omega
      subst hkn
      have HE := Lib.hid (loc_end hp h16' HK.out)
      go_wp2
      go_ret
      rw [HE.out]
      exact ⟨rfl, rfl⟩

theorem badB_false {b : Int} (h : 33 ≤ b) (h1 : b ≠ 123) (h2 : b ≠ 125) (h3 : b ≠ 34) (h4 : b ≠ 60) (h5 : b ≠ 62) (h6 : b ≠ 38) (h7 : b ≠ 92) : badB b = false := by
  unfold badB
  rw [decide_eq_false_iff_not]
  omega

set_option maxHeartbeats 1000000 in
theorem rspace_any (s : ByteArray) (w : World) (hm : s.size ≤ 1099511627776) :
    Calls Tryz.prog 95 #[.string s] w fun e w' => e = .returned (.bool (spaceL s.data.toList)) ∧ Below w.heap.size w w' := by
  have hl : s.data.toList.length = s.size := by simp
  rcases Bool.eq_false_or_eq_true (runesL s.data.toList).isSome with hv | hv
  case inr =>
    rw [show spaceL s.data.toList = false by unfold spaceL; rw [hv]; rfl]
    have HV := Lib.hid hv
    clear hv hl
    go_enter Tryz.func95, Tryz.ntmps95
    go_wp2_with (first
      | (go_at_call 82; refine (valid_any s _ hm).mono ?_; rintro e w1 ⟨rfl, hb1⟩; rw [HV.out]))
    go_ret
    exact ⟨rfl, hb1⟩
  case inl =>
    have HV := Lib.hid hv
    by_cases h0 : s.size = 0 ∨ 48 < s.size
    · rw [space_long s h0]
      clear hv hl
      rcases h0 with h0 | h0
      · have hs : s = ⟨#[]⟩ := ByteArray.ext (Array.eq_empty_of_size_eq_zero h0)
        subst hs
        clear h0
        go_enter Tryz.func95, Tryz.ntmps95
        go_wp2_with (first
          | (go_at_call 82; refine (valid_any _ _ hm).mono ?_; rintro e w1 ⟨rfl, hb1⟩; rw [HV.out]))
        go_ret
        exact ⟨rfl, hb1⟩
      · go_enter Tryz.func95, Tryz.ntmps95
        go_wp2_with (first
          | (go_at_call 82; refine (valid_any s _ hm).mono ?_; rintro e w1 ⟨rfl, hb1⟩; rw [HV.out]))
        go_ret
        exact ⟨rfl, hb1⟩
    have h1 : 1 ≤ s.size := by omega
    have h48 : s.size ≤ 48 := by omega
    have hR := space_eq s (by omega) (by omega)
    rw [hv, Bool.true_and] at hR
    generalize hgl : spaceL s.data.toList = R at *
    have HR := Lib.hid hR
    clear hR hgl h0 hv hl
    go_enter Tryz.func95, Tryz.ntmps95
    go_wp2_with (first
      | (go_at_call 82; refine (valid_any s _ hm).mono ?_; rintro e w1 ⟨rfl, hb1⟩; rw [HV.out]))
    go_loop [4] (fun i => ∃ k : Nat, k ≤ s.size ∧ i = .int .i64 k ∧ Hid ((s.data.toList.take k).all (fun d => !badB (d.toNat : Int)) = true)) (fun i => s.size - (intOf i).toNat)
    case atStart => exact ⟨0, Nat.zero_le _, rfl, Lib.hid rfl⟩
    case round =>
      obtain ⟨k, hk, rfl, HK⟩ := hrel
      by_cases hlt : k < s.size
      · have HX := fun hb => Lib.hid (all_break (p := fun d => !badB (d.toNat : Int)) hlt hb)
        have HY := Lib.hid (all_snoc (p := fun d => !badB (d.toNat : Int)) hlt HK.out)
        clear HK
        go_wp2
        all_goals first
          | (go_ret
             refine ⟨ret_bool ?_, hb1⟩
             rw [HR.out, (HX ?_).out]
             clear HX HY HR HV
             simp [badB] at *
             try omega)
          | (go_round
             case rel =>
               refine ⟨k + 1, by omega, by go_num, Lib.hid (HY.out.trans ?_)⟩
               clear HX HY HR HV
               rw [badB_false]
               all_goals (simp at *; try omega)
             case measure => simp [intOf]; omega)
      · go_wp2
        go_ret
        refine ⟨ret_bool ?_, hb1⟩
        have hK := HK.out
        rw [List.take_of_length_le (by simp; omega)] at hK
        rw [HR.out, hK]
end Go.Proofs.YtkghdieakpipkaaGreatDoor

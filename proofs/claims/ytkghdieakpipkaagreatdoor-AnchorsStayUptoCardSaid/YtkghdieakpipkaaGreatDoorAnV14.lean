/-
  A list of events that a call has made: appended to, read; it and a Check keep clear of each other.
  slices.Index and slices.Contains at strings.
-/
import Derived.Test.YtkghdieakpipkaaGreatDoorAnV13
import Derived.Test.YtkghdieakpipkaaGreatDoorAnV04
import Derived.Test.YtkghdieakpipkaaGreatDoorAnV05
import Derived.Test.YtkghdieakpipkaaGreatDoorAnV10
import Derived.BigQuiet
namespace Go.Proofs.YtkghdieakpipkaaGreatDoor
open Go.RowKit Go.Maps
set_option maxRecDepth 100000

def evc (x : Ev) : List Value := [.int .i64 x.k, .string x.t, .string x.v]
def evcs (l : List Ev) : List Value := l.flatMap evc
theorem evcs_len (l : List Ev) : (evcs l).length = l.length * 3 := by
  induction l with
  | nil => rfl
  | cons x l ih => simp only [evcs, List.flatMap_cons, List.length_append, List.length_cons] at ih ⊢; rw [ih]; simp [evc]; omega
theorem evcs_get : ∀ (l : List Ev) (k : Nat) (h : k < l.length) (j : Nat) (_ : j < 3), (evcs l)[k * 3 + j]? = (evc l[k])[j]?
  | x :: l, 0, _, j, hj => by
    simp only [evcs, List.flatMap_cons]
    rw [List.getElem?_append_left (by simp [evc]; omega)]
    simp
  | x :: l, k + 1, h, j, hj => by
    have ih := evcs_get l k (by simpa using h) j hj
    simp only [evcs, List.flatMap_cons] at ih ⊢
    rw [List.getElem?_append_right (by simp [evc]; omega), show (k + 1) * 3 + j - (evc x).length = k * 3 + j by simp [evc]; omega, ih]
    simp
theorem evcs_snoc (l : List Ev) (x : Ev) : evcs (l ++ [x]) = evcs l ++ evc x := by simp [evcs]
theorem Tryz.infoEv : (Tryz.prog.info? 31).map (fun i => (i.zero, i.size, i.bytes)) = some (some (.agg #[.int .i64 0, .string ⟨#[]⟩, .string ⟨#[]⟩]), 3, 40) := by kernel_rfl

def ERow (w : World) (base : Nat) (v : Value) (l : List Ev) : Prop := w.ownsRow base 31 3 v l.length (evcs l)
def eObj : Obj → Prop
  | .cells _ t _ => t = 31
  | _ => False
theorem ERow.nil (w : World) (base : Nat) : ERow w base (.slice none 0 0) [] := World.ownsRow_nil w base _ 3
theorem ERow.read {w : World} {base : Nat} {v : Value} {l : List Ev} (h : ERow w base v l) : ERead w v l := by
  have hr := h
  unfold ERow at hr
  rcases hr.2 with ⟨rfl, h0⟩ | ⟨r, c, cur, rfl, hg, hh, hnc, hm, hs, ht⟩
  · exact ⟨none, 0, by rw [h0], by omega, Nat.zero_le _, fun hp => by omega⟩
  · refine ⟨some ⟨r, 0, none⟩, c, rfl, hnc, hm, fun _ => ⟨r, 0, rfl, fun j hj => ?_⟩⟩
    have hat : ∀ i, i < 3 → w.cell? ⟨r, j * 3 + i, none⟩ = (evc l[j])[i]? := by
      intro i hi
      rw [Blk.cell hh, ← evcs_get l j hj i hi, ← ht, List.getElem?_take_of_lt (by omega), Array.getElem?_toList]
    rw [Nat.zero_add]
    have h0 := hat 0 (by omega)
    have h1 := hat 1 (by omega)
    have h2 := hat 2 (by omega)
    exact ⟨h0, h1, h2⟩
theorem ERow.below {w w' : World} {base : Nat} {v : Value} {l : List Ev} (h : ERow w base v l) (hb : Below w.heap.size w w') : ERow w' base v l :=
  row_tch (base := base) (p := fun _ => False) h (Tch.of_below hb) (fun _ _ h => h)
theorem ERow.of_c {w w' : World} {base : Nat} {v : Value} {l : List Ev} (h : ERow w base v l) (ht : Tch base cObj w w') : ERow w' base v l :=
  row_tch h ht (fun _ _ => by simp only [cObj]; decide)
theorem CAt.of_e {w w' : World} {base g : Nat} {st : List Pt} (h : CAt w base g st) (ht : Tch base eObj w w') : CAt w' base g st :=
  h.tch ht (fun cs t fr h hc => by simp only [eObj] at hc; rcases h with rfl | rfl <;> exact absurd hc (by decide)) (fun _ _ hc => hc)
theorem ERow.shape {w : World} {base : Nat} {v : Value} {l : List Ev} (h : ERow w base v l) : ∃ A c, v = .slice A l.length c := by
  rcases h.2 with ⟨rfl, h0⟩ | ⟨g, cap, cur, rfl, _⟩
  · exact ⟨_, _, by rw [h0]⟩
  · exact ⟨_, _, rfl⟩
theorem ERow.alloc {w : World} {base : Nat} {v : Value} {l : List Ev} (h : ERow w base v l) (o : Obj) : ERow (w.alloc o) base v l := World.ownsRow.alloc h o
theorem erow_push {w w' : World} {base : Nat} {v v' : Value} {l : List Ev} {x : Ev} {o : Obj} (h : ERow w base v l) (hg : (w.alloc o).grownBy w' v.ownBlock)
    (hr : w'.ownsRow base 31 3 v' (l.length + 1) (evcs l ++ [.int .i64 x.k, .string x.t, .string x.v])) : ERow w' base v' (l ++ [x]) ∧ Tch base eObj w w' := by
  refine ⟨?_, ((Tch.refl base eObj w).alloc o).trans (Tch.of_row (h.alloc o) hg (Nat.le_refl _) (fun _ => rfl))⟩
  unfold ERow
  rw [evcs_snoc, List.length_append]
  exact hr

end Go.Proofs.YtkghdieakpipkaaGreatDoor
namespace Go.Proofs.YtkghdieakpipkaaGreatDoor
open Go.RowKit Go.Maps
set_option maxRecDepth 100000
set_option linter.unusedSimpArgs false
set_option linter.unusedVariables false

def strV (l : List UInt8) : Value := .string ⟨l.toArray⟩
/-- Index and Contains. -/
theorem str_neq {x y : List UInt8} (h : ¬ x = y) : ((⟨x.toArray⟩ : ByteArray).toList == (⟨y.toArray⟩ : ByteArray).toList) = false ∧ ¬ (⟨x.toArray⟩ : ByteArray).toList = (⟨y.toArray⟩ : ByteArray).toList := str_diff (fun e => h (by have := congrArg (fun z : ByteArray => z.data.toList) e; simpa using this))
def SRead (w : World) (cv : Value) (l : List (List UInt8)) : Prop := ∃ A c, cv = .slice A l.length c ∧ (0 < l.length → ∃ ad : Addr, A = some ad ∧ ∀ j (h : j < l.length), w.cell? (ad.add j) = some (.string ⟨l[j].toArray⟩))
theorem ORow.sread {w : World} {base : Nat} {cv : Value} {l : List (List UInt8)} (h : ORow w base 9 cv (l.map strV)) : SRead w cv l := by
  rcases h.form with ⟨rfl, h0⟩ | ⟨g, cap, rfl, _⟩
  · have : l = [] := by simpa using h0
    subst this
    exact ⟨none, 0, rfl, fun h => absurd h (by simp)⟩
  · refine ⟨some ⟨g, 0, none⟩, cap, by rw [List.length_map], fun _ => ⟨_, rfl, fun j hj => ?_⟩⟩
    obtain ⟨ad, e, _, _, hc⟩ := h.cell (k := j) (by simpa using hj)
    injection e with e
    injection e with e
    subst e
    rw [addr_add0, hc]
    simp [strV]

set_option maxHeartbeats 4000000 in
theorem sindex_any (w : World) (cv : Value) (l : List (List UInt8)) (t : List UInt8) (hv : SRead w cv l) (hl : l.length ≤ 1000000) :
    Calls Tryz.prog 48 #[cv, .string ⟨t.toArray⟩] w fun e w' => (∃ i : Int, e = .returned (.int .i64 i) ∧ (t ∈ l → 0 ≤ i) ∧ (t ∉ l → i = -1)) ∧ ∃ n, w' = w.drewN n := by
  obtain ⟨A, c, rfl, hr⟩ := hv
  go_enter Tryz.func48, Tryz.ntmps48
  go_wp2
  go_loopw [8] (fun i wr => ∃ k : Nat, k ≤ l.length ∧ i = .int .i64 k ∧ Hid (t ∉ l.take k) ∧ ∃ n, wr = w.drewN n) (fun i _ => l.length - (intOf i).toNat)
  case atStart => exact ⟨0, Nat.zero_le _, rfl, Lib.hid (by simp), 0, rfl⟩
  case round =>
    obtain ⟨k, hk, rfl, HT, n, rfl⟩ := hrel
    by_cases hlt : k < l.length
    · obtain ⟨ad, rfl, hc⟩ := hr (by omega)
      have hck : (w.drewN n).cell? (ad.add k) = some (.string ⟨l[k].toArray⟩) := hc k hlt
      by_cases he : t = l[k]
      · have hm : t ∈ l := by rw [he]; exact List.getElem_mem hlt
        have HM := Lib.hid hm
        rw [← he] at hck
        clear he hc hr hm
        go_wp2
        go_ret
        exact ⟨⟨k, rfl, fun _ => by omega, fun h => absurd HM.out h⟩, n, rfl⟩
      · have n1 : (t == l[k]) = false := by rw [beq_eq_false_iff_ne]; exact he
        have HT2 : Hid (t ∉ l.take (k + 1)) := Lib.hid (by
          rw [List.take_succ_eq_append_getElem hlt, List.mem_append]
          rintro (h | h)
          · exact HT.out h
          · simp at h; exact he h)
        generalize l[k] = y at *
        clear he hc hr
        go_wp2
        go_roundw
        case rel => exact ⟨k + 1, hlt, by go_num, HT2, n, rfl⟩
        case measure => first | (simp [intOf]; done) | (simp [intOf]; omega)
    · have hke : k = l.length := by omega
      have h2 := HT.out
      rw [List.take_of_length_le (by omega)] at h2
      have HN := Lib.hid h2
      subst hke
      clear h2 HT hr
      go_wp2
      go_ret
      exact ⟨⟨-1, rfl, fun h => absurd h HN.out, fun _ => rfl⟩, n, rfl⟩
theorem scontains_any (w : World) (cv : Value) (l : List (List UInt8)) (t : List UInt8) (hv : SRead w cv l) (hl : l.length ≤ 1000000) :
    Calls Tryz.prog 32 #[cv, .string ⟨t.toArray⟩] w fun e w' => e = .returned (.bool (decide (t ∈ l))) ∧ ∃ n, w' = w.drewN n := by
  have hC := Lib.hid (sindex_any w cv l t hv hl)
  obtain ⟨q, hq⟩ : ∃ q, decide (t ∈ l) = q := ⟨_, rfl⟩
  rw [hq]
  clear hv
  go_enter Tryz.func32, Tryz.ntmps32
  go_wp2_with fail
  refine hC.out.mono ?_
  rintro e w' ⟨⟨i, rfl, h1, h2⟩, n, rfl⟩
  by_cases hm : t ∈ l
  · have h0 := h1 hm
    have z : decide (0 ≤ i) = true := by simpa using h0
    have hd : decide (t ∈ l) = true := by simpa using hm
    rw [hd] at hq
    subst hq
    clear h1 h2 hm hC hd
    go_wp2
    go_ret
    exact ⟨rfl, n, rfl⟩
  · have h0 := h2 hm
    have hd : decide (t ∈ l) = false := by simpa using hm
    rw [hd] at hq
    subst hq
    clear hd
    subst h0
    clear h1 h2 hm hC
    go_wp2
    go_ret
    exact ⟨rfl, n, rfl⟩
end Go.Proofs.YtkghdieakpipkaaGreatDoor

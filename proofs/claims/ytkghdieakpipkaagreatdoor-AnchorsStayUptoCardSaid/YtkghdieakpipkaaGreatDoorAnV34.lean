/-
  slices.DeleteFunc at strings, its predicate a closure that makes memory alone.
  anchors: an event apart; New, Size, Told; whether a name's events are a document.
  anchors: an event put behind those of a name; what is open then.
-/
import Derived.Test.YtkghdieakpipkaaGreatDoorAnV33
import Derived.Lib.SliceRun
import Derived.Deep.RegionHeld3
namespace Go.Proofs.YtkghdieakpipkaaGreatDoor
open Go.RowKit Go.Maps
set_option maxRecDepth 100000
set_option linter.unusedSimpArgs false
set_option linter.unusedVariables false

theorem row_clear {g n cap : Nat} {e : TypeId} : ∀ (vs : List Value) (o : Nat) (w : World) (xs : List Value), w.ownsRow 0 e 1 (.slice (some ⟨g, 0, none⟩) n cap) n xs →
    ∃ xs', (w.setCells g o vs).ownsRow 0 e 1 (.slice (some ⟨g, 0, none⟩) n cap) n xs' ∧ (∀ m, m ≤ o → xs'.take m = xs.take m) ∧ ∀ S p, S g → p (.cells (#[] : Array Value) e (0, 0)) → (∀ c c' t fr, p (.cells c t fr) → p (.cells c' t fr)) → TS S p w (w.setCells g o vs)
  | [], o, w, xs, h => ⟨xs, h, fun _ _ => rfl, fun S p _ _ _ => TS.refl _ _ _⟩
  | v :: vs, o, w, xs, h => by
    obtain ⟨xs', h1, h2, h3⟩ := row_clear vs (o + 1) (w.setCell ⟨g, o, none⟩ v) (xs.set o v) (rowN_set h o v)
    refine ⟨xs', h1, fun m hm => ?_, fun S p hS hp hc => ?_⟩
    · rw [h2 m (by omega), List.take_set_of_le hm]
    · obtain ⟨_, _, _, _, _, _, cur, hh, _⟩ := rowN_block h
      exact ((TS.refl S p w).set (cs := cur) hh hS (hc _ _ _ _ hp) o v).trans (h3 S p hS hp hc)
theorem filter_none {l : List (List UInt8)} {q : List UInt8 → Bool} (h : ∀ n ∈ l, q n = false) : l.filter (fun n => !q n) = l := by
  rw [List.filter_eq_self]
  intro n hn
  rw [h n hn]; rfl
/-- What is found: the first for which the predicate holds. -/
def IxP (l : List (List UInt8)) (q : List UInt8 → Bool) (i : Int) : Prop :=
  (i = -1 ∧ ∀ n ∈ l, q n = false) ∨ ∃ k : Nat, ∃ h : k < l.length, i = k ∧ q l[k] = true ∧ (l.take k).filter (fun n => !q n) = l.take k
/-- A predicate, in each world that has turned in the row alone. -/
def PdOk (w : World) (g : Nat → Prop) (box : Nat) (l : List (List UInt8)) (q : List UInt8 → Bool) : Prop :=
  ∀ w', TS g kO w w' → ∀ n ∈ l, Calls Tryz.prog 30 #[.string ⟨n.toArray⟩, .pointer (some ⟨box, 0, none⟩)] w' fun e w'' => e = .returned (.bool (q n)) ∧ Below w'.heap.size w' w''
def fvD (box : Nat) : Value := .func (.func 30) #[] #[.pointer (some ⟨box, 0, none⟩)]

set_option maxHeartbeats 4000000 in
theorem ixf_any (w : World) (g : Nat → Prop) (box : Nat) (cv : Value) (l : List (List UInt8)) (q : List UInt8 → Bool) (hv : SRead w cv l) (hl : l.length ≤ 1000) (hp : PdOk w g box l q) :
    Calls Tryz.prog 47 #[cv, fvD box] w fun e w' => (∃ i : Int, e = .returned (.int .i64 i) ∧ IxP l q i) ∧ Below w.heap.size w w' := by
  obtain ⟨A, c, rfl, hr⟩ := hv
  unfold fvD
  go_enter Tryz.func47, Tryz.ntmps47
  go_wp2
  go_loopw [8] (fun i wr => ∃ k : Nat, k ≤ l.length ∧ i = .int .i64 k ∧ Hid (∀ n ∈ l.take k, q n = false) ∧ Hid (Below w.heap.size w wr)) (fun i _ => l.length - (intOf i).toNat)
  case atStart => exact ⟨0, Nat.zero_le _, rfl, Lib.hid (by simp), Lib.hid (Below.refl _ _)⟩
  case round =>
    obtain ⟨k, hk, rfl, HT, HB⟩ := hrel
    by_cases hlt : k < l.length
    · obtain ⟨ad, rfl, hc⟩ := hr (by omega)
      have hck0 := hc k hlt
      have hck : wr.cell? (ad.add k) = some (.string ⟨l[k].toArray⟩) := (HB.out.cell (cell_lt hck0)).trans hck0
      have HP := Lib.hid (hp wr (TS.of_below HB.out) l[k] (List.getElem_mem hlt))
      have hts : l.take (k + 1) = l.take k ++ [l[k]] := List.take_succ_eq_append_getElem hlt
      cases hq : q l[k] with
      | true =>
        have HI : Hid (IxP l q (k : Int)) := Lib.hid (.inr ⟨k, hlt, rfl, hq, filter_none HT.out⟩)
        rw [hq] at HP
        clear hq hts hc hck0 hp hr
        generalize l[k] = y at *
        go_wp2_with fail
        refine HP.out.mono ?_
        rintro e w2 ⟨rfl, hb2⟩
        have HB2 := Lib.hid (HB.out.trans (hb2.mono HB.out.size))
        clear hb2 HP
        go_wp2
        go_ret
        exact ⟨⟨k, rfl, HI.out⟩, HB2.out⟩
      | false =>
        have HT2 : Hid (∀ n ∈ l.take (k + 1), q n = false) := Lib.hid (by
          intro n hn
          rw [hts, List.mem_append] at hn
          rcases hn with hn | hn
          · exact HT.out n hn
          · rw [List.mem_singleton] at hn; rw [hn]; exact hq)
        rw [hq] at HP
        clear hq hts hc hck0 hr
        have HPd := Lib.hid hp
        clear hp
        generalize l[k] = y at *
        go_wp2_with fail
        refine HP.out.mono ?_
        rintro e w2 ⟨rfl, hb2⟩
        have HB2 := Lib.hid (HB.out.trans (hb2.mono HB.out.size))
        clear hb2 HP
        go_wp2
        go_roundw
        case rel => exact ⟨k + 1, hlt, by go_num, HT2, HB2⟩
        case measure => first | (simp [intOf]; done) | (simp [intOf]; omega)
    · have hke : k = l.length := by omega
      have h2 := HT.out
      rw [List.take_of_length_le (by omega)] at h2
      have HN := Lib.hid h2
      subst hke
      clear h2 HT hr hp
      go_wp2
      go_ret
      exact ⟨⟨-1, rfl, .inl ⟨rfl, HN.out⟩⟩, HB.out⟩

theorem xs_at {xs l : List (List UInt8)} {j : Nat} (h : xs.drop j = l.drop j) (hl : xs.length = l.length) (hj : j < l.length) : xs[j]'(by omega) = l[j] := by
  rw [List.drop_eq_getElem_cons (by omega), List.drop_eq_getElem_cons hj] at h
  injection h
/-- What is left of a list up to a place, and what follows. -/
def DelE (l xs : List (List UInt8)) (q : List UInt8 → Bool) (L ci cj : Nat) : Prop := xs.length = L ∧ xs.take ci = (l.take cj).filter (fun n => !q n) ∧ xs.drop cj = l.drop cj
theorem drop_next {xs l : List (List UInt8)} {j : Nat} (h : xs.drop j = l.drop j) : xs.drop (j + 1) = l.drop (j + 1) := by
  rw [← List.drop_drop, ← List.drop_drop, h]

set_option maxHeartbeats 8000000 in
theorem del_any (w : World) (box : Nat) (cv : Value) (l : List (List UInt8)) (q : List UInt8 → Bool) (hr : ORow w 0 9 cv (l.map strV)) (hl : l.length ≤ 1000) (hp : PdOk w (fun k => cv.ownBlock = some k) box l q) :
    Calls Tryz.prog 29 #[cv, fvD box] w fun e w' => ∃ v', e = .returned v' ∧ ORow w' 0 9 v' ((l.filter fun n => !q n).map strV) ∧ (∀ k, v'.ownBlock = some k → cv.ownBlock = some k) ∧ TS (fun k => cv.ownBlock = some k) kO w w' := by
  have hI := ixf_any w _ box cv l q hr.sread hl hp
  have HR := Lib.hid hr
  have HP := Lib.hid hp
  obtain ⟨A, cp, hcv⟩ := hr.shape
  rw [List.length_map] at hcv
  obtain ⟨L, hL⟩ : ∃ L, l.length = L := ⟨_, rfl⟩
  rw [hL] at hcv
  subst hcv
  have HL := Lib.hid hL
  have HI := Lib.hid hI
  clear hr hp hI hL
  unfold fvD at *
  go_enter Tryz.func29, Tryz.ntmps29
  go_wp2_with fail
  refine HI.out.mono ?_
  rintro e w1 ⟨⟨i, rfl, hix⟩, hb1⟩
  have HB1 := Lib.hid hb1
  rcases hix with ⟨rfl, hno⟩ | ⟨k, hk, rfl, hqk, htk⟩
  · have HN := Lib.hid (filter_none hno)
    clear hb1 hno HI
    go_wp2
    go_ret
    exact ⟨_, rfl, by rw [HN.out]; exact HR.out.below HB1.out (row_lt HR.out), fun k h => h, TS.of_below HB1.out⟩
  · have hkL : k < L := by have := HL.out; omega
    have hfr : ∃ g c, (Value.slice A L cp) = .slice (some ⟨g, 0, none⟩) L c ∧ L ≤ c ∧ c ≤ maxLen := by
      rcases HR.out.form with ⟨hv, _⟩ | ⟨g, c, hv, _, _, h1, h2⟩
      · injection hv with _ hv; omega
      · rw [List.length_map, HL.out] at hv h1
        exact ⟨g, c, hv, h1, h2⟩
    obtain ⟨g, c, hv, hLc, hcm⟩ := hfr
    injection hv with h1 _ h3
    subst h1 h3
    have hcm2 : cp ≤ 9223372036854775807 := by simpa [maxLen] using hcm
    have HS0 : Hid (DelE l l q L k (k + 1)) := Lib.hid ⟨HL.out, by rw [List.take_succ_eq_append_getElem hk, List.filter_append, htk]; simp [hqk], rfl⟩
    have HR1 : Hid (w1.ownsRow 0 9 1 (.slice (some ⟨g, 0, none⟩) L cp) L (l.map strV)) := Lib.hid (by
      have := HR.out.below HB1.out (row_lt HR.out)
      unfold ORow at this
      rw [List.length_map, HL.out] at this
      exact this)
    have HT1 : Hid (TS (fun k => (Value.slice (some ⟨g, 0, none⟩) L cp).ownBlock = some k) kO w w1) := Lib.hid (TS.of_below HB1.out)
    have z0 : ((k : Int) == -1) = false := by rw [beq_eq_false_iff_ne]; omega
    clear hb1 hqk htk HI hcm hk
    go_wp2
    go_loopw [5, 6] (fun u5 u6 wr => ∃ (ci cj : Nat) (xs : List (List UInt8)), u5 = .int .i64 (ci : Int) ∧ u6 = .int .i64 (cj : Int) ∧ ci < cj ∧ cj ≤ L ∧ Hid (wr.ownsRow 0 9 1 (.slice (some ⟨g, 0, none⟩) L cp) L (xs.map strV)) ∧
      Hid (DelE l xs q L ci cj) ∧ Hid (TS (fun k => (Value.slice (some ⟨g, 0, none⟩) L cp).ownBlock = some k) kO w wr)) (fun _ u6 _ => L - (intOf u6).toNat)
    case atStart => exact ⟨k, k + 1, l, rfl, by go_num, by omega, by omega, HR1, HS0, HT1⟩
    case round =>
      obtain ⟨ci, cj, xs, rfl, rfl, hij, hjL, HX, HE, HT⟩ := hrel
      by_cases hlt : cj < L
      case pos =>
        have hjl : cj < l.length := by rw [HL.out]; exact hlt
        have hxl : xs.length = l.length := by rw [HE.out.1, HL.out]
        have hxat := xs_at HE.out.2.2 hxl hjl
        have hcell := rowN_cell HX.out (i := cj) (by omega)
        have hcell2 : wr.cell? ⟨g, cj, none⟩ = some (.string ⟨l[cj].toArray⟩) := by
          rw [hcell, List.getElem?_map, List.getElem?_eq_getElem (by omega), hxat]; rfl
        have HPr := Lib.hid (HP.out wr HT.out l[cj] (List.getElem_mem hjl))
        have hts : l.take (cj + 1) = l.take cj ++ [l[cj]] := List.take_succ_eq_append_getElem hjl
        have HTS := Lib.hid hts
        obtain ⟨_, _, _, _, _, hfz, _⟩ := rowN_block HX.out
        have HFz := Lib.hid hfz
        have HD2 := Lib.hid (drop_next HE.out.2.2)
        generalize l[cj] = y at *
        clear hxat hcell hts hfz hjl
        cases hq : q y with
        | true =>
          rw [hq] at HPr
          have HE2 : Hid (DelE l xs q L ci (cj + 1)) := Lib.hid ⟨HE.out.1, by rw [HTS.out, List.filter_append, ← HE.out.2.1]; simp [hq], HD2.out⟩
          clear hq hxl
          go_wp2_with fail
          refine HPr.out.mono ?_
          rintro e w2 ⟨rfl, hb2⟩
          have HX2 := Lib.hid (ORow.below (xs := xs.map strV) (v := .slice (some ⟨g, 0, none⟩) L cp) (by unfold ORow; rw [List.length_map, HE.out.1]; exact HX.out) hb2 (row_lt HX.out))
          have HT2 := Lib.hid (HT.out.trans (TS.of_below (p := kO) hb2))
          clear hb2 HPr hcell2
          go_wp2
          go_roundw
          case rel => exact ⟨ci, cj + 1, xs, rfl, by go_num, by omega, hlt, Lib.hid (by have := HX2.out; unfold ORow at this; rw [List.length_map, HE.out.1] at this; exact this), HE2, HT2⟩
          case measure => first | (simp [intOf]; done) | (simp [intOf]; omega)
        | false =>
          rw [hq] at HPr
          have hci : ci < xs.length := by have := HE.out.1; omega
          have HE2 : Hid (DelE l (xs.set ci y) q L (ci + 1) (cj + 1)) := Lib.hid ⟨by rw [List.length_set]; exact HE.out.1, by
            rw [HTS.out, List.filter_append, ← HE.out.2.1, List.take_succ_eq_append_getElem (by rw [List.length_set]; exact hci), List.take_set_of_le (Nat.le_refl _), List.getElem_set_self]
            simp [hq], by rw [List.drop_set_of_lt (by omega)]; exact HD2.out⟩
          clear hq hxl
          go_wp2_with fail
          refine HPr.out.mono ?_
          rintro e w2 ⟨rfl, hb2⟩
          have hX2 := ORow.below (xs := xs.map strV) (v := .slice (some ⟨g, 0, none⟩) L cp) (by unfold ORow; rw [List.length_map, HE.out.1]; exact HX.out) hb2 (row_lt HX.out)
          unfold ORow at hX2
          rw [List.length_map, HE.out.1] at hX2
          have hT2 := HT.out.trans (TS.of_below (p := kO) hb2)
          obtain ⟨_, _, _, _, _, hfz2, cur, hh, hcs, _⟩ := rowN_block hX2
          have fz2 := hfz2 ci
          have hgl := heap_lt hh
          obtain ⟨u0, e0⟩ := row_get hX2 (i := ci) (by omega)
          have HX3 := Lib.hid (rowN_set hX2 ci (strV y))
          have HT3 := Lib.hid (hT2.set (cs := cur) hh rfl rfl ci (strV y))
          clear hb2 HPr hcell2 hX2 hT2 hfz2 hh hcs
          go_wp2
          go_roundw
          case rel => exact ⟨ci + 1, cj + 1, xs.set ci y, by go_num, by go_num, by omega, hlt, Lib.hid (by have := HX3.out; rw [← List.map_set] at this; exact this), HE2, HT3⟩
          case measure => first | (simp [intOf]; done) | (simp [intOf]; omega)
      case neg =>
        have hje : cj = L := by omega
        subst hje
        obtain ⟨_, _, _, _, _, hfz, cur, hh, hcs, _⟩ := rowN_block HX.out
        have hcl : ∀ ty, (Builtin.clear_ #[51] ty #[.slice (some ⟨g, ci, none⟩) (cj - ci) (cp - ci)]).run Tryz.prog wr = .ok (.tuple #[]) (wr.setCells g ci (List.replicate (cj - ci) (.string ⟨#[]⟩))) :=
          fun ty => Lib.run_clear_slice wr _ _ ty _ Tryz.underlying51 (Tryz.zeroValue9) rfl rfl g ci _ _ (by omega) (fun t ht => by
            obtain ⟨u, hu⟩ := row_get HX.out (i := ci + t) (by omega)
            rw [hu]; rfl) (fun t ht => hfz _)
        obtain ⟨xs', hX', htk', hTS'⟩ := row_clear (List.replicate (cj - ci) (.string ⟨#[]⟩)) ci wr (xs.map strV) HX.out
        have HF : Hid (ORow (wr.setCells g ci (List.replicate (cj - ci) (.string ⟨#[]⟩))) 0 9 (.slice (some ⟨g, 0, none⟩) ci cp) ((l.filter fun n => !q n).map strV) ∧ TS (fun k => (Value.slice (some ⟨g, 0, none⟩) cj cp).ownBlock = some k) kO w (wr.setCells g ci (List.replicate (cj - ci) (.string ⟨#[]⟩)))) := Lib.hid (by
          refine ⟨?_, HT.out.trans (hTS' _ _ rfl rfl (fun _ _ _ _ h => h))⟩
          have h1 := rowN_cut hX' (m := ci) (by omega)
          rw [Nat.mul_one, htk' ci (Nat.le_refl _), ← List.map_take, HE.out.2.1, List.take_of_length_le (by rw [HL.out]; exact Nat.le_refl _)] at h1
          have h2 : ((l.filter fun n => !q n).map strV).length = ci := by
            have h3 := congrArg List.length HE.out.2.1
            rw [List.take_of_length_le (l := l) (by rw [HL.out]; exact Nat.le_refl _), List.length_take, HE.out.1] at h3
            rw [List.length_map, ← h3]
            omega
          unfold ORow
          rw [h2]
          exact h1)
        clear hfz hh hcs hX' htk' hTS'
        go_wp2
        go_ret
        exact ⟨_, rfl, HF.out.1, fun k h => h, HF.out.2⟩
end Go.Proofs.YtkghdieakpipkaaGreatDoor
namespace Go.Proofs.YtkghdieakpipkaaGreatDoor
open Go.RowKit Go.Maps
set_option maxRecDepth 100000
set_option linter.unusedSimpArgs false
set_option linter.unusedVariables false

theorem two_blk {w : World} {c1 c2 : Array Value} {t1 t2 : TypeId} : Blk ((w.alloc (.cells c1 t1)).alloc (.cells c2 t2)) w.heap.size t1 c1 ∧ Blk ((w.alloc (.cells c1 t1)).alloc (.cells c2 t2)) (w.heap.size + 1) t2 c2 :=
  ⟨(Blk.new w t1 c1).alloc _, by have := Blk.new (w.alloc (.cells c1 t1)) t2 c2; rw [show (w.alloc (.cells c1 t1)).heap.size = w.heap.size + 1 by simp] at this; exact this⟩
set_option maxHeartbeats 4000000 in
theorem apart_any (w : World) (x : Ev) (h1 : x.t.size ≤ 140737488355328) (h2 : x.v.size ≤ 140737488355328) :
    Calls Tryz.prog 28 #[evV x] w fun e w' => e = .returned (evV x) ∧ Below w.heap.size w w' := by
  obtain ⟨k, t, v⟩ := x
  simp only at h1 h2
  unfold evV
  go_enter Tryz.func28, Tryz.ntmps28
  go_wp2
  obtain ⟨B1, B2⟩ := two_blk (w := w) (c1 := #[.int .i64 k, .string t, .string v]) (c2 := #[.int .i64 0, .string ⟨#[]⟩, .string ⟨#[]⟩]) (t1 := 31) (t2 := 31)
  have hb : Below w.heap.size w ((w.alloc (.cells #[.int .i64 k, .string t, .string v] 31)).alloc (.cells #[.int .i64 0, .string ⟨#[]⟩, .string ⟨#[]⟩] 31)) := ((Below.refl _ _).alloc (Nat.le_refl _) _).alloc (by simp) _
  generalize hW : (w.alloc (.cells #[.int .i64 k, .string t, .string v] 31)).alloc (.cells #[.int .i64 0, .string ⟨#[]⟩, .string ⟨#[]⟩] 31) = W at *
  have hsz : w.heap.size + 2 = W.heap.size := by rw [← hW]; simp
  clear hW
  have x0 : W.cell? ⟨w.heap.size, 0, none⟩ = some (.int .i64 k) := B1.cell 0
  have x1 : W.cell? ⟨w.heap.size, 1, none⟩ = some (.string t) := B1.cell 1
  have x2 : W.cell? ⟨w.heap.size, 2, none⟩ = some (.string v) := B1.cell 2
  have HC : Hid (∀ (s : ByteArray) (w' : World), s.size ≤ 140737488355328 → Calls Tryz.prog 24 #[.string s] w' fun e w'' => e = .returned (.string s) ∧ Below w'.heap.size w' w'') := Lib.hid fun s w' h => clone_any s w' h
  have HB := Lib.hid hb
  have HS := Lib.hid hsz
  have HX := Lib.hid (And.intro x0 (And.intro x1 x2))
  have HB2 := Lib.hid B2
  have HL := Lib.hid (below_drew (Below.refl W.heap.size W))
  clear hsz B1 B2 hb x0 x1 x2
  go_region_held3 (fun w' => w'.cell? ⟨w.heap.size, 0, none⟩ = some (.int .i64 k) ∧ w'.cell? ⟨w.heap.size, 1, none⟩ = some (.string t) ∧ w'.cell? ⟨w.heap.size, 2, none⟩ = some (.string v))
    (first
      | exact ⟨(HL.out.cell (cell_lt HX.out.1)).trans HX.out.1, (HL.out.cell (cell_lt HX.out.2.1)).trans HX.out.2.1, (HL.out.cell (cell_lt HX.out.2.2)).trans HX.out.2.2⟩
      | go_keep)
    (first
      | (go_at_call 24; refine (HC.out t _ h1).mono ?_; rintro e w2 ⟨rfl, hb2⟩; replace HL := Lib.hid (HL.out.trans (hb2.mono HL.out.size)); clear hb2; (try clear s0 s1 s2 f0 f1 f2 bl); have b2 : Blk w2 (w.heap.size + 1) 31 #[.int .i64 0, .string ⟨#[]⟩, .string ⟨#[]⟩] := (HL.out.block _ HB2.out.lt).trans HB2.out; have s0 := b2.cell 0; have s1 := b2.cell 1; have s2 := b2.cell 2; have f0 := b2.frozen 0; have f1 := b2.frozen 1; have f2 := b2.frozen 2; have bl := b2.lt; clear b2)
      | (go_at_call 24; refine (HC.out v _ h2).mono ?_; rintro e w2 ⟨rfl, hb2⟩; replace HL := Lib.hid (HL.out.trans (hb2.mono HL.out.size)); clear hb2; (try clear s0 s1 s2 f0 f1 f2 bl); have b2 : Blk w2 (w.heap.size + 1) 31 #[.int .i64 0, .string ⟨#[]⟩, .string ⟨#[]⟩] := (HL.out.block _ HB2.out.lt).trans HB2.out; have s0 := b2.cell 0; have s1 := b2.cell 1; have s2 := b2.cell 2; have f0 := b2.frozen 0; have f1 := b2.frozen 1; have f2 := b2.frozen 2; have bl := b2.lt; clear b2))
  have b2 : Blk w2 (w.heap.size + 1) 31 #[.int .i64 0, .string ⟨#[]⟩, .string ⟨#[]⟩] := (HL.out.block _ HB2.out.lt).trans HB2.out
  have b3 := ((b2.set_ 0 (.int .i64 k)).set_ 1 (.string t)).set_ 2 (.string v)
  have r0 := b3.cell 0
  have r1 := b3.cell 1
  have r2 := b3.cell 2
  have hbF : Below w.heap.size w (((w2.setCell ⟨w.heap.size + 1, 0, none⟩ (.int .i64 k)).setCell ⟨w.heap.size + 1, 1, none⟩ (.string t)).setCell ⟨w.heap.size + 1, 2, none⟩ (.string v)) :=
    (((HB.out.trans (HL.out.mono HB.out.size)).setCell (p := ⟨w.heap.size + 1, 0, none⟩) (by simp) _).setCell (p := ⟨w.heap.size + 1, 1, none⟩) (by simp) _).setCell (p := ⟨w.heap.size + 1, 2, none⟩) (by simp) _
  have HF := Lib.hid hbF
  clear b2 b3 hbF s0 s1 s2 f0 f1 f2 bl HL HB HX HC
  go_wp2
  refine bodyPost_ret (v := .agg #[.int .i64 k, .string t, .string v]) ?_ rfl ⟨rfl, HF.out⟩
  simp [results, Tryz.results28, go_sem, r0, r1, r2]
end Go.Proofs.YtkghdieakpipkaaGreatDoor
namespace Go.Proofs.YtkghdieakpipkaaGreatDoor
open Go.RowKit Go.Maps
set_option maxRecDepth 100000
set_option linter.unusedSimpArgs false
set_option linter.unusedVariables false

theorem ap_names {K : List ARec} (h : K.Pairwise apartR) : (K.map (·.nm)).Nodup := by
  unfold List.Nodup
  rw [List.pairwise_map]
  exact h.imp fun h => h.1
theorem ap_same {K : List ARec} (h : K.Pairwise apartR) {r q : ARec} (hr : r ∈ K) (hq : q ∈ K) (e : r.nm = q.nm) : r = q := by
  induction K with
  | nil => cases hr
  | cons y K ih =>
    rw [List.pairwise_cons] at h
    rcases List.mem_cons.1 hr with h1 | h1
    · rcases List.mem_cons.1 hq with h2 | h2
      · rw [h1, h2]
      · exact absurd (by rw [← h1]; exact e) (h.1 q h2).1
    · rcases List.mem_cons.1 hq with h2 | h2
      · exact absurd (by rw [← h2]; exact e.symm) (h.1 r h1).1
      · exact ih h.2 h1 h2
theorem apart_of {K : List ARec} (h : K.Pairwise apartR) {r q : ARec} (hr : r ∈ K) (hq : q ∈ K) (e : r.nm ≠ q.nm) : r.p ≠ q.p ∧ ∀ g, r.lv.ownBlock = some g → q.lv.ownBlock ≠ some g := by
  induction K with
  | nil => cases hr
  | cons y K ih =>
    rw [List.pairwise_cons] at h
    rcases List.mem_cons.1 hr with h1 | h1
    · rcases List.mem_cons.1 hq with h2 | h2
      · exact absurd (by rw [h1, h2]) e
      · rw [h1]; exact (h.1 q h2).2
    · rcases List.mem_cons.1 hq with h2 | h2
      · rw [h2]
        obtain ⟨_, h3, h4⟩ := h.1 r h1
        exact ⟨fun e => h3 e.symm, fun g hg hc => h4 g hc hg⟩
      · exact ih h.2 h1 h2
/-- The record of a name, with an event more. -/
def putR (nm : List UInt8) (x : Ev) (lv : Value) (q : ARec) : ARec := if q.nm = nm then { q with evs := q.evs ++ [x], lv := lv } else q
theorem putR_nm (nm : List UInt8) (x : Ev) (lv : Value) (q : ARec) : (putR nm x lv q).nm = q.nm ∧ (putR nm x lv q).p = q.p := by
  unfold putR; split <;> exact ⟨rfl, rfl⟩
theorem lookK_put (nm : List UInt8) (x : Ev) (lv : Value) (n : List UInt8) (K : List ARec) : lookK n (K.map (putR nm x lv)) = lookK n K := by
  induction K with
  | nil => rfl
  | cons q K ih =>
    rw [List.map_cons]
    simp only [lookK]
    rw [(putR_nm nm x lv q).1, (putR_nm nm x lv q).2, ih]
/-- An anchor's slice appended to, and stored. -/
theorem ARest.push {w1 w2 : World} {S : Nat → Prop} {a : Nat} {K : List ARec} {size told mb : Nat} {ov : Value} (h : ARest w1 S a K size told mb ov) {r : ARec} (hr : r ∈ K) {x : Ev} {lv' : Value}
    (hg : w1.grownBy w2 r.lv.ownBlock) (hrow : ERow w2 0 lv' (r.evs ++ [x])) (hnb : NB w1 r.lv lv') (hup : ∀ k, w1.heap.size ≤ k → S k) :
    ARest (w2.setCell ⟨r.p, 0, none⟩ lv') S a (K.map (putR r.nm x lv')) size told mb ov ∧ TS S anyO w1 (w2.setCell ⟨r.p, 0, none⟩ lv') ∧ Blk w2 r.p 61 #[r.lv] ∧ (∀ ov' op, ORow w1 0 9 ov' op → ORow (w2.setCell ⟨r.p, 0, none⟩ lv') 0 9 ov' op) := by
  have hrR := h.recs r hr
  have hT2 : TS S kE w1 w2 := TS.of_row hrR.row hg hrR.sr (fun _ => rfl)
  have hB2 : Blk w2 r.p 61 #[r.lv] := hrR.blk.ts hT2 (.inr (by simp only [kE]; decide))
  have hT3 : TS S kP w2 (w2.setCell ⟨r.p, 0, none⟩ lv') := (TS.refl _ _ _).set hB2 hrR.sp (show kP (.cells _ _ _) from rfl) 0 lv'
  have hown : ∀ g, lv'.ownBlock = some g → S g := fun g hg' => by
    rcases hnb with e | ⟨k, e, hk⟩
    · exact hrR.sr g (by rw [← e]; exact hg')
    · rw [e] at hg'; injection hg' with hg'; subst hg'; exact hup _ hk
  refine ⟨⟨(h.blk.ts hT2 (.inr (by simp only [kE]; decide))).ts hT3 (.inr (by simp only [kP]; decide)), h.sa, h.sm, ?_, ?_, ?_⟩, hT2.any.trans hT3.any, hB2, fun ov' op ho => row_ts (row_ts ho hT2 (.inr fun _ _ => by simp only [kE]; decide)) hT3 (.inr fun _ _ => by simp only [kP]; decide)⟩
  · exact ((h.map.ts hT2 (.inr fun _ _ h => h)).ts hT3 (.inr fun _ _ h => h)).congr (by simp) (fun n => lookK_put _ _ _ _ _)
  · intro q' hq'
    obtain ⟨q, hq, rfl⟩ := List.mem_map.1 hq'
    by_cases e : q.nm = r.nm
    · have : q = r := ap_same h.ap hq hr e
      subst this
      have e2 : putR q.nm x lv' q = { q with evs := q.evs ++ [x], lv := lv' } := by unfold putR; rw [if_pos rfl]
      rw [e2]
      exact ⟨hB2.set_ 0 lv', row_ts hrow hT3 (.inr fun _ _ => by simp only [kP]; decide), hrR.sp, hown⟩
    · have e2 : putR r.nm x lv' q = q := by unfold putR; rw [if_neg e]
      rw [e2]
      have hqR := h.recs q hq
      obtain ⟨hp, ho⟩ := apart_of h.ap hq hr e
      refine ⟨(hqR.blk.ts hT2 (.inr (by simp only [kE]; decide))).far (p := ⟨r.p, 0, none⟩) hp lv', ?_, hqR.sp, hqR.sr⟩
      have hk : ERow w2 0 q.lv q.evs := by
        refine World.ownsRow.kept hqR.row hg ?_
        cases hq2 : q.lv.ownBlock with
        | none => exact .inl rfl
        | some g => exact .inr fun hc => ho g hq2 hc.symm
      exact row_ts hk hT3 (.inr fun _ _ => by simp only [kP]; decide)
  · rw [List.pairwise_map]
    refine (List.Pairwise.imp_of_mem ?_ h.ap)
    intro q1 q2 hq1 hq2 h12
    refine ⟨by rw [(putR_nm _ _ _ _).1, (putR_nm _ _ _ _).1]; exact h12.1, by rw [(putR_nm _ _ _ _).2, (putR_nm _ _ _ _).2]; exact h12.2.1, ?_⟩
    have hlvr : ∀ q ∈ K, q.nm ≠ r.nm → ∀ g, lv'.ownBlock = some g → q.lv.ownBlock ≠ some g := by
      intro q hq e g hg' hc
      rcases hnb with e1 | ⟨k, e1, hk⟩
      · exact (apart_of h.ap hq hr e).2 g hc (by rw [← e1]; exact hg')
      · rw [e1] at hg'; injection hg' with hg'; subst hg'
        have := row_lt (h.recs q hq).row _ hc
        omega
    intro g hg1
    unfold putR at hg1 ⊢
    by_cases e1 : q1.nm = r.nm
    · rw [if_pos e1] at hg1
      have e2 : q2.nm ≠ r.nm := fun e => h12.1 (e1.trans e.symm)
      rw [if_neg e2]
      exact hlvr q2 hq2 e2 g hg1
    · rw [if_neg e1] at hg1
      by_cases e2 : q2.nm = r.nm
      · rw [if_pos e2]
        intro hc
        exact hlvr q1 hq1 e1 g hc hg1
      · rw [if_neg e2]
        exact h12.2.2 g hg1
/-! What is open, behind a step. -/
theorem lookA_mem {m : List AEnt} (hn : (namesA m).Nodup) {e : AEnt} (he : e ∈ m) : lookA e.1 m = some e.2 := by
  induction m with
  | nil => cases he
  | cons q m ih =>
    unfold namesA at hn
    rw [List.map_cons, List.nodup_cons] at hn
    simp only [lookA]
    rcases List.mem_cons.1 he with rfl | he
    · rw [if_pos rfl]
    · have : q.1 ≠ e.1 := fun h => hn.1 (by rw [h]; exact List.mem_map_of_mem he)
      rw [if_neg this]
      exact ih hn.2 he
def qd (m : List AEnt) (n : List UInt8) : Bool := match lookA n m with | some l => knownB l | none => false
theorem pend_push {m : List AEnt} (hn : (namesA m).Nodup) (x : Ev) : namesA (pend (m.map (pushA x))) = (namesA (pend m)).filter fun n => !qd (m.map (pushA x)) n := by
  have hn' : (namesA (m.map (pushA x))).Nodup := by rw [names_push]; exact hn
  have key : ∀ l : List AEnt, (∀ e ∈ l, e ∈ m) → namesA (pend (l.map (pushA x))) = (namesA (pend l)).filter fun n => !qd (m.map (pushA x)) n := by
    intro l
    induction l with
    | nil => intro _; rfl
    | cons e l ih =>
      intro hl
      have ih2 := ih fun q hq => hl q (List.mem_cons_of_mem _ hq)
      have hem := hl e List.mem_cons_self
      have hq : qd (m.map (pushA x)) e.1 = knownB (pushA x e).2 := by
        have h1 : (pushA x e).1 = e.1 := by unfold pushA; split <;> rfl
        have := lookA_mem hn' (List.mem_map_of_mem hem)
        rw [h1] at this
        unfold qd
        rw [this]
      unfold pend namesA at ih2 ⊢
      rw [List.map_cons, List.filter_cons, List.filter_cons]
      cases hk : knownB e.2 with
      | true =>
        have hp : pushA x e = e := by unfold pushA; rw [if_pos hk]
        rw [hp, hk]
        simp only [Bool.not_true, Bool.false_eq_true, if_false]
        exact ih2
      | false =>
        have h1 : (pushA x e).1 = e.1 := by unfold pushA; split <;> rfl
        simp only [Bool.not_false, if_true, List.map_cons, List.filter_cons]
        rw [hq]
        cases hk2 : knownB (pushA x e).2 with
        | true =>
          simp only [Bool.not_true, Bool.false_eq_true, if_false]
          exact ih2
        | false =>
          simp only [Bool.not_false, if_true, List.map_cons, h1]
          rw [ih2]
  exact key m fun _ h => h
theorem mem_pend {K : List ARec} {m : List AEnt} (hK : K.map ARec.ent = m) {op : List (List UInt8)} (hO : op.Perm (namesA (pend m))) {n : List UInt8} (hn : n ∈ op) : ∃ r ∈ K, r.nm = n ∧ knownB r.evs = false := by
  have h1 := hO.mem_iff.1 hn
  unfold namesA pend at h1
  obtain ⟨e, he, rfl⟩ := List.mem_map.1 h1
  rw [List.mem_filter] at he
  rw [← hK] at he
  obtain ⟨r, hr, rfl⟩ := List.mem_map.1 he.1
  exact ⟨r, hr, rfl, by simpa [ARec.ent] using he.2⟩
theorem pend_nodup {m : List AEnt} (hn : (namesA m).Nodup) : (namesA (pend m)).Nodup := by
  unfold namesA pend at *
  exact hn.sublist (List.Sublist.map _ List.filter_sublist)
/-- What a Check takes has a kind that there is, and is not long. -/
theorem kind_of {st : List Pt} {x : Ev} (h : stepE st x = 0) : 1 ≤ x.k ∧ x.k ≤ 12 := by
  have hf : formedB x = true := by
    cases st with
    | nil => simp only [stepE] at h; exact absurd h (by decide)
    | cons p r => exact (cont_of h).1
  unfold formedB at hf
  by_cases h1 : bareK x.k = true
  · unfold bareK at h1; rw [decide_eq_true_iff] at h1; omega
  · rw [if_neg h1] at hf
    by_cases h2 : x.k = 2
    · omega
    · rw [if_neg h2] at hf
      by_cases h3 : x.k = 3
      · omega
      · rw [if_neg h3] at hf
        by_cases h4 : x.k = 4 ∨ x.k = 8
        · omega
        · rw [if_neg h4] at hf
          by_cases h5 : x.k = 10
          · omega
          · rw [if_neg h5] at hf
            by_cases h6 : x.k = 11
            · omega
            · rw [if_neg h6] at hf; cases hf
theorem all_kinds : ∀ (l : List Ev) (st : List Pt), allOk st l → ∀ x ∈ l, 1 ≤ x.k ∧ x.k ≤ 12
  | [], _, _, x, hx => by cases hx
  | y :: l, st, h, x, hx => by
    rcases List.mem_cons.1 hx with rfl | hx
    · exact kind_of h.1
    · exact all_kinds l _ h.2 x hx
theorem ainv_okE {s : Am} (h : AInv s) {e : AEnt} (he : e ∈ s.m) : (∀ x ∈ e.2, okE x) ∧ e.2.length ≤ 200 := by
  have h1 := entSz_le he
  have h2 := h.sz
  have h3 : evsSz e.2 ≤ 200 := by unfold entSz at h1; omega
  refine ⟨fun x hx => ?_, by have := evsSz_len e.2; omega⟩
  have hk := all_kinds _ _ (h.ok e he).1 x hx
  have h4 := evSz_le hx
  unfold evSz at h4
  exact ⟨by omega, by omega, by omega, by omega⟩
end Go.Proofs.YtkghdieakpipkaaGreatDoor

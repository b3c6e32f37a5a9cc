/-
  The reference's Walk; Few and few.
  Nodes: what follows from few, and from their walks (pure).
  Whether two rows of events are the same (the reference).
  What every row of this seat's laws shares: the variables that are listed, a world that holds them, what the walks lean on out of them; (stage 6).
  A slice of events that came in, opened (the seat of stage 6).
-/
import Derived.Test.YtfilonbhcalkoaaGreatDoorTrM40
import Derived.Test.YtfilonbhcalkoaaGreatDoorTrM26
import Derived.Test.YtfilonbhcalkoaaGreatDoorTrM18
import Derived.Test.YtfilonbhcalkoaaGreatDoorTrM06
import Derived.Test.YtfilonbhcalkoaaGreatDoorRows
import Derived.Test.YtfilonbhcalkoaaGreatDoorCards
import Derived.Test.YtfilonbhcalkoaaGreatDoorTie
import Derived.Deep.Slices
import Derived.Deep.Fields
import Derived.ChangeSame
import Derived.SizedLaws
import Derived.ProofKit
import Derived.OpenShut
import Derived.ShutString
import Derived.Deep.DeepHandedRow
import Derived.Lib.LaidTab
import Derived.Lay
import Derived.Stop.LaidErr
import Derived.SevenTiedAt
namespace Go.Proofs.YtfilonbhcalkoaaGreatDoor
open Go.RowKit Go.Maps
set_option maxRecDepth 100000

set_option maxHeartbeats 4000000 in
theorem rwalk_any (n : Nd) (A : Option Addr) (c : Nat) (w : World) (hs : smallT n) (hz : sizeN n ≤ 40000) (hA : NAt (fun b _ => b < w.heap.size) w n A c) :
    Calls Tryz.prog 14 #[.agg #[.int .i64 n.k, .string n.t, .string n.v, .slice A n.kids.length c]] w fun e w' => ∃ lv, e = .returned (.tuple #[lv, .int .i64 (mayN n)]) ∧ Below w.heap.size w w' ∧ (mayN n ≠ 0 → lv = .slice none 0 0) ∧ (mayN n = 0 → ERow w' w.heap.size lv (flat n)) := by
  have hal : Below w.heap.size w (w.alloc (.cells #[.int .i64 n.k, .string n.t, .string n.v, .slice A n.kids.length c] 24)) := (Below.refl _ _).alloc (Nat.le_refl _) _
  have hG := rgoes_any n A c (w.alloc (.cells #[.int .i64 n.k, .string n.t, .string n.v, .slice A n.kids.length c] 24)) w.heap.size (.slice none 0 0) [] [topP] hal.size (ERow.nil _ _) taken_nil (hA.below hal) hs (by simp; omega)
  have hE := mayN_goes n
  have hok := goesN_ok n ([], [topP])
  unfold GPost at hG
  generalize goesN n ([], [topP]) = R at *
  by_cases hm : mayN n = 0
  · have hR := (hok (by rw [hE]; exact hm)).2
    simp only [List.nil_append] at hR
    have hfl := flat_len n
    have hW := fun w' v (h : ERow w' w.heap.size v (flat n)) => rwhole_any w' v (flat n) h.read (fun x hx => by have := flat_small n hs x hx; omega) (by omega)
    rw [may_whole hm] at hW
    unfold WEnd at hW
    simp only at hW
    rw [hE, hm, hR] at hG
    rw [hm]
    generalize flat n = F at *
    clear hE hok hR hA hfl hs hz hm
    go_enter Tryz.func14, Tryz.ntmps14
    go_wp2_with (first
      | (go_at_call 27; refine hG.mono ?_; clear hG; rintro e w1 ⟨v1, rfl, row1, hO1⟩)
      | (go_at_call 28; refine (hW _ _ row1).mono ?_; clear hW; rintro e w2 ⟨rfl, hb2⟩))
    go_ret2
    have hb1 := hal.trans ((hO1.none_below).mono hal.size)
    exact ⟨_, rfl, hb1.trans (hb2.mono hb1.size), fun h => absurd rfl h, fun _ => row1.below hb2⟩
  · rw [hE] at hG
    have z1 := ibeq hm
    have z2 := ibne hm
    generalize mayN n = E at *
    clear hok hA hE
    go_enter Tryz.func14, Tryz.ntmps14
    go_wp2_with (first
      | (go_at_call 27; refine hG.mono ?_; clear hG; rintro e w1 ⟨v1, rfl, row1, hO1⟩))
    go_ret2
    exact ⟨_, rfl, hal.trans ((hO1.none_below).mono hal.size), fun _ => rfl, fun h => absurd h hm⟩

theorem fewL_append : ∀ (a b : List Nd) (left deep : Int), fewL (a ++ b) left deep = fewL b (fewL a left deep) deep
  | [], b, left, deep => rfl
  | n :: a, b, left, deep => by
    simp only [List.cons_append, fewL]
    split
    · rename_i h; rw [fewL_neg _ _ _ h]
    · exact fewL_append a b _ _
theorem fewL_at {kids : List Nd} {j : Nat} (hj : j < kids.length) (left deep : Int) (h : 0 ≤ fewL (kids.take j) left deep) : fewL (kids.take (j + 1)) left deep = fewN kids[j] (fewL (kids.take j) left deep) deep := by
  rw [List.take_succ_eq_append_getElem hj, fewL_append]
  simp only [fewL]
  rw [if_neg (by omega)]
theorem fewL_stop {kids : List Nd} {j : Nat} (left deep : Int) (h : fewL (kids.take j) left deep < 0) : fewL kids left deep = fewL (kids.take j) left deep := by
  have : fewL kids left deep = fewL (kids.take j ++ kids.drop j) left deep := by rw [List.take_append_drop]
  rw [this, fewL_append, fewL_neg _ _ _ h]

set_option maxHeartbeats 4000000 in
theorem rfew_any (n : Nd) : ∀ (left deep : Int) (S : Nat → Nat → Prop) (A : Option Addr) (c : Nat) (w : World), 0 ≤ left → left ≤ 300 → -1 ≤ deep → deep ≤ 20 → NAt S w n A c →
    Calls Tryz.prog 24 #[.agg #[.int .i64 n.k, .string n.t, .string n.v, .slice A n.kids.length c], .int .i64 left, .int .i64 deep] w fun e w' => e = .returned (.int .i64 (fewN n left deep)) ∧ Below w.heap.size w w' := by
  induction n using Nd.ind with
  | h k t v kids ih =>
    intro left deep S A c w h0 h1 h2 h3 hA
    simp only [Nd.k, Nd.t, Nd.v, Nd.kids]
    obtain ⟨hlc, hcm, hkids⟩ := (NAt.def_ _ _ _).1 hA
    simp only [Nd.kids] at hlc hkids
    have hcm2 : c ≤ 9223372036854775807 := by simpa [maxLen] using hcm
    have hfn : fewN (.mk k t v kids) left deep = if deep < 0 then -1 else fewL kids (left - 1) (deep - 1) := rfl
    by_cases hd : deep < 0
    · rw [if_pos hd] at hfn
      have HF := Lib.hid hfn
      clear hkids ih hA hfn
      go_enter Tryz.func24, Tryz.ntmps24
      go_wp2
      go_ret
      exact ⟨by rw [HF.out]; rfl, (Below.refl _ _).alloc (Nat.le_refl _) _⟩
    · rw [if_neg hd] at hfn
      have HF := Lib.hid hfn
      have hle := fun (j : Nat) => fewL_le (kids.take j) (left - 1) (deep - 1) (by omega)
      have hat := fun (j : Nat) (hj : j < kids.length) h => fewL_at hj (left - 1) (deep - 1) h
      have hst := fun (j : Nat) h => fewL_stop (kids := kids) (j := j) (left - 1) (deep - 1) h
      have hg0 : fewL (kids.take 0) (left - 1) (deep - 1) = left - 1 := rfl
      have hge : fewL (kids.take kids.length) (left - 1) (deep - 1) = fewL kids (left - 1) (deep - 1) := by rw [List.take_length]
      obtain ⟨G, hG⟩ : ∃ G : Nat → Int, ∀ j, fewL (kids.take j) (left - 1) (deep - 1) = G j := ⟨_, fun _ => rfl⟩
      simp only [hG] at hle hat hst hg0 hge
      have HB := Lib.hid (show Below w.heap.size w (w.alloc (.cells #[.int .i64 k, .string t, .string v, .slice A kids.length c] 24)) from (Below.refl _ _).alloc (Nat.le_refl _) _)
      have hX := Blk.new w 24 #[.int .i64 k, .string t, .string v, .slice A kids.length c]
      clear hfn hA hG
      go_enter Tryz.func24, Tryz.ntmps24
      go_wp2
      go_loopw [1, 7] (fun l i wr => ∃ (j : Nat), j ≤ kids.length ∧ i = .int .i64 (j : Int) ∧ l = .int .i64 (G j) ∧ Hid (Below w.heap.size w wr) ∧ Blk wr w.heap.size 24 #[.int .i64 k, .string t, .string v, .slice A kids.length c]) (fun _ i _ => kids.length - (intOf i).toNat)
      case atStart => exact ⟨0, Nat.zero_le _, rfl, by rw [hg0], HB, hX⟩
      case round =>
        obtain ⟨j, hj, rfl, rfl, HW, hb⟩ := hrel
        have g3 : wr.cell? ⟨w.heap.size, 3, none⟩ = some (.slice A kids.length c) := hb.cell 3
        have hlj := hle j
        by_cases hlt : j < kids.length
        case neg =>
          have hje : j = kids.length := by omega
          subst hje
          have HE := Lib.hid hge
          have hc0 : decide ((kids.length : Int) < kids.length) = false := decide_eq_false (by omega)
          clear hge hat hst hle ih hkids hlj hX hg0
          go_wp2
          go_ret
          exact ⟨by rw [HF.out, ← HE.out]; rfl, HW.out⟩
        case pos =>
          by_cases hn : G j < 0
          case pos =>
            have HS := Lib.hid (hst j hn)
            clear hge hat hst hle ih hkids hlj hX hg0
            go_wp2
            go_ret
            exact ⟨by rw [HF.out, HS.out]; rfl, HW.out⟩
          case neg =>
            obtain ⟨b, o, rfl, _, hkid⟩ := hkids (by omega)
            obtain ⟨B, cB, q0, q1, q2, q3, hnk⟩ := kid_cells (hkid j hlt) HW.out
            have HA := Lib.hid (hat j hlt (by omega))
            have hih := ih _ (List.getElem_mem hlt) (G j) (deep - 1) S B cB wr (by omega) (by omega) (by omega) (by omega) hnk
            have HE := Lib.hid hge
            have hge0 : 0 ≤ G j := by omega
            have hgt : ¬ G j < 0 := hn
            clear hge hat hst hle ih hkids hlj hX hkid hnk hg0 hn
            generalize kids[j] = kd at *
            rw [← HA.out] at hih
            go_wp2_with (first
              | (go_at_call 24; refine hih.mono ?_; clear hih; rintro e w5 ⟨rfl, hb5⟩))
            go_roundw
            case rel => exact ⟨j + 1, hlt, by go_num, rfl, Lib.hid (HW.out.trans (hb5.mono HW.out.size)), hb.below hb5 hb.lt⟩
            case measure => first | (simp [intOf]; done) | (simp [intOf]; omega)

theorem few_any (n : Nd) (S : Nat → Nat → Prop) (A : Option Addr) (c : Nat) (w : World) (hA : NAt S w n A c) :
    Calls Tryz.prog 11 #[.agg #[.int .i64 n.k, .string n.t, .string n.v, .slice A n.kids.length c]] w fun e w' => e = .returned (.bool (decide (0 ≤ fewN n 300 20))) ∧ Below w.heap.size w w' := by
  have hal : Below w.heap.size w (w.alloc (.cells #[.int .i64 n.k, .string n.t, .string n.v, .slice A n.kids.length c] 24)) := (Below.refl _ _).alloc (Nat.le_refl _) _
  have hF := rfew_any n 300 20 S A c _ (by omega) (by omega) (by omega) (by omega) (hA.below hal)
  generalize fewN n 300 20 = r at *
  go_enter Tryz.func11, Tryz.ntmps11
  go_wp2_with (first
    | (go_at_call 24; refine hF.mono ?_; clear hF; rintro e w5 ⟨rfl, hb5⟩))
  go_ret
  exact ⟨rfl, hal.trans (hb5.mono hal.size)⟩
end Go.Proofs.YtfilonbhcalkoaaGreatDoor
namespace Go.Proofs.YtfilonbhcalkoaaGreatDoor
set_option maxRecDepth 100000

theorem sizeL_mem {l : List Nd} {n : Nd} (h : n ∈ l) : sizeN n ≤ sizeL l := by
  induction l with
  | nil => cases h
  | cons m r ih =>
    simp only [sizeL]
    rcases List.mem_cons.1 h with rfl | h
    · omega
    · have := ih h; omega
theorem okT_of (n : Nd) : ∀ R, okW R n → R ≤ 140737488355328 → sizeN n ≤ 1000000000000 → okT n := by
  induction n using Nd.ind with
  | h k t v kids ih =>
    intro R h hR hs
    simp only [okW] at h
    obtain ⟨⟨h1, h2, h3, h4⟩, h5⟩ := h
    simp only [sizeN] at hs
    have hl := sizeL_len kids
    refine ⟨⟨h1, h2, Nat.le_trans h3 hR, Nat.le_trans h4 hR⟩, by omega, okTL_mem.2 fun m hm => ih m hm R (okWL_mem.1 h5 m hm) hR ?_⟩
    have := sizeL_mem hm
    omega
theorem small_of (n : Nd) : okW 1048576 n → smallT n := by
  induction n using Nd.ind with
  | h k t v kids ih =>
    intro h
    simp only [okW] at h
    obtain ⟨⟨_, _, h3, h4⟩, h5⟩ := h
    exact ⟨h3, h4, smallL_mem.2 fun m hm => ih m hm (okWL_mem.1 h5 m hm)⟩
theorem few_ok {n : Nd} {R : Nat} (h : okW R n) (hR : R ≤ 140737488355328) (hf : decide (0 ≤ fewN n 300 20) = true) : okT n ∧ sizeN n ≤ 300 ∧ (visN n).length ≤ 1000000000000 := by
  have h1 := few_size (left := 300) (by omega) (of_decide_eq_true hf)
  have h2 := vis_len n
  exact ⟨okT_of n R h hR (by omega), by omega, by omega⟩
mutual
theorem flat_okE : ∀ n : Nd, okT n → ∀ x ∈ flat n, okE x
  | .mk k t v kids, h, x, hx => by
    simp only [flat] at hx
    rcases List.mem_cons.1 hx with rfl | hx
    · exact h.1
    · rcases List.mem_append.1 hx with hx | hx
      · exact flatL_okE kids h.2.2 x hx
      · simp only [endL] at hx
        split at hx
        · simp at hx
          subst hx
          have hk : -100 ≤ endK k ∧ endK k ≤ 100 := by unfold endK; repeat' split <;> omega
          exact ⟨by show _ ≤ endK k; omega, by show endK k ≤ _; omega, Nat.zero_le _, Nat.zero_le _⟩
        · cases hx
theorem flatL_okE : ∀ l : List Nd, okTL l → ∀ x ∈ flatL l, okE x
  | [], _, x, hx => by cases hx
  | n :: r, h, x, hx => by
    simp only [flatL] at hx
    rcases List.mem_append.1 hx with hx | hx
    · exact flat_okE n h.1 x hx
    · exact flatL_okE r h.2 x hx
end
theorem flat_pos (n : Nd) : 0 < (flat n).length := by cases n; simp [flat]
theorem flatL_len_ge (l : List Nd) : l.length ≤ (flatL l).length := by
  induction l with
  | nil => simp
  | cons n r ih => have := flat_pos n; simp [flatL]; omega
mutual
theorem okT_flat : ∀ n : Nd, (∀ x ∈ flat n, okE x) → (flat n).length ≤ 1000000000000 → okT n
  | .mk k t v kids, h, hl => by
    simp only [flat, List.length_cons, List.length_append] at h hl
    have h1 := flatL_len_ge kids
    exact ⟨h ⟨k, t, v⟩ (List.mem_cons_self ..), by omega, okTL_flat kids (fun x hx => h x (List.mem_cons_of_mem _ (List.mem_append_left _ hx))) (by omega)⟩
theorem okTL_flat : ∀ l : List Nd, (∀ x ∈ flatL l, okE x) → (flatL l).length ≤ 1000000000000 → okTL l
  | [], _, _ => trivial
  | n :: r, h, hl => by
    simp only [flatL, List.length_append] at h hl
    exact ⟨okT_flat n (fun x hx => h x (List.mem_append_left _ hx)) (by omega), okTL_flat r (fun x hx => h x (List.mem_append_right _ hx)) (by omega)⟩
end
end Go.Proofs.YtfilonbhcalkoaaGreatDoor
namespace Go.Proofs.YtfilonbhcalkoaaGreatDoor
open Go.RowKit Go.Maps
set_option maxRecDepth 100000
set_option linter.unusedSimpArgs false

instance : DecidableEq Ev := fun x y => decidable_of_iff (x.k = y.k ∧ x.t = y.t ∧ x.v = y.v) ⟨fun ⟨a, b, c⟩ => by cases x; cases y; simp_all, fun h => by subst h; exact ⟨rfl, rfl, rfl⟩⟩
theorem eq_ibeq {a b : Int} (h : a ≠ b) : (a == b) = false := by rw [beq_eq_false_iff_ne]; exact h
theorem eq_ibne {a b : Int} (h : a ≠ b) : (a != b) = true := by simp [bne, h]
theorem take_next {xs ys : List Ev} {j : Nat} (hx : j < xs.length) (hy : j < ys.length) (h : xs.take j = ys.take j) (he : xs[j] = ys[j]) : xs.take (j + 1) = ys.take (j + 1) := by
  rw [List.take_succ_eq_append_getElem hx, List.take_succ_eq_append_getElem hy, h, he]
theorem take_same {xs ys : List Ev} {j : Nat} (hl : xs.length = ys.length) (hj : ¬ j < xs.length) (h : xs.take j = ys.take j) : xs = ys := by
  rwa [List.take_of_length_le (by omega), List.take_of_length_le (by omega)] at h
theorem diff_at {xs ys : List Ev} {j : Nat} (hx : j < xs.length) (hy : j < ys.length) (h : ¬ xs[j] = ys[j]) : decide (xs = ys) = false := by
  rw [decide_eq_false_iff_not]
  intro e
  subst e
  exact h rfl

set_option maxHeartbeats 4000000 in
theorem esame_any (w : World) (va vb : Value) (xs ys : List Ev) (ha : ERead w va xs) (hb : ERead w vb ys) :
    Calls Tryz.prog 15 #[va, vb] w fun e w' => e = .returned (.bool (decide (xs = ys))) ∧ Below w.heap.size w w' := by
  obtain ⟨A, c, rfl, hlc, hcm, hr⟩ := ha
  obtain ⟨A', c', rfl, hlc', hcm', hr'⟩ := hb
  have hcm2 : c ≤ 9223372036854775807 := by simpa [maxLen] using hcm
  have hcm2' : c' ≤ 9223372036854775807 := by simpa [maxLen] using hcm'
  by_cases hl : xs.length = ys.length
  case neg =>
    rw [decide_eq_false (fun h => hl (by rw [h]))]
    have z1 := eq_ibeq (a := (xs.length : Int)) (b := ys.length) (by omega)
    have z2 := eq_ibne (a := (xs.length : Int)) (b := ys.length) (by omega)
    clear hr hr' hl
    go_enter Tryz.func15, Tryz.ntmps15
    go_wp2
    go_ret
    exact ⟨rfl, Below.refl _ _⟩
  case pos =>
    have HL := Lib.hid hl
    rw [← hl]
    rw [← hl] at hlc'
    clear hl
    obtain ⟨D, hD⟩ : ∃ D, decide (xs = ys) = D := ⟨_, rfl⟩
    rw [hD]
    have HDD := Lib.hid hD
    clear hD
    go_enter Tryz.func15, Tryz.ntmps15
    go_wp2
    go_loopw [5] (fun i wr => ∃ j : Nat, j ≤ xs.length ∧ i = .int .i64 (j : Int) ∧ Hid (xs.take j = ys.take j) ∧ Hid (Below w.heap.size w wr)) (fun i _ => xs.length - (intOf i).toNat)
    case atStart => exact ⟨0, Nat.zero_le _, rfl, Lib.hid rfl, Lib.hid (Below.refl _ _)⟩
    case round =>
      obtain ⟨j, hj, rfl, HP, HW⟩ := hrel
      by_cases hlt : j < xs.length
      case pos =>
        obtain ⟨b, o, rfl, hg⟩ := hr (by omega)
        obtain ⟨b', o', rfl, hg'⟩ := hr' (by rw [← HL.out]; omega)
        have hlt' : j < ys.length := by rw [← HL.out]; exact hlt
        obtain ⟨g0, g1, g2⟩ := hg j hlt
        obtain ⟨k0, k1, k2⟩ := hg' j hlt'
        have HN := Lib.hid (take_next hlt hlt' HP.out)
        have HD := Lib.hid (diff_at hlt hlt')
        generalize xs[j] = x at *
        generalize ys[j] = y at *
        have g0 := (HW.out.cell (p := ⟨b, o + j * 3, none⟩) (cell_lt g0)).trans g0
        have g1 := (HW.out.cell (p := ⟨b, o + j * 3 + 1, none⟩) (cell_lt g1)).trans g1
        have g2 := (HW.out.cell (p := ⟨b, o + j * 3 + 2, none⟩) (cell_lt g2)).trans g2
        have k0 := (HW.out.cell (p := ⟨b', o' + j * 3, none⟩) (cell_lt k0)).trans k0
        have k1 := (HW.out.cell (p := ⟨b', o' + j * 3 + 1, none⟩) (cell_lt k1)).trans k1
        have k2 := (HW.out.cell (p := ⟨b', o' + j * 3 + 2, none⟩) (cell_lt k2)).trans k2
        have hne : ¬ x = y → D = false := fun h => HDD.out ▸ HD.out h
        have HNE := Lib.hid hne
        clear hg hg' hr hr' hlt' hne HD
        by_cases hk : x.k = y.k
        case neg =>
          have HF := Lib.hid (HNE.out fun e => hk (by rw [e]))
          clear HN HNE
          go_wp2
          go_region
          go_wp2
          go_ret
          exact ⟨(by rw [HF.out]; rfl), HW.out.trans (below_drew (Below.refl _ _) |>.mono HW.out.size)⟩
        case pos =>
          by_cases ht : x.t = y.t
          case neg =>
            have HF := Lib.hid (HNE.out fun e => ht (by rw [e]))
            obtain ⟨z1, z2⟩ := str_diff ht
            clear HN HNE ht
            rw [← hk] at k0
            clear hk
            go_wp2
            go_region
            go_wp2
            go_ret
            exact ⟨(by rw [HF.out]; rfl), HW.out.trans (below_drew (Below.refl _ _) |>.mono HW.out.size)⟩
          case pos =>
            by_cases hv : x.v = y.v
            case neg =>
              have HF := Lib.hid (HNE.out fun e => hv (by rw [e]))
              obtain ⟨z1, z2⟩ := str_diff hv
              clear HN HNE hv
              rw [← hk] at k0
              rw [← ht] at k1
              clear hk ht
              go_wp2
              go_region
              go_wp2
              go_ret
              exact ⟨(by rw [HF.out]; rfl), HW.out.trans (below_drew (Below.refl _ _) |>.mono HW.out.size)⟩
            case pos =>
              have HE := Lib.hid (HN.out (by cases x; cases y; simp_all))
              rw [← hk] at k0
              rw [← ht] at k1
              rw [← hv] at k2
              clear hk ht hv HN HNE
              go_wp2
              go_region
              go_wp2
              go_roundw
              case rel => exact ⟨j + 1, by omega, by go_num, HE, Lib.hid (HW.out.trans (below_drew (Below.refl _ _) |>.mono HW.out.size))⟩
              case measure => simp [intOf]; omega
      case neg =>
        have HF := Lib.hid (take_same HL.out hlt HP.out)
        have HG : D = true := by rw [← HDD.out, decide_eq_true HF.out]
        have HG := Lib.hid HG
        clear hr hr' HF
        go_wp2
        go_ret
        exact ⟨(by rw [HG.out]; first | done | rfl), HW.out⟩
end Go.Proofs.YtfilonbhcalkoaaGreatDoor
namespace Go.Proofs.YtfilonbhcalkoaaGreatDoor
open Go.RowKit Go.ChangeShapes Go.WideShapes Go.Deep
set_option maxRecDepth 100000

theorem own : ownKnob Tryz.prog.godebug = none := by kernel_rfl
theorem laidOut : laidOutB Tryz.prog = true := by kernel_rfl
def laidL : List (String × DataW Unit) := Rows.treeWalksRow.laid
theorem laidL_eq : laidL = [("math/bits.deBruijn32tab", Rows.laid_math_bits_deBruijn32tab), ("math/bits.deBruijn64tab", Rows.laid_math_bits_deBruijn64tab), ("internal/strconv.uint64pow10", Rows.laid_internal_strconv_uint64pow10), ("unicode/utf8.acceptRanges", Rows.laid_unicode_utf8_acceptRanges), ("strconv.ErrRange", Rows.laid_strconv_ErrRange), ("strconv.ErrSyntax", Rows.laid_strconv_ErrSyntax), ("unicode/utf8.first", Rows.laid_unicode_utf8_first)] := rfl

theorem laid_met (os : Os) (args : Array Value) : laidMetH Tryz.prog laidL ((World.laidAll Tryz.prog os laidL).forCall (fun _ _ => 0) ⟨#[], args, []⟩).memory := by
  rw [MakeChecks.laidMetH_plain _ _ _ (by kernel_rfl)]
  exact laidMet_laidAll _ (by kernel_rfl) (by kernel_rfl)
theorem shapedW (os : Os) (args : Array Value) : ((World.laidAll Tryz.prog os laidL).forCall (fun _ _ => 0) ⟨#[], args, []⟩).Shaped Tryz.prog :=
  World.shaped_of_ZipB (by kernel_rfl) (by kernel_rfl)

theorem pow_data : (Rows.laid_internal_strconv_uint64pow10 : DataW Unit) = Lib.tabData .u64 Lib.pow10Tab := by kernel_rfl
theorem tPow : (Tryz.prog.globals[5]?).map (·.type) = some 168 := by kernel_rfl
theorem tRange : (Tryz.prog.globals[2]?).map (·.type) = some 134 := by kernel_rfl
theorem star : "*" ++ "errors.errorString" = "*errors.errorString" := by decide
theorem row_err (u : TypeId) (h : Tryz.prog.typeName? 3 u = some "*errors.errorString") : u = 172 :=
  typeName_ptr_named (nm := "errors.errorString") (by rw [star]; kernel_rfl) (by kernel_rfl) (by decide) u (by rw [star]; exact h)
theorem std_of {W : World} (hL : laidMetH Tryz.prog laidL W) (hsh : W.ShapedOpen Tryz.prog) : Nm.StdW W := by
  rw [MakeChecks.laidMetH_plain _ _ _ (by kernel_rfl), laidL_eq] at hL
  refine ⟨Tryz.laysM145.s1_3 W hsh, ?_, ?_⟩
  · have h5 := hL.tail.tail.tail.tail
    unfold Rows.laid_strconv_ErrRange at h5
    obtain ⟨a, s, h, _⟩ := laid_sentinel h5 Nm.gRange tRange Tryz.underlying134 row_err Tryz.underlying172 Tryz.underlying174 rfl rfl Tryz.underlying9 (by kernel_rfl) (by kernel_rfl)
    exact ⟨_, _, h⟩
  · have h3 := hL.tail.tail
    rw [pow_data] at h3
    exact Lib.tabIs_of_head Nm.gPow tPow Tryz.underlying168 Tryz.underlying145 (by kernel_rfl) (by kernel_rfl) h3


theorem sized_node {H : Type} {ts : List TypeId} {ds : List (DataW H)} (h : (DataW.weightsEach Tryz.prog ts ds).all (· ≤ reachBytes) = true) {j : Nat} {d : DataW H} (ht : ts[j]? = some 24) (hd : ds[j]? = some d) : ∀ k ∈ d.weights Tryz.prog 24, k ≤ 140737488355328 := by
  intro k hk
  have := of_decide_eq_true (List.all_eq_true.1 h _ (DataW.weights_mem_each ht hd _ hk))
  simp [reachBytes] at this
  omega
end Go.Proofs.YtfilonbhcalkoaaGreatDoor
namespace Go.Proofs.YtfilonbhcalkoaaGreatDoor
open Go.RowKit Go.ChangeShapes Go.WideShapes Go.Deep
set_option maxRecDepth 100000

/-! A slice of events that came in. -/
def dE {H : Type} (x : Ev) : DataW H := .agg [.lit (.int .i64 x.k), .lit (.string x.t.data.toList), .lit (.string x.v.data.toList)]

theorem event_one {H : Type} {enc : TypeId × Value → H} {w : World} {base : Nat} {spare : Nat → Bool} {held : Bool} {n : Nat} {cs : List Value} {x : DataW H × List MemPlace}
    (h : DataW.trod enc Tryz.prog w base spare held n 44 cs = some x) : ∃ d : Ev, cs = [.int .i64 d.k, .string d.t, .string d.v] ∧ x.1 = dE d ∧ (Lit.int .i64 d.k).wf = true := by
  obtain ⟨ys, m, _, hy, hl, hyl, hf⟩ := DataW.trod_struct Tryz.underlying44 h
  have hC : Tryz.prog.cellsOf 44 = 3 := by kernel_rfl
  have hi : Tryz.prog.cellsOf 3 = 1 := by kernel_rfl
  have hs : Tryz.prog.cellsOf 9 = 1 := by kernel_rfl
  rw [hC] at hl
  match cs, hl with
  | [c0, c1, c2], _ =>
    match ys, hyl with
    | [y0, y1, y2], _ =>
      have f0 := hf 0 _ rfl
      have f1 := hf 1 _ rfl
      have f2 := hf 2 _ rfl
      simp [hi, hs] at f0 f1 f2
      obtain ⟨a, ha, rfl, hw⟩ := DataW.trod_int Tryz.underlying3 f0
      obtain ⟨b, hb, rfl, _⟩ := DataW.trod_string Tryz.underlying9 f1
      obtain ⟨c, hc, rfl, _⟩ := DataW.trod_string Tryz.underlying9 f2
      cases ha
      cases hb
      cases hc
      exact ⟨⟨a, b, c⟩, rfl, by rw [hy]; rfl, hw⟩

theorem addr_addN (b o n : Nat) : (⟨b, o, none⟩ : Addr).add n = ⟨b, o + n, none⟩ := by unfold Addr.add; split <;> simp_all
instance : Inhabited Ev := ⟨⟨0, ⟨#[]⟩, ⟨#[]⟩⟩⟩

theorem open_events {H : Type} {enc : TypeId × Value → H} {w : World} {base : Nat} {spare : Nat → Bool} {held : Bool} {n : Nat} {v : Value} {x : DataW H × List MemPlace}
    (h : DataW.trod enc Tryz.prog w base spare held n 27 [v] = some x) :
    ∃ (xs : List Ev), ERead w v xs ∧ (∀ d ∈ xs, (Lit.int .i64 d.k).wf = true) ∧ (xs = [] ∨ ∃ rest, x.1 = .slice (xs.map dE) rest) := by
  have hC : Tryz.prog.cellsOf 44 = 3 := by kernel_rfl
  rcases open_slice Tryz.underlying27 h with ⟨hcs, _⟩ | ⟨a, len, cap, m, k, D, Pl, hcs, hb, hl, hm, hmm, hx, hi⟩
  · cases hcs
    exact ⟨[], ⟨none, 0, rfl, Nat.le_refl _, Nat.zero_le _, fun h => absurd h (by simp)⟩, fun d hd => (by cases hd), .inl rfl⟩
  · cases hcs
    have hlm : len ≤ m := by rw [hmm]; split <;> omega
    obtain ⟨V, hV⟩ := choose_lt (α := Ev) (n := m) (p := fun i d => D i = dE d ∧ (Lit.int .i64 d.k).wf = true ∧ ∀ j u, [Value.int .i64 d.k, .string d.t, .string d.v][j]? = some u → w.cell? ((a.add (i * 3)).add j) = some u) (fun i him => by
      obtain ⟨cs', h1, h2⟩ := hi i him
      rw [hC] at h1
      obtain ⟨_, hlen, hc⟩ := World.cells?_some h1
      obtain ⟨d, rfl, hd, hw⟩ := event_one h2
      refine ⟨d, hd, hw, fun j u hu => ?_⟩
      have hj : j < 3 := by
        have := (List.getElem?_eq_some_iff.1 hu).1
        simpa using this
      rw [hc j hj, hu])
    refine ⟨(List.range len).map V, ⟨some a, cap, by simp, by simpa using hl, hm, fun hp => ?_⟩, fun d hd => ?_, .inr ⟨(List.range (m - len)).map fun j => D (len + j), ?_⟩⟩
    · have h0 : 0 < len := by simpa using hp
      have hs := World.cell?_spot ((hV 0 (by omega)).2.2 0 _ rfl)
      obtain ⟨b, o, sp⟩ := a
      obtain rfl : sp = none := by simpa [Addr.add] using hs
      refine ⟨b, o, rfl, fun j hj => ?_⟩
      have hj' : j < len := by simpa using hj
      have hc := (hV j (by omega)).2.2
      simp only [addr_addN] at hc
      simp only [List.getElem_map, List.getElem_range]
      exact ⟨hc 0 _ rfl, hc 1 _ rfl, hc 2 _ rfl⟩
    · obtain ⟨i, hi', rfl⟩ := List.mem_map.1 hd
      exact (hV i (by have := List.mem_range.1 hi'; omega)).2.1
    · rw [hx, List.map_map]
      simp only
      congr 1
      refine List.map_congr_left fun i hi' => ?_
      exact (hV i (by have := List.mem_range.1 hi'; omega)).1

/-! The sizes, out of the form's own reach. -/
theorem weightsAll_mem {H : Type} {P : Program} {e : TypeId} : ∀ {l : List (DataW H)} {d : DataW H}, d ∈ l → ∀ n ∈ d.weights P e, n ∈ DataW.weightsAll P e l
  | x :: r, d, hd, n, hn => by
    simp only [DataW.weightsAll, List.mem_append]
    rcases List.mem_cons.1 hd with rfl | h
    · exact Or.inl hn
    · exact Or.inr (weightsAll_mem h n hn)
theorem sized_events {H : Type} {ts : List TypeId} {ds : List (DataW H)} (h : (DataW.weightsEach Tryz.prog ts ds).all (· ≤ reachBytes) = true) {j : Nat} {xs : List Ev} {rest : List (DataW H)}
    (ht : ts[j]? = some 27) (hd : ds[j]? = some (.slice (xs.map dE) rest)) : xs.length ≤ 4611686018427387904 ∧ ∀ x ∈ xs, x.t.size ≤ 140737488355328 ∧ x.v.size ≤ 140737488355328 := by
  have hb : Tryz.prog.bytesOf 44 = 40 := by kernel_rfl
  constructor
  · have := sized_slice h ht hd Tryz.underlying27
    rw [hb, List.length_map] at this
    simp only [reachBytes] at this
    omega
  · intro x hx
    have hmem : ∀ n, n ∈ (dE x : DataW H).weights Tryz.prog 44 → n ≤ reachBytes := by
      intro n hn
      refine of_decide_eq_true (List.all_eq_true.1 h _ (DataW.weights_mem_each ht hd _ ?_))
      simp only [DataW.weights, Tryz.underlying27, List.mem_cons, List.mem_append]
      exact Or.inr (Or.inl (weightsAll_mem (List.mem_map.2 ⟨x, hx, rfl⟩) n hn))
    have hw : (dE x : DataW H).weights Tryz.prog 44 = [x.t.data.toList.length, x.v.data.toList.length] := by
      simp [dE, DataW.weights, DataW.weightsEach, Tryz.underlying44]
    rw [hw] at hmem
    have h1 := hmem x.t.data.toList.length (by simp)
    have h2 := hmem x.v.data.toList.length (by simp)
    simp [reachBytes] at h1 h2
    exact ⟨by omega, by omega⟩
theorem okE_of {x : Ev} (hw : (Lit.int .i64 x.k).wf = true) (h : x.t.size ≤ 140737488355328 ∧ x.v.size ≤ 140737488355328) : okE x := by
  simp [Lit.wf, IntKind.min, IntKind.max, IntKind.signed, IntKind.bits] at hw
  exact ⟨by omega, by omega, h.1, h.2⟩
end Go.Proofs.YtfilonbhcalkoaaGreatDoor

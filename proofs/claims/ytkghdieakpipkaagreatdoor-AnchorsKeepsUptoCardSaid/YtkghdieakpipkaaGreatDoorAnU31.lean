/-
  The reference's Step and Whole (hexaplaref05): the machine's answers.
  Whether two rows of events are the same (the reference).
  Anchors as plain functions. No program is read here.
  A list of events that a call has made: appended to, read; it and a Check keep clear of each other.
-/
import Derived.Test.YtkghdieakpipkaaGreatDoorAnU26
import Derived.Test.YtkghdieakpipkaaGreatDoorAnU27
import Derived.Test.YtkghdieakpipkaaGreatDoorAnU28
import Derived.Test.YtkghdieakpipkaaGreatDoorAnU30
import Derived.StillTailTactics
import Derived.Test.YtkghdieakpipkaaGreatDoorAnU16
import Derived.Test.YtkghdieakpipkaaGreatDoorAnU06
import Derived.Test.YtkghdieakpipkaaGreatDoorAnU04
import Derived.Test.YtkghdieakpipkaaGreatDoorAnU02
namespace Go.Proofs.YtkghdieakpipkaaGreatDoor
open Go.RowKit
set_option maxRecDepth 100000

theorem rstep_any (w : World) (v : Value) (had : List Ev) (st : List Pt) (x : Ev) (hv : ERead w v had) (hn : had.length ≤ 100000) (hs : x.t.size ≤ 1099511627776) (hs2 : x.v.size ≤ 1099511627776) (hR : Rel had st) (hG : Good st) :
    Calls Tryz.prog 34 #[v, evV x] w (RSPost w st x) := by
  cases hf : formedB x with
  | false => exact rstep_bad w v st x hs hs2 (by obtain ⟨p, r, rfl⟩ := hG.ne; simp) hf
  | true =>
    cases ha : atL had with
    | nil => exact rstep_top w v had st x hv hn hs hs2 hf hR ha
    | cons pl ps =>
      obtain ⟨p, r, rfl, hI, hl⟩ := rel_inner hR ha
      have hG6 : r.length ≤ 6 := by have := hG.2; simpa using this
      have hop := hI.2.2.1
      by_cases hk : x.k = 8 ∨ x.k = 11
      · cases hcb : contB p.kind p.last x.k (emptyT x.t) with
        | false => exact rstep_keybad w v had p r x pl ps hv hn hs hs2 hf ha hI hk hcb
        | true =>
          have hkk := keyK_is hop hcb hk
          unfold keyK at hkk
          by_cases h7 : p.kind = 7
          · rw [if_pos h7] at hkk
            refine rstep_key7 w v had p r x pl ps hv hn hs hs2 hf ha hI hkk h7 ?_
            intro h8
            unfold contB at hcb
            rw [h7, if_neg (by decide), if_pos rfl, if_pos h8, hkk] at hcb
            exact absurd hcb (by decide)
          · rw [if_neg h7] at hkk
            by_cases h10 : p.kind = 10
            · rw [if_pos h10] at hkk
              refine rstep_key10 w v had p r x pl ps hv hn hs hs2 hf ha hI hkk h10 ?_
              unfold contB at hcb
              rw [h10, if_neg (by decide), if_neg (by decide), if_pos rfl] at hcb
              unfold contElem at hcb
              rw [if_pos hkk, decide_eq_true_iff] at hcb
              exact hcb
            · rw [if_neg h10] at hkk
              omega
      · rw [not_or] at hk
        unfold opensK at hop
        rw [decide_eq_true_iff] at hop
        rcases hop with h | h | h
        · exact rstep_5 w v had p r x pl ps hv hn hs hs2 hf ha hI hl hG6 h hk
        · exact rstep_7 w v had p r x pl ps hv hn hs hs2 hf ha hI hl hG6 h hk
        · exact rstep_10 w v had p r x pl ps hv hn hs hs2 hf ha hI hl hG6 h hk
theorem rstepV (w : World) (v : Value) (had : List Ev) (st : List Pt) (E : Int) (x : Ev) (hE : stepE st x = E) (hv : ERead w v had) (hn : had.length ≤ 100000) (hs : x.t.size ≤ 1099511627776) (hs2 : x.v.size ≤ 1099511627776) (hR : Rel had st) (hG : Good st) :
    Calls Tryz.prog 34 #[v, .agg #[.int .i64 x.k, .string x.t, .string x.v]] w fun e w' => e = .returned (.int .i64 E) ∧ Below w.heap.size w w' := by
  have := rstep_any w v had st x hv hn hs hs2 hR hG
  unfold RSPost at this
  rw [hE] at this
  exact this

set_option maxHeartbeats 4000000 in
theorem rwhole_any (w : World) (v : Value) (xs : List Ev) (hv : ERead w v xs) (hx : ∀ x ∈ xs, x.t.size ≤ 1099511627776 ∧ x.v.size ≤ 1099511627776) (hn : xs.length ≤ 100000) :
    Calls Tryz.prog 22 #[v] w fun e w' => e = WEnd (wholeGo 0 [topP] xs) ∧ Below w.heap.size w w' := by
  have hv' := hv
  obtain ⟨A, c, rfl, hlc, hcm, hr⟩ := hv'
  go_enter Tryz.func22, Tryz.ntmps22
  go_wp2_with fail
  go_loopw [4] (fun i wr => ∃ (k : Nat) (st : List Pt), k ≤ xs.length ∧ i = .int .i64 k ∧ Hid (Rel (xs.take k) st) ∧ Hid (Good st) ∧ Hid (Below w.heap.size w wr) ∧ Hid (wholeGo 0 [topP] xs = wholeGo k st (xs.drop k))) (fun i _ => xs.length - (intOf i).toNat)
  case atStart => exact ⟨0, [topP], Nat.zero_le _, rfl, Lib.hid rel_start, Lib.hid good_start, Lib.hid (Below.refl _ _), Lib.hid rfl⟩
  case round =>
    obtain ⟨k, st, hk, rfl, HR, HG, HB, HW⟩ := hrel
    have hvr := hv.below HB.out
    by_cases hlt : k < xs.length
    · obtain ⟨bb, oo, rfl, hc⟩ := hr (by omega)
      obtain ⟨h1, h2, h3⟩ := hc k hlt
      obtain ⟨hs, hs2⟩ := hx _ (List.getElem_mem hlt)
      have g1 := (HB.out.cell (cell_lt h1)).trans h1
      have g2 := (HB.out.cell (cell_lt h2)).trans h2
      have g3 := (HB.out.cell (cell_lt h3)).trans h3
      have hd := HW.out
      rw [List.drop_eq_getElem_cons hlt] at hd
      simp only [wholeGo] at hd
      have HT : Hid (xs.take (k + 1) = xs.take k ++ [xs[k]]) := Lib.hid (List.take_succ_eq_append_getElem hlt)
      have htl : (xs.take k).length ≤ 100000 := by rw [List.length_take]; omega
      clear hc hr h1 h2 h3
      generalize xs[k] = x at *
      have hvk := (hvr.take (k := k) (by omega)).below (below_drew (Below.refl _ _))
      have hS := rstepV wr.drew _ _ st _ x rfl hvk htl hs hs2 HR.out HG.out
      have HG2 := Lib.hid (good_step HG.out x)
      have hBd := below_drew HB.out
      have hlti : (k : Int) < xs.length := by omega
      have hkc : k ≤ c := by omega
      have hcm2 : c ≤ 9223372036854775807 := by simpa [maxLen] using hcm
      by_cases hz : stepE st x = 0
      · rw [if_pos hz] at hd
        have HD := Lib.hid hd
        have HR2 : Hid (Rel (xs.take (k + 1)) (stepS st x)) := Lib.hid (by rw [HT.out]; exact rel_step HR.out x hz)
        rw [hz] at hS
        clear hd hz hvk hvr
        go_wp2_with fail
        go_still_tail 7, (by kernel_rfl)
        change wpList _ _ _ _ _ wr.drew
        generalize wr.drew = wd at *
        go_wp2_with (first
          | (go_at_call 34; refine hS.mono ?_; rintro e w3 ⟨rfl, hb3⟩))
        go_roundw
        case rel => exact ⟨k + 1, _, hlt, by go_num, HR2, HG2, Lib.hid (hBd.trans (hb3.mono hBd.size)), HD⟩
        case measure => first | (simp [intOf]; done) | (simp [intOf]; omega)
      · rw [if_neg hz] at hd
        have HD := Lib.hid hd
        have e0 := ne_beq hz
        have b0 := ne_bne hz
        generalize stepE st x = E at *
        clear hd hz hvk hvr
        go_wp2_with fail
        go_still_tail 7, (by kernel_rfl)
        change wpList _ _ _ _ _ wr.drew
        generalize wr.drew = wd at *
        go_wp2_with (first
          | (go_at_call 34; refine hS.mono ?_; rintro e w3 ⟨rfl, hb3⟩))
        go_ret2
        exact ⟨by rw [HD.out]; rfl, hBd.trans (hb3.mono hBd.size)⟩
    · have hke : k = xs.length := by omega
      subst hke
      have hd := HW.out
      rw [List.drop_of_length_le (Nat.le_refl _)] at hd
      simp only [wholeGo] at hd
      have hR := HR.out
      rw [List.take_of_length_le (Nat.le_refl _)] at hR
      rw [(rel_done hR).1] at hd
      have hA := at_any wr _ xs hvr hn
      have hlti : ¬ ((xs.length : Nat) : Int) < xs.length := by omega
      cases ha : atL xs with
      | nil =>
        rw [ha] at hd
        rw [atEnd_nil ha] at hA
        go_wp2_with fail
        refine hA.mono ?_
        rintro e w3 ⟨rfl, hb3⟩
        by_cases h0 : xs.length = 0
        · rw [decide_eq_false (by omega : ¬ 0 < xs.length)] at hd
          have HD := Lib.hid hd
          clear hd ha hR
          go_wp2_with fail
          go_ret2
          exact ⟨by rw [HD.out, h0]; rfl, HB.out.trans (hb3.mono HB.out.size)⟩
        · rw [decide_eq_true (by omega : 0 < xs.length)] at hd
          have HD := Lib.hid hd
          have e0 : (((xs.length : Nat) : Int) == 0) = false := ne_beq (by omega)
          clear hd ha hR h0
          go_wp2_with fail
          go_ret2
          exact ⟨by rw [HD.out]; rfl, HB.out.trans (hb3.mono HB.out.size)⟩
      | cons p ps =>
        rw [ha] at hd
        rw [atEnd_cons ha] at hA
        have HD := Lib.hid hd
        have hpi : (0 : Int) ≤ p := by omega
        clear hd ha hR
        go_wp2_with (first
          | (go_at_call 35; refine hA.mono ?_; rintro e w3 ⟨rfl, hb3⟩))
        go_ret2
        exact ⟨by rw [HD.out]; rfl, HB.out.trans (hb3.mono HB.out.size)⟩
end Go.Proofs.YtkghdieakpipkaaGreatDoor
namespace Go.Proofs.YtkghdieakpipkaaGreatDoor
open Go.RowKit Go.Maps
set_option maxRecDepth 100000
set_option linter.unusedSimpArgs false

instance : DecidableEq Ev := fun x y => decidable_of_iff (x.k = y.k ∧ x.t = y.t ∧ x.v = y.v) ⟨fun ⟨a, b, c⟩ => by cases x; cases y; simp_all, fun h => by subst h; exact ⟨rfl, rfl, rfl⟩⟩
theorem eq_ibeq {a b : Int} (h : a ≠ b) : (a == b) = false := by rw [beq_eq_false_iff_ne]; exact h
theorem eq_ibne {a b : Int} (h : a ≠ b) : (a != b) = true := by simp [bne, h]
theorem take_next {xs ys : List Ev} {j : Nat} (hx : j < xs.length) (hy : j < ys.length) (h : xs.take j = ys.take j) (he : xs[j] = ys[j]) : xs.take (j + 1) = ys.take (j + 1) := by
  rw [List.take_succ_eq_append_getElem hx, List.take_succ_eq_append_getElem hy, h, he]
theorem take_same {xs ys : List Ev} {j : Nat} (hl : xs.length = ys.length) (hj : ¬ j < xs.length) (h : xs.take j = ys.take j) : xs = ys := by
  rwa [List.take_of_length_le (by omega), List.take_of_length_le (by omega)] at h
theorem diff_at {xs ys : List Ev} {j : Nat} (hx : j < xs.length) (hy : j < ys.length) (h : ¬ xs[j] = ys[j]) : decide (xs = ys) = false := by
  rw [decide_eq_false_iff_not]
  intro e
  subst e
  exact h rfl

set_option maxHeartbeats 4000000 in
theorem esame_any (w : World) (va vb : Value) (xs ys : List Ev) (ha : ERead w va xs) (hb : ERead w vb ys) :
    Calls Tryz.prog 18 #[va, vb] w fun e w' => e = .returned (.bool (decide (xs = ys))) ∧ Below w.heap.size w w' := by
  obtain ⟨A, c, rfl, hlc, hcm, hr⟩ := ha
  obtain ⟨A', c', rfl, hlc', hcm', hr'⟩ := hb
  have hcm2 : c ≤ 9223372036854775807 := by simpa [maxLen] using hcm
  have hcm2' : c' ≤ 9223372036854775807 := by simpa [maxLen] using hcm'
  by_cases hl : xs.length = ys.length
  case neg =>
    rw [decide_eq_false (fun h => hl (by rw [h]))]
    have z1 := eq_ibeq (a := (xs.length : Int)) (b := ys.length) (by omega)
    have z2 := eq_ibne (a := (xs.length : Int)) (b := ys.length) (by omega)
    clear hr hr' hl
    go_enter Tryz.func18, Tryz.ntmps18
    go_wp2
    go_ret
    exact ⟨rfl, Below.refl _ _⟩
  case pos =>
    have HL := Lib.hid hl
    rw [← hl]
    rw [← hl] at hlc'
    clear hl
    obtain ⟨D, hD⟩ : ∃ D, decide (xs = ys) = D := ⟨_, rfl⟩
    rw [hD]
    have HDD := Lib.hid hD
    clear hD
    go_enter Tryz.func18, Tryz.ntmps18
    go_wp2
    go_loopw [5] (fun i wr => ∃ j : Nat, j ≤ xs.length ∧ i = .int .i64 (j : Int) ∧ Hid (xs.take j = ys.take j) ∧ Hid (Below w.heap.size w wr)) (fun i _ => xs.length - (intOf i).toNat)
    case atStart => exact ⟨0, Nat.zero_le _, rfl, Lib.hid rfl, Lib.hid (Below.refl _ _)⟩
    case round =>
      obtain ⟨j, hj, rfl, HP, HW⟩ := hrel
      by_cases hlt : j < xs.length
      case pos =>
        obtain ⟨b, o, rfl, hg⟩ := hr (by omega)
        obtain ⟨b', o', rfl, hg'⟩ := hr' (by rw [← HL.out]; omega)
        have hlt' : j < ys.length := by rw [← HL.out]; exact hlt
        obtain ⟨g0, g1, g2⟩ := hg j hlt
        obtain ⟨k0, k1, k2⟩ := hg' j hlt'
        have HN := Lib.hid (take_next hlt hlt' HP.out)
        have HD := Lib.hid (diff_at hlt hlt')
        generalize xs[j] = x at *
        generalize ys[j] = y at *
        have g0 := (HW.out.cell (p := ⟨b, o + j * 3, none⟩) (cell_lt g0)).trans g0
        have g1 := (HW.out.cell (p := ⟨b, o + j * 3 + 1, none⟩) (cell_lt g1)).trans g1
        have g2 := (HW.out.cell (p := ⟨b, o + j * 3 + 2, none⟩) (cell_lt g2)).trans g2
        have k0 := (HW.out.cell (p := ⟨b', o' + j * 3, none⟩) (cell_lt k0)).trans k0
        have k1 := (HW.out.cell (p := ⟨b', o' + j * 3 + 1, none⟩) (cell_lt k1)).trans k1
        have k2 := (HW.out.cell (p := ⟨b', o' + j * 3 + 2, none⟩) (cell_lt k2)).trans k2
        have hne : ¬ x = y → D = false := fun h => HDD.out ▸ HD.out h
        have HNE := Lib.hid hne
        clear hg hg' hr hr' hlt' hne HD
        by_cases hk : x.k = y.k
        case neg =>
          have HF := Lib.hid (HNE.out fun e => hk (by rw [e]))
          clear HN HNE
          go_wp2
          go_region
          go_wp2
          go_ret
          exact ⟨(by rw [HF.out]; rfl), HW.out.trans (below_drew (Below.refl _ _) |>.mono HW.out.size)⟩
        case pos =>
          by_cases ht : x.t = y.t
          case neg =>
            have HF := Lib.hid (HNE.out fun e => ht (by rw [e]))
            obtain ⟨z1, z2⟩ := str_diff ht
            clear HN HNE ht
            rw [← hk] at k0
            clear hk
            go_wp2
            go_region
            go_wp2
            go_ret
            exact ⟨(by rw [HF.out]; rfl), HW.out.trans (below_drew (Below.refl _ _) |>.mono HW.out.size)⟩
          case pos =>
            by_cases hv : x.v = y.v
            case neg =>
              have HF := Lib.hid (HNE.out fun e => hv (by rw [e]))
              obtain ⟨z1, z2⟩ := str_diff hv
              clear HN HNE hv
              rw [← hk] at k0
              rw [← ht] at k1
              clear hk ht
              go_wp2
              go_region
              go_wp2
              go_ret
              exact ⟨(by rw [HF.out]; rfl), HW.out.trans (below_drew (Below.refl _ _) |>.mono HW.out.size)⟩
            case pos =>
              have HE := Lib.hid (HN.out (by cases x; cases y; simp_all))
              rw [← hk] at k0
              rw [← ht] at k1
              rw [← hv] at k2
              clear hk ht hv HN HNE
              go_wp2
              go_region
              go_wp2
              go_roundw
              case rel => exact ⟨j + 1, by omega, by go_num, HE, Lib.hid (HW.out.trans (below_drew (Below.refl _ _) |>.mono HW.out.size))⟩
              case measure => simp [intOf]; omega
      case neg =>
        have HF := Lib.hid (take_same HL.out hlt HP.out)
        have HG : D = true := by rw [← HDD.out, decide_eq_true HF.out]
        have HG := Lib.hid HG
        clear hr hr' HF
        go_wp2
        go_ret
        exact ⟨(by rw [HG.out]; first | done | rfl), HW.out⟩
end Go.Proofs.YtkghdieakpipkaaGreatDoor
namespace Go.Proofs.YtkghdieakpipkaaGreatDoor
set_option maxRecDepth 100000
set_option linter.unusedSimpArgs false
set_option linter.unusedVariables false

/-- A name, and what is kept under it. -/
abbrev AEnt := List UInt8 × List Ev
/-- All that is kept, in the order in which it was opened; how many events were told. -/
structure Am where
  m : List AEnt
  told : Nat
def evSz (x : Ev) : Nat := x.t.size + x.v.size + 1
def evsSz (l : List Ev) : Nat := (l.map evSz).sum
def entSz (r : AEnt) : Nat := r.1.length + evsSz r.2
def sizeA (m : List AEnt) : Nat := (m.map entSz).sum
def knownB (l : List Ev) : Bool := doneB (runS [topP] l)
def namesA (m : List AEnt) : List (List UInt8) := m.map (·.1)
def openE (s : Am) (n : List UInt8) : Int :=
  if localL n = false then 1 else if n ∈ namesA s.m then 6 else if 200 < sizeA s.m + n.length then 12 else 0
def openM (s : Am) (n : List UInt8) : Am := if openE s n = 0 then { s with m := s.m ++ [(n, [])] } else s
def pend (m : List AEnt) : List AEnt := m.filter fun r => !knownB r.2
def takesA (m : List AEnt) (x : Ev) : Bool := (pend m).all fun r => decide (stepE (runS [topP] r.2) x = 0)
def stepAE (s : Am) (x : Ev) : Int := if takesA s.m x = false then 19 else if 200 < sizeA s.m + (pend s.m).length * evSz x then 12 else 0
def pushA (x : Ev) (r : AEnt) : AEnt := if knownB r.2 = true then r else (r.1, r.2 ++ [x])
def stepAM (s : Am) (x : Ev) : Am := if stepAE s x = 0 then { s with m := s.m.map (pushA x) } else s
def lookA (n : List UInt8) : List AEnt → Option (List Ev)
  | [] => none
  | r :: m => if r.1 = n then some r.2 else lookA n m
def getE (s : Am) (n : List UInt8) : Int :=
  match lookA n s.m with
  | none => 11
  | some l => if knownB l = false then 11 else if 40 < s.told + l.length then 13 else 0
def getL (s : Am) (n : List UInt8) : List Ev := if getE s n = 0 then (lookA n s.m).getD [] else []
def getM (s : Am) (n : List UInt8) : Am := if getE s n = 0 then { s with told := s.told + (getL s n).length } else s

/-- What always holds. -/
structure AInv (s : Am) : Prop where
  nd : (namesA s.m).Nodup
  ok : ∀ r ∈ s.m, allOk [topP] r.2 ∧ localL r.1 = true
  sz : sizeA s.m ≤ 200
  told : s.told ≤ 40
theorem sizeA_append (a b : List AEnt) : sizeA (a ++ b) = sizeA a + sizeA b := by simp [sizeA]
theorem evsSz_append (a b : List Ev) : evsSz (a ++ b) = evsSz a + evsSz b := by simp [evsSz]
theorem sizeA_cons (r : AEnt) (m : List AEnt) : sizeA (r :: m) = entSz r + sizeA m := by simp [sizeA]
theorem evsSz_len (l : List Ev) : l.length ≤ evsSz l := by
  induction l with
  | nil => simp
  | cons x l ih =>
    have : evsSz (x :: l) = evSz x + evsSz l := by simp [evsSz]
    rw [this, List.length_cons]
    unfold evSz
    omega
theorem entSz_le {m : List AEnt} {r : AEnt} (h : r ∈ m) : entSz r ≤ sizeA m := by
  induction m with
  | nil => cases h
  | cons y m ih =>
    rw [sizeA_cons]
    rcases List.mem_cons.1 h with rfl | h
    · omega
    · have := ih h; omega
theorem evSz_le {l : List Ev} {x : Ev} (h : x ∈ l) : evSz x ≤ evsSz l := by
  induction l with
  | nil => cases h
  | cons y l ih =>
    have e : evsSz (y :: l) = evSz y + evsSz l := by simp [evsSz]
    rw [e]
    rcases List.mem_cons.1 h with rfl | h
    · omega
    · have := ih h; omega
theorem sizeA_len {m : List AEnt} (h : ∀ r ∈ m, localL r.1 = true) : m.length ≤ sizeA m := by
  induction m with
  | nil => simp
  | cons r m ih =>
    rw [sizeA_cons, List.length_cons]
    have h1 := ih fun r hr => h r (List.mem_cons_of_mem _ hr)
    have h2 := h r List.mem_cons_self
    have : 1 ≤ r.1.length := by
      cases hr : r.1 with
      | nil => rw [hr] at h2; cases h2
      | cons c t => simp
    unfold entSz
    omega
theorem sizeA_push (x : Ev) (m : List AEnt) : sizeA (m.map (pushA x)) = sizeA m + (pend m).length * evSz x := by
  induction m with
  | nil => simp [sizeA, pend]
  | cons r m ih =>
    rw [List.map_cons, sizeA_cons, sizeA_cons, ih]
    unfold pend pushA
    rw [List.filter_cons]
    cases hk : knownB r.2 with
    | true => simp; omega
    | false =>
      have e : evsSz (r.2 ++ [x]) = evsSz r.2 + evSz x := by rw [evsSz_append]; simp [evsSz]
      simp only [Bool.not_false, if_true, if_false, List.length_cons, entSz, Bool.false_eq_true, e]
      rw [Nat.add_mul, Nat.one_mul]
      omega
theorem names_push (x : Ev) (m : List AEnt) : namesA (m.map (pushA x)) = namesA m := by
  unfold namesA
  rw [List.map_map]
  congr 1
  funext r
  show (pushA x r).1 = r.1
  unfold pushA
  split <;> rfl
theorem ainv0 : AInv ⟨[], 0⟩ := ⟨List.nodup_nil, fun _ h => absurd h List.not_mem_nil, by simp [sizeA], Nat.zero_le _⟩
theorem ainv_open {s : Am} (h : AInv s) (n : List UInt8) : AInv (openM s n) := by
  unfold openM
  split
  · rename_i h0
    unfold openE at h0
    split at h0
    · cases h0
    · rename_i h1
      split at h0
      · cases h0
      · rename_i h2
        split at h0
        · cases h0
        · rename_i h3
          refine ⟨?_, ?_, ?_, h.told⟩
          · show (namesA (s.m ++ [(n, [])])).Nodup
            unfold namesA
            rw [List.map_append, List.nodup_append]
            refine ⟨h.nd, by simp, ?_⟩
            intro a ha b hb
            simp at hb
            subst hb
            rintro rfl
            exact h2 ha
          · intro r hr
            rcases List.mem_append.1 hr with hr | hr
            · exact h.ok r hr
            · rw [List.mem_singleton] at hr
              subst hr
              exact ⟨trivial, by simpa using h1⟩
          · show sizeA (s.m ++ [(n, [])]) ≤ 200
            rw [sizeA_append, sizeA_cons]
            simp [entSz, evsSz, sizeA] at h3 ⊢
            omega
  · exact h
theorem takesA_of {m : List AEnt} {x : Ev} (h : takesA m x = true) {r : AEnt} (hr : r ∈ m) (hk : knownB r.2 = false) : stepE (runS [topP] r.2) x = 0 := by
  unfold takesA at h
  rw [List.all_eq_true] at h
  have := h r (by unfold pend; rw [List.mem_filter]; exact ⟨hr, by rw [hk]; rfl⟩)
  simpa using this
theorem stepAE_ok {s : Am} {x : Ev} (h : stepAE s x = 0) : takesA s.m x = true ∧ sizeA s.m + (pend s.m).length * evSz x ≤ 200 := by
  unfold stepAE at h
  split at h
  · cases h
  · rename_i h1
    split at h
    · cases h
    · exact ⟨by simpa using h1, by omega⟩
theorem ainv_step {s : Am} (h : AInv s) (x : Ev) : AInv (stepAM s x) := by
  unfold stepAM
  split
  · rename_i h0
    obtain ⟨h1, h2⟩ := stepAE_ok h0
    refine ⟨by show (namesA (s.m.map (pushA x))).Nodup; rw [names_push]; exact h.nd, ?_, by show sizeA (s.m.map (pushA x)) ≤ 200; rw [sizeA_push]; exact h2, h.told⟩
    intro r hr
    obtain ⟨q, hq, rfl⟩ := List.mem_map.1 hr
    have ho := h.ok q hq
    unfold pushA
    cases hk : knownB q.2 with
    | true => exact ho
    | false => exact ⟨(allOk_snoc _ _ _).2 ⟨ho.1, takesA_of h1 hq hk⟩, ho.2⟩
  · exact h
theorem ainv_get {s : Am} (h : AInv s) (n : List UInt8) : AInv (getM s n) := by
  unfold getM
  split
  · rename_i h0
    refine ⟨h.nd, h.ok, h.sz, ?_⟩
    show s.told + (getL s n).length ≤ 40
    unfold getL
    rw [if_pos h0]
    unfold getE at h0
    cases hl : lookA n s.m with
    | none => rw [hl] at h0; cases h0
    | some l =>
      rw [hl] at h0
      simp only at h0
      split at h0
      · cases h0
      · split at h0
        · cases h0
        · show s.told + l.length ≤ 40; omega
  · exact h
end Go.Proofs.YtkghdieakpipkaaGreatDoor
namespace Go.Proofs.YtkghdieakpipkaaGreatDoor
open Go.RowKit Go.Maps
set_option maxRecDepth 100000

def evc (x : Ev) : List Value := [.int .i64 x.k, .string x.t, .string x.v]
def evcs (l : List Ev) : List Value := l.flatMap evc
theorem evcs_len (l : List Ev) : (evcs l).length = l.length * 3 := by
  induction l with
  | nil => rfl
  | cons x l ih => simp only [evcs, List.flatMap_cons, List.length_append, List.length_cons] at ih ⊢; rw [ih]; simp [evc]; omega
theorem evcs_get : ∀ (l : List Ev) (k : Nat) (h : k < l.length) (j : Nat) (_ : j < 3), (evcs l)[k * 3 + j]? = (evc l[k])[j]?
  | x :: l, 0, _, j, hj => by
    simp only [evcs, List.flatMap_cons]
    rw [List.getElem?_append_left (by simp [evc]; omega)]
    simp
  | x :: l, k + 1, h, j, hj => by
    have ih := evcs_get l k (by simpa using h) j hj
    simp only [evcs, List.flatMap_cons] at ih ⊢
    rw [List.getElem?_append_right (by simp [evc]; omega), show (k + 1) * 3 + j - (evc x).length = k * 3 + j by simp [evc]; omega, ih]
    simp
theorem evcs_snoc (l : List Ev) (x : Ev) : evcs (l ++ [x]) = evcs l ++ evc x := by simp [evcs]
theorem Tryz.infoEv : (Tryz.prog.info? 31).map (fun i => (i.zero, i.size, i.bytes)) = some (some (.agg #[.int .i64 0, .string ⟨#[]⟩, .string ⟨#[]⟩]), 3, 40) := by kernel_rfl

def ERow (w : World) (base : Nat) (v : Value) (l : List Ev) : Prop := w.ownsRow base 31 3 v l.length (evcs l)
def eObj : Obj → Prop
  | .cells _ t _ => t = 31
  | _ => False
theorem ERow.nil (w : World) (base : Nat) : ERow w base (.slice none 0 0) [] := World.ownsRow_nil w base _ 3
theorem ERow.read {w : World} {base : Nat} {v : Value} {l : List Ev} (h : ERow w base v l) : ERead w v l := by
  have hr := h
  unfold ERow at hr
  rcases hr.2 with ⟨rfl, h0⟩ | ⟨r, c, cur, rfl, hg, hh, hnc, hm, hs, ht⟩
  · exact ⟨none, 0, by rw [h0], by omega, Nat.zero_le _, fun hp => by omega⟩
  · refine ⟨some ⟨r, 0, none⟩, c, rfl, hnc, hm, fun _ => ⟨r, 0, rfl, fun j hj => ?_⟩⟩
    have hat : ∀ i, i < 3 → w.cell? ⟨r, j * 3 + i, none⟩ = (evc l[j])[i]? := by
      intro i hi
      rw [Blk.cell hh, ← evcs_get l j hj i hi, ← ht, List.getElem?_take_of_lt (by omega), Array.getElem?_toList]
    rw [Nat.zero_add]
    have h0 := hat 0 (by omega)
    have h1 := hat 1 (by omega)
    have h2 := hat 2 (by omega)
    exact ⟨h0, h1, h2⟩
theorem ERow.below {w w' : World} {base : Nat} {v : Value} {l : List Ev} (h : ERow w base v l) (hb : Below w.heap.size w w') : ERow w' base v l :=
  row_tch (base := base) (p := fun _ => False) h (Tch.of_below hb) (fun _ _ h => h)
theorem ERow.of_c {w w' : World} {base : Nat} {v : Value} {l : List Ev} (h : ERow w base v l) (ht : Tch base cObj w w') : ERow w' base v l :=
  row_tch h ht (fun _ _ => by simp only [cObj]; decide)
theorem CAt.of_e {w w' : World} {base g : Nat} {st : List Pt} (h : CAt w base g st) (ht : Tch base eObj w w') : CAt w' base g st :=
  h.tch ht (fun cs t fr h hc => by simp only [eObj] at hc; rcases h with rfl | rfl <;> exact absurd hc (by decide)) (fun _ _ hc => hc)
theorem ERow.shape {w : World} {base : Nat} {v : Value} {l : List Ev} (h : ERow w base v l) : ∃ A c, v = .slice A l.length c := by
  rcases h.2 with ⟨rfl, h0⟩ | ⟨g, cap, cur, rfl, _⟩
  · exact ⟨_, _, by rw [h0]⟩
  · exact ⟨_, _, rfl⟩
theorem ERow.alloc {w : World} {base : Nat} {v : Value} {l : List Ev} (h : ERow w base v l) (o : Obj) : ERow (w.alloc o) base v l := World.ownsRow.alloc h o
theorem erow_push {w w' : World} {base : Nat} {v v' : Value} {l : List Ev} {x : Ev} {o : Obj} (h : ERow w base v l) (hg : (w.alloc o).grownBy w' v.ownBlock)
    (hr : w'.ownsRow base 31 3 v' (l.length + 1) (evcs l ++ [.int .i64 x.k, .string x.t, .string x.v])) : ERow w' base v' (l ++ [x]) ∧ Tch base eObj w w' := by
  refine ⟨?_, ((Tch.refl base eObj w).alloc o).trans (Tch.of_row (h.alloc o) hg (Nat.le_refl _) (fun _ => rfl))⟩
  unfold ERow
  rw [evcs_snoc, List.length_append]
  exact hr

end Go.Proofs.YtkghdieakpipkaaGreatDoor

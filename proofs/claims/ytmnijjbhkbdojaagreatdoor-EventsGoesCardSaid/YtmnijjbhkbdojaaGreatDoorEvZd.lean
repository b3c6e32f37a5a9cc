/-
  The walk of EventsGoes.
-/
import Derived.Test.YtmnijjbhkbdojaaGreatDoorEvO
import Derived.Test.YtmnijjbhkbdojaaGreatDoorEvQ
namespace Go.Proofs.YtmnijjbhkbdojaaGreatDoor
open Go.RowKit Go.Maps
set_option maxRecDepth 100000

theorem good_len {st : List Pt} (h : Good st) : 1 ≤ st.length ∧ st.length ≤ 7 := by
  obtain ⟨p, r, rfl⟩ := h.ne
  exact ⟨by simp, h.2⟩
/-- What the first loop's round holds. -/
structure GRel (w : World) (g : Nat) (v : Value) (hs : List Ev) (st : List Pt) (wr : World) : Prop where
  row : ERow wr w.heap.size v hs
  chk : CAt wr w.heap.size g st
  tak : Taken hs st
  oks : ∀ x ∈ hs, okE x
  bel : Below w.heap.size w wr
/-- What the second loop's round holds. -/
structure HRel (w : World) (v : Value) (hs : List Ev) (st : List Pt) (wr : World) : Prop where
  row : ERow wr w.heap.size v hs
  tak : Taken hs st
  nokey : ¬ KeySt st
  ne : hs ≠ []
  oks : ∀ x ∈ hs, okE x
  bel : Below w.heap.size w wr

theorem okE_null : okE nullE := ⟨by decide, by decide, by decide, by decide⟩
theorem okE_end (kind : Int) : okE (endE (endK kind)) := by
  have h : endK kind = 9 ∨ endK kind = 12 ∨ endK kind = 6 := by
    unfold endK
    split
    · exact .inl rfl
    · split
      · exact .inr (.inl rfl)
      · exact .inr (.inr rfl)
  generalize endK kind = e at *
  refine ⟨?_, ?_, ?_, ?_⟩
  · show (-9223372036854775808 : Int) ≤ e; omega
  · show e ≤ 9223372036854775807; omega
  · show (⟨#[]⟩ : ByteArray).size ≤ 140737488355328; decide
  · show (⟨#[]⟩ : ByteArray).size ≤ 140737488355328; decide
theorem oks_snoc {hs : List Ev} {x : Ev} (h : ∀ y ∈ hs, okE y) (hx : okE x) : ∀ y ∈ hs ++ [x], okE y := by
  intro y hy
  rcases List.mem_append.1 hy with hy | hy
  · exact h y hy
  · rw [List.mem_singleton.1 hy]; exact hx
/-- The kind of the last. -/
theorem erow_last {w : World} {base : Nat} {v : Value} {S : List Ev} {y : Ev} (h : ERow w base v (S ++ [y])) : ∃ r c, v = .slice (some ⟨r, 0, none⟩) (S.length + 1) c ∧ w.cell? ⟨r, S.length * 3, none⟩ = some (.int .i64 y.k) := by
  have h' := h
  unfold ERow at h'
  rw [show (S ++ [y]).length = S.length + 1 by simp] at h'
  obtain ⟨r, c, rfl⟩ := rowN_shape h' (by omega)
  refine ⟨r, c, rfl, ?_⟩
  rw [rowN_cell h' (by omega), evcs_snoc, List.getElem?_append_right (by rw [evcs_len]; omega), evcs_len]
  simp [evc]

theorem kindAt_get' {l : List Ev} {i : Nat} (h : i < l.length) : kindAt l i = (l[i]).k := by
  unfold kindAt; rw [List.getElem?_eq_getElem h]
theorem len_bounds {n m : Nat} (h : n ≤ 121 + m) (hm : m ≤ 7) : n + 1 ≤ maxLen ∧ (n + 1) * 40 ≤ 140737488355328 := by
  refine ⟨?_, by omega⟩
  simp only [maxLen]
  omega
theorem endK_ne8 (kind : Int) : endK kind ≠ 8 := by
  unfold endK
  split
  · decide
  · split <;> decide
theorem erow_n {w : World} {base : Nat} {v : Value} {S : List Ev} {y : Ev} (h : ERow w base v (S ++ [y])) : w.ownsRow base 28 3 v (S.length + 1) (evcs (S ++ [y])) := by
  unfold ERow at h
  rw [show (S ++ [y]).length = S.length + 1 by simp] at h
  exact h

set_option maxHeartbeats 16000000 in
theorem walk_EventsGoes (v : Value) (xs : List Ev) (hx : ∀ x ∈ xs, okE x) (hn : xs.length ≤ 4611686018427387904) (w : World) (hw : Nm.StdW w) (hv : ERead w v xs) :
    Calls Tryz.prog 5 #[v] w fun e w' => e = .returned (.bool true) ∧ Below w.heap.size w w' := by
  obtain ⟨A, c, rfl, _, _, hr⟩ := hv
  go_enter Tryz.func5, Tryz.ntmps5
  go_wp2_with (first
    | (go_at_call 8; refine (cnew_any _ w.heap.size (Nat.le_refl _)).mono ?_; rintro e w1 ⟨g, rfl, hg, hC1, hb1⟩))
  go_loopw [4, 5] (fun h i wr => ∃ (k : Nat) (hs : List Ev) (st : List Pt), k ≤ xs.length ∧ k ≤ 120 ∧ i = .int .i64 k ∧ hs.length ≤ k ∧ GRel w g h hs st wr) (fun _ i _ => xs.length - (intOf i).toNat)
  case atStart => exact ⟨0, [], [topP], Nat.zero_le _, Nat.zero_le _, rfl, Nat.le_refl _, ERow.nil _ _, hC1, taken_nil, (fun x h => by cases h), hb1⟩
  case round =>
    obtain ⟨k, hs, st, hk, hk120, rfl, hkl, SR⟩ := hrel
    by_cases hlt : k < xs.length ∧ k < 120
    · obtain ⟨hlt, h120⟩ := hlt
      obtain ⟨bb, oo, rfl, hc⟩ := hr (by omega)
      obtain ⟨h1, h2, h3⟩ := hc k hlt
      have hok := hx _ (List.getElem_mem hlt)
      have g1 := (SR.bel.cell (cell_lt h1)).trans h1
      have g2 := (SR.bel.cell (cell_lt h2)).trans h2
      have g3 := (SR.bel.cell (cell_lt h3)).trans h3
      clear hr
      generalize hxk : xs[k] = x at *
      have hsz := hok.2.2.1
      have hwr := hw.below SR.bel
      have hsl : hs.length ≤ 120 := by omega
      have hlti : (k : Int) < xs.length := by omega
      have hki : (k : Int) < 120 := by omega
      have hCS := stepV wr w.heap.size g st _ _ x rfl rfl SR.chk SR.tak.good hwr hsz
      have hRn := fun h => SR.tak.snoc (x := x) h
      have hSn : stepE st x ≠ 0 → stepS st x = st := fun h => by unfold stepS; rw [if_neg h]
      generalize hst2 : stepS st x = st2 at *
      generalize stepE st x = E at *
      go_wp2_with fail
      refine hCS.mono ?_
      rintro e w3 ⟨rfl, hC3, hT3⟩
      have hrow3 := SR.row.of_c hT3
      have hbel3 := SR.bel.trans (hT3.below SR.bel.size)
      have l1 := (hbel3.cell (cell_lt h1)).trans h1
      have l2 := (hbel3.cell (cell_lt h2)).trans h2
      have l3 := (hbel3.cell (cell_lt h3)).trans h3
      have htak := SR.tak
      have hoks := SR.oks
      clear hc h1 h2 h3 g1 g2 g3 hCS SR
      by_cases hz : E = 0
      · have hRn2 := hRn hz
        subst hz
        have h63 : hs.length + 1 ≤ maxLen := by simp only [maxLen]; omega
        have h40 : (hs.length + 1) * 40 ≤ 140737488355328 := by omega
        have hbs3 : w.heap.size ≤ (w3.alloc (.cells #[.int .i64 x.k, .string x.t, .string x.v] 28)).heap.size := by have := hbel3.size; simp; omega
        clear hRn hSn
        go_wp2_with (first
          | (at_builtin; refine wp_appG rfl _ _ 22 rfl w.heap.size 28 _ 3 40 Tryz.underlying22 Tryz.infoEv rfl (by decide) u4 hs.length (evcs hs) [.int .i64 x.k, .string x.t, .string x.v] rfl (by exact hrow3.alloc _) (by simp [Value.oneCell']) ⟨w3.heap.size, 0, none⟩ 1 1 rfl rfl (by exact cellsOf3 w3 _ _ _ _) h63 h40 hbs3 ?_; intro v4 w4 hown4 hg4))
        obtain ⟨hrow5, hT4⟩ := erow_push (x := x) hrow3 hg4 hown4
        go_roundw
        case rel => exact ⟨k + 1, hs ++ [x], st2, hlt, by omega, by go_num, by simp; omega, hrow5, hC3.of_e hT4, hRn2, oks_snoc hoks hok, hbel3.trans (hT4.below hbel3.size)⟩
        case measure => first | (simp [intOf]; done) | (simp [intOf]; omega)
      · have hs2 := hSn hz
        subst hs2
        have e0 := ne_beq hz
        have e1 := ne_bne hz
        clear hRn hSn hz
        go_wp2_with fail
        go_roundw
        case rel => exact ⟨k + 1, hs, st2, hlt, by omega, by go_num, by omega, hrow3, hC3, htak, hoks, hbel3⟩
        case measure => first | (simp [intOf]; done) | (simp [intOf]; omega)
    · have hL := fun w' h => elives_any w' h
      have hbel := SR.bel
      have htak := SR.tak
      have hoks := SR.oks
      have hrow := SR.row
      have hbs : ∀ cs, w.heap.size ≤ (wr.alloc (.cells cs 28)).heap.size := fun cs => by have := hbel.size; simp; omega
      have hgl := good_len htak.good
      have h63 : hs.length + 1 ≤ maxLen := by simp only [maxLen]; omega
      have h40 : (hs.length + 1) * 40 ≤ 140737488355328 := by omega
      clear SR hr
      by_cases hl2 : k < xs.length
      case' pos =>
        have hlti : (k : Int) < xs.length := by omega
        have hki : ¬ (k : Int) < 120 := by omega
      case' neg =>
        have hlti : ¬ (k : Int) < xs.length := by omega
      all_goals
        clear hl2 hlt
        rcases List.eq_nil_or_concat hs with rfl | ⟨S, y, hSy⟩
        case' inl =>
          obtain ⟨A4, c4, rfl⟩ := hrow.shape
          obtain rfl : st = [topP] := htak.2.symm
          go_wp2_with (first
            | (at_builtin; refine wp_appG rfl _ _ 22 rfl w.heap.size 28 _ 3 40 Tryz.underlying22 Tryz.infoEv rfl (by decide) (.slice A4 0 c4) 0 [] [.int .i64 1, .string ⟨#[]⟩, .string ⟨#[]⟩] rfl (by exact hrow.alloc _) (by simp [Value.oneCell']) ⟨wr.heap.size, 0, none⟩ 1 1 rfl rfl (by exact cellsOf3 wr _ _ _ _) h63 h40 (hbs _) ?_; intro v4 w4 hown4 hg4))
          obtain ⟨hrow5, hT5⟩ := erow_push (x := nullE) hrow hg4 hown4
          have tak5 := htak.snoc null_top
          have hnk := (not_congr (key_step good_start null_top)).2 (by decide)
          have HR5 : HRel w _ _ _ w4 := ⟨hrow5, tak5, hnk, by simp, oks_snoc hoks okE_null, hbel.trans (hT5.below hbel.size)⟩
          have hst5 : (stepS [topP] nullE).length + 0 ≤ 7 := by have := (good_len tak5.good).2; omega
          have hl5 : (([] : List Ev) ++ [nullE]).length ≤ 121 + 0 := by simp
          generalize [] ++ [nullE] = hs5 at *
          generalize stepS [topP] nullE = st5 at *
          clear hown4 hg4 hrow5 tak5
        case' inr =>
          rw [List.concat_eq_append] at hSy
          subst hSy
          obtain ⟨r4, c4, rfl, hcell⟩ := erow_last hrow
          have hSl : S.length + 1 ≤ 120 := by simp at hkl; omega
          rw [show (S ++ [y]).length = S.length + 1 by simp] at h63 h40
          by_cases hy8 : y.k = 8
          case' pos =>
            rw [hy8] at hcell
            have hks := htak.key.2 hy8
            have hn0 := null_key hks
            go_wp2_with (first
              | (at_builtin; refine wp_appG rfl _ _ 22 rfl w.heap.size 28 _ 3 40 Tryz.underlying22 Tryz.infoEv rfl (by decide) (.slice (some ⟨r4, 0, none⟩) (S.length + 1) c4) (S.length + 1) (evcs (S ++ [y])) [.int .i64 1, .string ⟨#[]⟩, .string ⟨#[]⟩] rfl (by exact (erow_n hrow).alloc _) (by simp [Value.oneCell']) ⟨wr.heap.size, 0, none⟩ 1 1 rfl rfl (by exact cellsOf3 wr _ _ _ _) h63 h40 (hbs _) ?_; intro v4 w4 hown4 hg4; obtain ⟨r5, c5, rfl⟩ := rowN_shape hown4 (Nat.succ_pos _)))
            obtain ⟨hrow5, hT5⟩ := erow_push (x := nullE) hrow hg4 (by rw [show (S ++ [y]).length = S.length + 1 by simp]; exact hown4)
            have tak5 := htak.snoc hn0
            have hnk := (not_congr (key_step htak.good hn0)).2 (by decide)
            have HR5 : HRel w _ _ _ w4 := ⟨hrow5, tak5, hnk, by simp, oks_snoc hoks okE_null, hbel.trans (hT5.below hbel.size)⟩
            have hst5 : (stepS st nullE).length + 0 ≤ 7 := by have := (good_len tak5.good).2; omega
            have hl5 : ((S ++ [y]) ++ [nullE]).length ≤ 121 + 0 := by simp; omega
            generalize (S ++ [y]) ++ [nullE] = hs5 at *
            generalize stepS st nullE = st5 at *
            clear hown4 hg4 hrow5 tak5
          case' neg =>
            have e8 := ne_beq hy8
            have hnk := fun h => hy8 (htak.key.1 h)
            have HR5 : HRel w _ _ _ wr := ⟨hrow, htak, hnk, by simp, hoks, hbel⟩
            have hst5 : st.length + 0 ≤ 7 := by omega
            have hl5 : (S ++ [y]).length ≤ 121 + 0 := by simp; omega
            generalize y.k = yk at *
            go_wp2_with fail
            generalize S ++ [y] = hs5 at *
            generalize st = st5 at *
        all_goals
          go_loopw [4, 6] (fun h i wr => ∃ (m : Nat) (hs : List Ev) (st : List Pt), i = .int .i64 m ∧ st.length + m ≤ 7 ∧ hs.length ≤ 121 + m ∧ HRel w h hs st wr) (fun _ i _ => 7 - (intOf i).toNat)
          case atStart => exact ⟨0, hs5, st5, rfl, hst5, hl5, HR5⟩
          case round =>
            obtain ⟨m, hs6, st6, rfl, hst6, hl6, HR6⟩ := hrel
            have hg6 := good_len HR6.tak.good
            have hmi : (m : Int) < 7 := by omega
            obtain ⟨row6, tak6, nokey6, ne6, oks6, bel6⟩ := HR6
            have hA := at_any _ _ hs6 row6.read (by omega)
            obtain ⟨A5, c5, hv5, _, _, hrd⟩ := row6.read
            subst hv5
            cases ha : atL hs6 with
            | nil =>
              rw [atEnd_nil ha] at hA
              have HW := Lib.hid (taken_whole tak6 ha ne6)
              clear hrd ha tak6 ne6
              go_wp2_with fail
              refine hA.mono ?_
              rintro e w7 ⟨rfl, hb7⟩
              have hbel7 := bel6.trans (hb7.mono bel6.size)
              have hW7 := ewhole_any _ _ hs6 (row6.below hb7).read oks6 (hw.below hbel7) (by omega)
              rw [HW.out] at hW7
              unfold WEnd at hW7
              simp only at hW7
              go_wp2_with fail
              refine hW7.mono ?_
              rintro e w8 ⟨rfl, hb8⟩
              have hbel8 := hbel7.trans (hb8.mono hbel7.size)
              go_wp2_with (first
                | (go_at_call 14; refine (hL _ (hw.below hbel8)).mono ?_; rintro e w9 ⟨rfl, hb9⟩))
              go_ret
              exact ⟨rfl, hbel8.trans (hb9.mono hbel8.size)⟩
            | cons pl ps =>
              rw [atEnd_cons ha] at hA
              obtain ⟨p, r, rfl, hpl, hkp, hop⟩ := taken_inner tak6 ha
              obtain ⟨b5, o5, rfl, hcl⟩ := hrd (by omega)
              have q0 := (hcl pl hpl).1
              rw [← kindAt_get' hpl, hkp] at q0
              have hpli : (pl : Int) < hs6.length := by omega
              have hst7 : r.length + (m + 1) ≤ 7 := by simp at hst6; omega
              have hl7 : ∀ x : Ev, (hs6 ++ [x]).length ≤ 121 + (m + 1) := fun x => by simp; omega
              obtain ⟨h63', h40'⟩ := len_bounds hl6 (Nat.le_trans (Nat.le_add_left _ _) hst6)
              have h0p : ¬ (pl : Int) < 0 := Int.not_lt.2 (Int.natCast_nonneg pl)
              obtain ⟨hE0, hE1⟩ := end_step hop nokey6
              have htak7 := tak6.snoc hE0
              rw [hE1] at htak7
              have hkey7 : ¬ KeySt r := fun h => by have := htak7.key.1 h; exact endK_ne8 p.kind this
              have hok7 := oks_snoc oks6 (okE_end p.kind)
              have hopk := hop
              unfold opensK at hop
              rw [decide_eq_true_iff] at hop
              have HT7 := Lib.hid htak7
              have HK7 := Lib.hid hkey7
              have HO7 := Lib.hid hok7
              have HS7 := Lib.hid hst7
              have HL7 := Lib.hid hl7
              have HO6 := Lib.hid oks6
              clear hcl hrd ha hE0 hE1 hopk hkp nokey6 tak6 htak7 hkey7 hok7 hst7 hl7 hst6 hl6 hg6 ne6 oks6
              generalize p.kind = pk at *
              rcases hop with rfl | rfl | rfl
              all_goals
                go_wp2_with fail
                refine hA.mono ?_
                rintro e w7 ⟨rfl, hb7⟩
                have row7 := row6.below hb7
                have hbel7 := bel6.trans (hb7.mono bel6.size)
                have q7 := (hb7.cell (cell_lt q0)).trans q0
                have hbs7 : ∀ cs, w.heap.size ≤ (w7.alloc (.cells cs 28)).heap.size := fun cs => by have := hbel7.size; simp; omega
                go_wp2_with (first
                  | (at_builtin; refine wp_appG rfl _ _ 22 rfl w.heap.size 28 _ 3 40 Tryz.underlying22 Tryz.infoEv rfl (by decide) (.slice (some ⟨b5, o5, none⟩) hs6.length c5) hs6.length (evcs hs6) [.int .i64 _, .string ⟨#[]⟩, .string ⟨#[]⟩] rfl (by exact row7.alloc _) (by simp [Value.oneCell']) ⟨w7.heap.size, 0, none⟩ 1 1 rfl rfl (by exact cellsOf3 w7 _ _ _ _) h63' h40' (hbs7 _) ?_; intro v4 w4 hown4 hg4))
                obtain ⟨hrow8, hT8⟩ := erow_push (x := endE _) row7 hg4 hown4
                go_roundw
                case rel => exact ⟨m + 1, _, r, by go_num, HS7.out, HL7.out _, hrow8, HT7.out, HK7.out, by simp, HO7.out, hbel7.trans (hT8.below hbel7.size)⟩
                case measure => first | (simp [intOf]; done) | (simp [intOf]; omega)
end Go.Proofs.YtmnijjbhkbdojaaGreatDoor

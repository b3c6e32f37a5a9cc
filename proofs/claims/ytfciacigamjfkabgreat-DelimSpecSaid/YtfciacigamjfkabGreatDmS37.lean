/-
  delim: the machine's run over rows, against the reference's rows. No program is read here.
-/
import Derived.Test.YtfciacigamjfkabGreatDmS35
import Derived.Test.YtfciacigamjfkabGreatDmS36
namespace Go.Proofs.YtfciacigamjfkabGreat
set_option maxRecDepth 100000
set_option linter.unusedSimpArgs false
set_option linter.unusedVariables false
set_option linter.unusedSectionVars false
variable [Tab] [Fo]

/-- Names of columns. -/
structure NsOk (ns : List (List UInt8)) : Prop where
  nd : ns.Nodup
  ok : ∀ n ∈ ns, validL n = true
  ln : ns.length ≤ 8
def rowSt (ns : List (List UInt8)) (k : Nat) (j : Int) : List Pt := if k = 0 then stI j else ⟨7, 4, (ns.take k).reverse⟩ :: stI 7
/-- The machine ahead of a row's cell. -/
def rowS (ns : List (List UInt8)) (k : Nat) (α j : Int) (l : List Ev) : Ds := ⟨⟨α, ns, true, k, []⟩, rowSt ns k j, l⟩
theorem e_map {j : Int} (hj : j = 0 ∨ j = 7) : stepE (stI j) (bare 7) = 0 ∧ goS (stI j) (bare 7) = ⟨7, 0, []⟩ :: stI 7 := by
  rcases hj with rfl | rfl
  · exact ⟨by kernel_rfl, rfl⟩
  · exact ⟨by kernel_rfl, rfl⟩
theorem e_key {ls : Int} (hls : ls = 0 ∨ ls = 4) {keys : List (List UInt8)} {t : List UInt8} (ht : validL t = true) (hn : t ∉ keys) (hk : keys.length < 10) :
    stepE (⟨7, ls, keys⟩ :: stI 7) ⟨8, ⟨t.toArray⟩, ⟨#[]⟩⟩ = 0 ∧ goS (⟨7, ls, keys⟩ :: stI 7) ⟨8, ⟨t.toArray⟩, ⟨#[]⟩⟩ = ⟨7, 8, t :: keys⟩ :: stI 7 := by
  refine ⟨?_, rfl⟩
  have hf : formedB ⟨8, ⟨t.toArray⟩, ⟨#[]⟩⟩ = true := by
    have : formedB ⟨8, ⟨t.toArray⟩, ⟨#[]⟩⟩ = (emptyT ⟨#[]⟩ && validL t) := rfl
    rw [this, ht]; rfl
  have hc : contB 7 ls 8 (emptyT ⟨t.toArray⟩) = true := by rcases hls with rfl | rfl <;> rfl
  show (if formedB ⟨8, ⟨t.toArray⟩, ⟨#[]⟩⟩ = false ∨ contB 7 ls 8 (emptyT ⟨t.toArray⟩) = false then (19 : Int) else if endsK 8 = true then 0 else if opensK 8 = true then (if 6 ≤ (stI 7).length then 5 else 0) else if (8 : Int) = 8 ∨ (8 : Int) = 11 then (if t ∈ keys then 6 else if 10 ≤ keys.length then 7 else 0) else 0) = 0
  rw [if_neg (by rw [hf, hc]; rintro (h | h) <;> cases h), if_neg (by decide), if_neg (by decide), if_pos (.inl rfl), if_neg hn, if_neg (by omega)]
theorem e_txt {keys : List (List UInt8)} {c : List UInt8} (hv : validL c = true) : stepE (⟨7, 8, keys⟩ :: stI 7) (txt c) = 0 ∧ goS (⟨7, 8, keys⟩ :: stI 7) (txt c) = ⟨7, 4, keys⟩ :: stI 7 := by
  refine ⟨?_, rfl⟩
  have hf : formedB (txt c) = true := by
    have : formedB (txt c) = (emptyT ⟨#[]⟩ && validL c) := rfl
    rw [this, hv]; rfl
  have hc : contB 7 8 4 (emptyT (txt c).t) = true := rfl
  show (if formedB (txt c) = false ∨ contB 7 8 4 (emptyT (txt c).t) = false then (19 : Int) else if endsK 4 = true then 0 else if opensK 4 = true then (if 6 ≤ (stI 7).length then 5 else 0) else if (4 : Int) = 8 ∨ (4 : Int) = 11 then (if (txt c).t.data.toList ∈ keys then 6 else if 10 ≤ keys.length then 7 else 0) else 0) = 0
  rw [if_neg (by rw [hf, hc]; rintro (h | h) <;> cases h), if_neg (by decide), if_neg (by decide), if_neg (by decide)]
theorem e_end (keys : List (List UInt8)) : stepE (⟨7, 4, keys⟩ :: stI 7) (bare 9) = 0 ∧ goS (⟨7, 4, keys⟩ :: stI 7) (bare 9) = stI 7 := ⟨rfl, rfl⟩
theorem e_lend {j : Int} (hj : j = 0 ∨ j = 7) : stepE (stI j) (bare 6) = 0 ∧ goS (stI j) (bare 6) = [⟨0, 5, []⟩] := by
  rcases hj with rfl | rfl
  · exact ⟨by kernel_rfl, rfl⟩
  · exact ⟨by kernel_rfl, rfl⟩
/-- What is told of a cell. -/
def toldC (ns : List (List UInt8)) (k : Nat) (l : List Ev) (o : List UInt8) : List Ev := ((if k = 0 then l ++ [bare 7] else l) ++ [⟨8, ⟨(ns.getD k []).toArray⟩, ⟨#[]⟩⟩]) ++ [txt o]
theorem cellT_l (ns : List (List UInt8)) (k : Nat) (x : Tx) (r : CellR) : (cellT ns k x r).l = toldC ns k x.l r.out := by
  unfold cellT toldC tellX
  split <;> rfl
theorem getD_at {ns : List (List UInt8)} {k : Nat} (h : k < ns.length) : ns.getD k [] = ns[k] := by simp [List.getD, h]
theorem take_getD {ns : List (List UInt8)} {k : Nat} (h : k < ns.length) : ns.take (k + 1) = ns.take k ++ [ns.getD k []] := by
  rw [List.take_succ_eq_append_getElem h, getD_at h]
theorem nodup_take {ns : List (List UInt8)} (hn : ns.Nodup) {k : Nat} (h : k < ns.length) : ns.getD k [] ∉ ns.take k := by
  rw [getD_at h]
  intro hm
  have h2 := hn.sublist (List.take_sublist (k + 1) ns)
  rw [List.take_succ_eq_append_getElem h, List.nodup_append] at h2
  exact h2.2.2 _ hm _ (List.mem_singleton.2 rfl) rfl
/-- A cell that is told: the machine is in a row of which k cells were told. -/
theorem tell_row {ns : List (List UInt8)} (hN : NsOk ns) {k : Nat} (hk : k < ns.length) {j α : Int} (hj : j = 0 ∨ j = 7) (l : List Ev) {o : List UInt8} (hv : validL o = true) :
    tellCellD (rowS ns k α j l) o = ⟨⟨⟨α, ns, true, k + 1, []⟩, ⟨7, 4, (ns.take (k + 1)).reverse⟩ :: stI 7, toldC ns k l o⟩, 0⟩ := by
  have hg : validL (ns.getD k []) = true := by rw [getD_at hk]; exact hN.ok _ (List.getElem_mem hk)
  have hnd := nodup_take hN.nd hk
  have hl8 := hN.ln
  have r1 : rowD (rowS ns k α j l) = ⟨⟨⟨α, ns, true, k, []⟩, ⟨7, (if k = 0 then 0 else 4), (ns.take k).reverse⟩ :: stI 7, if k = 0 then l ++ [bare 7] else l⟩, 0⟩ := by
    unfold rowD
    by_cases h0 : k = 0
    · subst h0
      rw [if_pos (show (rowS ns 0 α j l).m.n = 0 from rfl)]
      obtain ⟨e1, e2⟩ := e_map hj
      exact tellD_ok e1 e2
    · rw [if_neg (show ¬ (rowS ns k α j l).m.n = 0 from h0), if_neg h0, if_neg h0]
      unfold rowS rowSt
      rw [if_neg h0]
  have r2 : keyD (⟨⟨α, ns, true, k, []⟩, ⟨7, (if k = 0 then 0 else 4), (ns.take k).reverse⟩ :: stI 7, if k = 0 then l ++ [bare 7] else l⟩) = ⟨⟨⟨α, ns, true, k, []⟩, ⟨7, 8, ns.getD k [] :: (ns.take k).reverse⟩ :: stI 7, (if k = 0 then l ++ [bare 7] else l) ++ [⟨8, ⟨(ns.getD k []).toArray⟩, ⟨#[]⟩⟩]⟩, 0⟩ := by
    obtain ⟨e1, e2⟩ := e_key (ls := if k = 0 then 0 else 4) (by split; exact .inl rfl; exact .inr rfl) (keys := (ns.take k).reverse) (t := ns.getD k []) hg (by rw [List.mem_reverse]; exact hnd) (by rw [List.length_reverse, List.length_take]; omega)
    exact tellD_ok e1 e2
  have r3 : textD (⟨⟨α, ns, true, k, []⟩, ⟨7, 8, ns.getD k [] :: (ns.take k).reverse⟩ :: stI 7, (if k = 0 then l ++ [bare 7] else l) ++ [⟨8, ⟨(ns.getD k []).toArray⟩, ⟨#[]⟩⟩]⟩) o = ⟨⟨⟨α, ns, true, k + 1, []⟩, ⟨7, 4, (ns.take (k + 1)).reverse⟩ :: stI 7, toldC ns k l o⟩, 0⟩ := by
    obtain ⟨e1, e2⟩ := e_txt (keys := ns.getD k [] :: (ns.take k).reverse) hv
    have e3 : (ns.take (k + 1)).reverse = ns.getD k [] :: (ns.take k).reverse := by rw [take_getD hk, List.reverse_append]; rfl
    rw [e3]
    exact tellD_ok (x := txt o) e1 e2
  unfold tellCellD
  rw [r1, if_neg (fun h => h rfl), r2, if_neg (fun h => h rfl), r3]
/-- A row's cell that has ended. -/
theorem end_row {ns : List (List UInt8)} (hN : NsOk ns) {k : Nat} (hk : k < ns.length) {j α β : Int} (hj : j = 0 ∨ j = 7) (l : List Ev) {o : List UInt8} (hv : validL o = true) (last : Bool) :
    endCellD (endS (rowS ns k α j l) β o) last =
      if last ≠ decide (k + 1 = ns.length) then ⟨⟨⟨β, ns, true, k + 1, []⟩, ⟨7, 4, (ns.take (k + 1)).reverse⟩ :: stI 7, toldC ns k l o⟩, 17⟩
      else if last = false then ⟨rowS ns (k + 1) β 7 (toldC ns k l o), 0⟩ else ⟨rowS ns 0 β 7 (toldC ns k l o ++ [bare 9]), 0⟩ := by
  have ht := tell_row hN hk (α := β) hj l hv
  unfold endCellD
  rw [if_neg (show ¬ (endS (rowS ns k α j l) β o).m.hd = false from by show ¬ true = false; decide)]
  have he : emptyD (endS (rowS ns k α j l) β o) = rowS ns k β j l := rfl
  have hc : (endS (rowS ns k α j l) β o).m.c = o := rfl
  rw [he, hc, ht, if_neg (fun h => h rfl)]
  unfold countD
  show (if last ≠ decide (k + 1 = ns.length) then _ else _) = _
  by_cases h1 : last ≠ decide (k + 1 = ns.length)
  · rw [if_pos h1, if_pos h1]
  · rw [if_neg h1, if_neg h1]
    by_cases h2 : last = false
    · rw [if_pos h2, if_pos h2]
      unfold rowS rowSt
      rw [if_neg (by omega)]
    · rw [if_neg h2, if_neg h2]
      obtain ⟨e1, e2⟩ := e_end (ns.take (k + 1)).reverse
      exact tellD_ok e1 e2
/-- What the reference comes to. -/
def finF (x : Tx) : Fn := if x.cl = false ∧ (x.e = 0 ∨ (x.s.length : Int) ≤ x.pl) then ⟨x.l, 3, x.s.length⟩ else if x.e ≠ 0 then ⟨x.l, x.e, x.pl.toNat⟩ else ⟨x.l, 0, x.s.length⟩
theorem finF_bad {x : Tx} (h0 : x.e = 0) {e : Int} (he : e ≠ 0) (a : Nat) : finF (badX x e a) = errF x.cl x.s.length x.l e a := by
  unfold badX finF errF
  rw [if_pos h0]
  simp only
  by_cases hc : x.cl = false ∧ x.s.length ≤ a
  · rw [if_pos ⟨hc.1, .inr (by omega)⟩, if_pos hc]
  · rw [if_neg (by rintro ⟨h1, h2⟩; rcases h2 with h2 | h2; exact he h2; exact hc ⟨h1, by omega⟩), if_neg hc, if_pos he, Int.toNat_natCast]
theorem finF_ok {x : Tx} (h0 : x.e = 0) : finF x = ⟨x.l, if x.cl = true then 0 else 3, x.s.length⟩ := by
  unfold finF
  cases hc : x.cl with
  | true => rw [if_neg (fun h => by cases h.1), if_neg (fun h => h h0), if_pos rfl]
  | false => rw [if_pos ⟨rfl, .inl h0⟩, if_neg (by decide)]
/-- How a cell of a text that is read goes on. -/
theorem drop_uv {T u v : List UInt8} {a : Nat} (ha : a ≤ T.length) (h : T.drop a = u ++ v) : v = T.drop (a + u.length) ∧ a + u.length + v.length = T.length := by
  have h1 : v = (T.drop a).drop u.length := by rw [h, List.drop_left]
  rw [List.drop_drop] at h1
  refine ⟨h1, ?_⟩
  have := congrArg List.length h
  rw [List.length_drop, List.length_append] at this
  omega
theorem is_at {x : Tx} {c : UInt8} {t : List UInt8} (h : x.s.drop x.at' = c :: t) (k : Int) : isX x k = decide ((c.toNat : Int) = k) := by
  have hl : x.at' < x.s.length := by
    have := congrArg List.length h
    rw [List.length_drop, List.length_cons] at this
    omega
  rw [isX_in hl]
  rw [List.drop_eq_getElem_cons hl] at h
  injection h with h1 _
  rw [h1]
theorem step_sep {s : Ds} {α : Int} {o : List UInt8} {c : UInt8} (hα : α = 1 ∨ α = 2 ∨ α = 3 ∨ α = 5) (hc : sep c) : stepD (endS s α o) c = endCellD (endS s (if c.toNat = 44 then 2 else 1) o) (decide (c.toNat ≠ 44)) := by
  have hout : ∀ s' : Ds, (∀ β, setA s' β = endS s β o) → outD s' c = endCellD (endS s (if c.toNat = 44 then 2 else 1) o) (decide (c.toNat ≠ 44)) := by
    intro s' h
    unfold outD
    by_cases h1 : c.toNat = 44
    · rw [if_pos h1, if_pos h1, h, decide_eq_false (by omega)]
    · rw [if_neg h1, if_neg h1, if_pos (by rcases hc with h | h; exact absurd h h1; exact h), h, decide_eq_true h1]
  have h34 : c.toNat ≠ 34 := by rcases hc with h | h <;> omega
  have ha : (endS s α o).m.a = α := rfl
  unfold stepD
  rw [ha]
  rcases hα with h | h | h | h
  · subst h
    rw [if_neg (by decide), if_pos (.inl rfl)]
    unfold cellD
    rw [if_neg h34]
    exact hout _ (fun _ => rfl)
  · subst h
    rw [if_neg (by decide), if_pos (.inr rfl)]
    unfold cellD
    rw [if_neg h34]
    exact hout _ (fun _ => rfl)
  · subst h
    rw [if_neg (by decide), if_neg (by decide), if_neg (by decide), if_neg (fun h => by omega)]
    exact hout _ (fun _ => rfl)
  · subst h
    rw [if_neg (by decide), if_neg (by decide), if_neg (by decide), if_neg (fun h => h34 h.2)]
    exact hout _ (fun _ => rfl)
theorem end_sep {s : Ds} {α : Int} {o : List UInt8} (hα : α = 2 ∨ α = 3 ∨ α = 5) : endD (endS s α o) = endCellD (endS s α o) true := by
  unfold endD
  have ha : (endS s α o).m.a = α := rfl
  rw [ha, if_neg (by omega), if_neg (by omega), if_neg (by omega)]
/-- A row, from a cell on. -/
theorem row_sim {ns : List (List UInt8)} (hN : NsOk ns) {T : List UInt8} {cl : Bool} {p q r : Int} (hcl : cl = true → p = 0) : ∀ (f k : Nat) (x : Tx) (α j : Int), k + (f + 1) = ns.length → x.s = T → x.cl = cl → x.e = 0 → x.at' ≤ T.length →
    ((α = 1 ∧ x.at' < T.length) ∨ α = 2) → (j = 0 ∨ j = 7) → sc0 (T.drop x.at') = some (p, q, r) →
    ((rowF ns (f + 1) k x).2 = false → finF (rowF ns (f + 1) k x).1 = totD cl (runD (rowS ns k α j x.l) (T.drop x.at') x.at')) ∧
    ((rowF ns (f + 1) k x).2 = true → (rowF ns (f + 1) k x).1.e = 0 ∧ (rowF ns (f + 1) k x).1.s = T ∧ (rowF ns (f + 1) k x).1.cl = cl ∧ x.at' < (rowF ns (f + 1) k x).1.at' ∧
      (((rowF ns (f + 1) k x).1.at' ≤ T.length ∧ runD (rowS ns k α j x.l) (T.drop x.at') x.at' = runD (rowS ns 0 1 7 ((rowF ns (f + 1) k x).1.l ++ [bare 9])) (T.drop (rowF ns (f + 1) k x).1.at') (rowF ns (f + 1) k x).1.at' ∧ sc0 (T.drop (rowF ns (f + 1) k x).1.at') = some (p, q, r)) ∨
       ((rowF ns (f + 1) k x).1.at' = T.length + 1 ∧ cl = true ∧ totD cl (runD (rowS ns k α j x.l) (T.drop x.at') x.at') = ⟨((rowF ns (f + 1) k x).1.l ++ [bare 9]) ++ [bare 6], 0, T.length⟩))) := by
  intro f
  induction f with
  | zero => ?_
  | succ f ih => ?_
  all_goals
    intro k x α j hk hs hcx he ha hα hj hsc
    have hC := cell_sim (T.drop x.at') x.at' (rowS ns k α j x.l) rfl (by
      rcases hα with ⟨h1, h2⟩ | h
      · refine .inl ⟨h1, ?_⟩
        intro e
        have := congrArg List.length e
        rw [List.length_drop, List.length_nil] at this
        omega
      · exact .inr h)
    have hdl : x.at' + (T.drop x.at').length = T.length := by rw [List.length_drop]; omega
    have hcr : cellR x = endR x (cellG (T.drop x.at') x.at') := by unfold cellR; rw [hs]
    obtain ⟨g, hg⟩ : ∃ g, cellG (T.drop x.at') x.at' = g := ⟨_, rfl⟩
    rw [hg] at hC hcr
    rw [rowF]
    by_cases h0 : g.e = 0
    case neg =>
      have hr : cellR x = g := by rw [hcr]; unfold endR; rw [if_neg (fun h => h0 h.1)]
      rw [hr, if_pos h0]
      refine ⟨fun _ => ?_, fun h => by cases h⟩
      have := hC.bad h0 cl
      rw [this, finF_bad (x := { x with at' := g.at' }) he h0]
      show errF x.cl x.s.length x.l g.e g.at' = errF cl _ x.l g.e g.at'
      rw [hcx, hs, hdl]
    case pos =>
      obtain ⟨u, v, α', e1, e2, e3, e4, e5, e6, e7⟩ := hC.ok h0
      obtain ⟨d1, d2⟩ := drop_uv ha e1
      by_cases hend : v = [] ∧ cl = false
      · obtain ⟨hv0, hc0⟩ := hend
        have hat : g.at' = T.length := by rw [e2]; rw [hv0, List.length_nil] at d2; omega
        have hr : cellR x = ⟨g.out, g.at', 2⟩ := by rw [hcr]; unfold endR; rw [if_pos ⟨h0, by rw [hs]; exact hat, by rw [hcx]; exact hc0⟩]
        rw [hr, if_pos (by show (2 : Int) ≠ 0; decide)]
        refine ⟨fun _ => ?_, fun h => by cases h⟩
        rw [finF_bad (x := { x with at' := g.at' }) he (by show (2 : Int) ≠ 0; decide), e6, hv0]
        show errF x.cl x.s.length x.l 2 g.at' = totD cl ⟨endS (rowS ns k α j x.l) α' g.out, 0, g.at'⟩
        unfold errF totD
        rw [hcx, hs, hc0, if_pos ⟨rfl, by omega⟩, if_neg (fun h => h rfl), if_neg (by decide), hat]
        rfl
      · have hr : cellR x = g := by
          rw [hcr]; unfold endR
          rw [if_neg]
          rintro ⟨_, h2, h3⟩
          rw [hs] at h2
          refine hend ⟨?_, by rw [← hcx]; exact h3⟩
          refine List.eq_nil_of_length_eq_zero ?_
          omega
        have hval := e7 p q r hsc (fun h => hcl (by cases hq : cl with | true => rfl | false => exact absurd ⟨h, hq⟩ hend))
        rw [hr, if_neg (fun h => h h0)]
        have hl := cellT_l ns k x g
        obtain ⟨k1, k2, k3, _⟩ := cellT_k ns k x g
        have hce : (cellT ns k x g).e = 0 := by unfold cellT tellX; split <;> exact he
        rcases e3 with hv0 | ⟨c, t, hvc, hsep⟩
        · -- the end of the text
          have hc1 : cl = true := by cases hq : cl with | true => rfl | false => exact absurd ⟨hv0, hq⟩ hend
          have hat : g.at' = T.length := by rw [e2]; rw [hv0, List.length_nil] at d2; omega
          have hα' : α' = 2 ∨ α' = 3 ∨ α' = 5 := by rcases e4 with h | h; exact absurd hv0 (e5 h); exact h
          have hi : isX (cellT ns k x g) 44 = false := isX_out (by rw [k1, k2, hs, hat]; omega) 44
          have hER := end_row hN (k := k) (by omega) (α := α) (β := α') hj x.l hval.1 true
          rw [hi, e6, hv0]
          have hrun : runD (endS (rowS ns k α j x.l) α' g.out) [] g.at' = ⟨endS (rowS ns k α j x.l) α' g.out, 0, g.at'⟩ := rfl
          rw [hrun]
          have htot : totD cl ⟨endS (rowS ns k α j x.l) α' g.out, 0, g.at'⟩ = ⟨(finD (endS (rowS ns k α j x.l) α' g.out)).b.l, (finD (endS (rowS ns k α j x.l) α' g.out)).e, g.at'⟩ := by
            unfold totD
            rw [if_neg (fun h => h rfl), if_pos hc1]
          rw [htot]
          by_cases hm : k + 1 = ns.length
          · -- all cells are there
            have hER' : endCellD (endS (rowS ns k α j x.l) α' g.out) true = ⟨rowS ns 0 α' 7 (toldC ns k x.l g.out ++ [bare 9]), 0⟩ := by
              rw [hER, if_neg (by rw [decide_eq_true hm]; simp), if_neg (by decide)]
            obtain ⟨f1, f2⟩ := e_lend (j := 7) (.inr rfl)
            have hfin : finD (endS (rowS ns k α j x.l) α' g.out) = ⟨⟨⟨α', ns, true, 0, []⟩, [⟨0, 5, []⟩], (toldC ns k x.l g.out ++ [bare 9]) ++ [bare 6]⟩, 0⟩ := by
              unfold finD
              rw [end_sep hα', hER', if_neg (fun h => h rfl)]
              exact tellD_ok f1 f2
            rw [hfin, if_neg (show ¬ (false ≠ decide (k + 1 < ns.length)) by rw [decide_eq_false (by omega)]; simp)]
            first
              | (exfalso; omega)
              | (rw [rowF]
                 refine ⟨(fun h => by cases h), fun _ => ⟨hce, by show (cellT ns k x g).s = T; rw [k1, hs], by show (cellT ns k x g).cl = cl; rw [k3, hcx], by show x.at' < g.at' + 1; omega, .inr ⟨by show g.at' + 1 = _; rw [hat], hc1, ?_⟩⟩⟩
                 show _ = (⟨((cellT ns k x g).l ++ [bare 9]) ++ [bare 6], 0, T.length⟩ : Fn)
                 rw [hl, hat])
          · have hER' : endCellD (endS (rowS ns k α j x.l) α' g.out) true = ⟨⟨⟨α', ns, true, k + 1, []⟩, ⟨7, 4, (ns.take (k + 1)).reverse⟩ :: stI 7, toldC ns k x.l g.out⟩, 17⟩ := by
              rw [hER, if_pos (by rw [decide_eq_false hm]; simp)]
            have hfin : finD (endS (rowS ns k α j x.l) α' g.out) = ⟨⟨⟨α', ns, true, k + 1, []⟩, ⟨7, 4, (ns.take (k + 1)).reverse⟩ :: stI 7, toldC ns k x.l g.out⟩, 17⟩ := by
              unfold finD
              rw [end_sep hα', hER', if_pos (by show (17 : Int) ≠ 0; decide)]
            rw [hfin, if_pos (show false ≠ decide (k + 1 < ns.length) by rw [decide_eq_true (by omega)]; simp)]
            refine ⟨fun _ => ?_, fun h => by cases h⟩
            show finF { badX (cellT ns k x g) 17 (g.at' : Int) with at' := g.at' + 1 } = ⟨toldC ns k x.l g.out, 17, g.at'⟩
            have hff : finF { badX (cellT ns k x g) 17 (g.at' : Int) with at' := g.at' + 1 } = finF (badX (cellT ns k x g) 17 (g.at' : Int)) := rfl
            rw [hff, finF_bad hce (e := 17) (by decide), k3, hcx, hc1, hl]
            rfl
        · -- a comma or a newline
          rw [hvc] at e6 d1
          have hT1 : T.drop (g.at' + 1) = t := by
            rw [e2, ← List.drop_drop, ← d1]
            rfl
          have hlt : g.at' < T.length := by rw [e2]; rw [hvc, List.length_cons] at d2; omega
          have hi : isX (cellT ns k x g) 44 = decide (c.toNat = 44) := by
            rw [is_at (c := c) (t := t) (by rw [k1, k2, hs, e2]; exact d1.symm) 44]
            by_cases h4 : c.toNat = 44
            · rw [decide_eq_true h4, decide_eq_true (by omega)]
            · rw [decide_eq_false h4, decide_eq_false (by omega)]
          have hER := end_row hN (k := k) (by omega) (α := α) (β := if c.toNat = 44 then 2 else 1) hj x.l hval.1 (decide (c.toNat ≠ 44))
          have hst := step_sep (s := rowS ns k α j x.l) (o := g.out) e4 hsep
          rw [hER] at hst
          rw [hi, e6]
          by_cases hm : decide (c.toNat = 44) ≠ decide (k + 1 < ns.length)
          · have hm2 : decide (c.toNat ≠ 44) ≠ decide (k + 1 = ns.length) := by
              by_cases h4 : c.toNat = 44
              · rw [decide_eq_true h4] at hm
                rw [decide_eq_false (by omega)]
                have : ¬ k + 1 < ns.length := by intro h; rw [decide_eq_true h] at hm; exact hm rfl
                rw [decide_eq_true (by omega)]; decide
              · rw [decide_eq_false h4] at hm
                rw [decide_eq_true (by omega)]
                have : k + 1 < ns.length := by
                  by_cases h : k + 1 < ns.length
                  · exact h
                  · rw [decide_eq_false h] at hm; exact absurd rfl hm
                rw [decide_eq_false (by omega)]; decide
            rw [if_pos hm2] at hst
            rw [if_pos hm, runD_bad hst (by decide)]
            refine ⟨fun _ => ?_, fun h => by cases h⟩
            have hff : finF { badX (cellT ns k x g) 17 (g.at' : Int) with at' := g.at' + 1 } = finF (badX (cellT ns k x g) 17 (g.at' : Int)) := rfl
            show finF { badX (cellT ns k x g) 17 (g.at' : Int) with at' := g.at' + 1 } = _
            rw [hff, finF_bad hce (e := 17) (by decide), k3, hcx, k1, hs, hl]
            symm
            refine tot_bad (e := 17) (by decide) ?_ hlt cl
            rfl
          · have hm2 : ¬ decide (c.toNat ≠ 44) ≠ decide (k + 1 = ns.length) := by
              rw [Decidable.not_not] at hm ⊢
              by_cases h4 : c.toNat = 44
              · rw [decide_eq_true h4] at hm
                rw [decide_eq_false (by omega)]
                have : k + 1 < ns.length := by simpa using hm.symm
                rw [decide_eq_false (by omega)]
              · rw [decide_eq_false h4] at hm
                rw [decide_eq_true (by omega)]
                have : ¬ k + 1 < ns.length := by simpa using hm.symm
                rw [decide_eq_true (by omega)]
            rw [if_neg hm2] at hst
            rw [if_neg hm]
            by_cases h4 : c.toNat = 44
            · -- another cell
              have hlt2 : k + 1 < ns.length := by
                rw [Decidable.not_not, decide_eq_true h4] at hm
                simpa using hm.symm
              rw [if_pos (by rw [decide_eq_false (by omega)]), if_pos h4] at hst
              rw [runD_ok hst]
              first
                | (exfalso; omega)
                | (have ih2 := ih (k + 1) { cellT ns k x g with at' := g.at' + 1 } 2 7 (by omega) (by show (cellT ns k x g).s = T; rw [k1, hs]) (by show (cellT ns k x g).cl = cl; rw [k3, hcx]) hce (by show g.at' + 1 ≤ _; omega) (.inr rfl) (.inr rfl) (by show sc0 (T.drop (g.at' + 1)) = _; rw [hT1]; exact hval.2 c t hvc)
                   have hx2 : rowS ns (k + 1) 2 7 ({ cellT ns k x g with at' := g.at' + 1 } : Tx).l = rowS ns (k + 1) 2 7 (toldC ns k x.l g.out) := by show rowS ns (k + 1) 2 7 (cellT ns k x g).l = _; rw [hl]
                   have hx3 : T.drop ({ cellT ns k x g with at' := g.at' + 1 } : Tx).at' = t := hT1
                   rw [hx2, hx3] at ih2
                   have hx4 : ({ cellT ns k x g with at' := g.at' + 1 } : Tx).at' = g.at' + 1 := rfl
                   rw [hx4] at ih2
                   refine ⟨ih2.1, fun h => ?_⟩
                   obtain ⟨i1, i2, i3, i4, i5⟩ := ih2.2 h
                   exact ⟨i1, i2, i3, by omega, i5⟩)
            · -- the row has ended
              have hm3 : k + 1 = ns.length := by
                rw [Decidable.not_not, decide_eq_false h4] at hm
                have : ¬ k + 1 < ns.length := by simpa using hm.symm
                omega
              rw [if_neg (by rw [decide_eq_true (by omega)]; decide), if_neg h4] at hst
              rw [runD_ok hst]
              first
                | (exfalso; omega)
                | (rw [rowF]
                   refine ⟨(fun h => by cases h), fun _ => ⟨hce, by show (cellT ns k x g).s = T; rw [k1, hs], by show (cellT ns k x g).cl = cl; rw [k3, hcx], by show x.at' < g.at' + 1; omega, .inl ⟨by show g.at' + 1 ≤ _; omega, ?_, ?_⟩⟩⟩
                   · show runD (rowS ns 0 1 7 (toldC ns k x.l g.out ++ [bare 9])) t (g.at' + 1) = runD (rowS ns 0 1 7 ((cellT ns k x g).l ++ [bare 9])) (T.drop (g.at' + 1)) (g.at' + 1)
                     rw [hl, hT1]
                   · show sc0 (T.drop (g.at' + 1)) = _
                     rw [hT1]
                     exact hval.2 c t hvc)
end Go.Proofs.YtfciacigamjfkabGreat

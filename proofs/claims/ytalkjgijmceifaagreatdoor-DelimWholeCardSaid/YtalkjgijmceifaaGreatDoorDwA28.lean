/-
  delim: add, slices.Contains, addColumn.
  delim: addColumn.
-/
import Derived.Test.YtalkjgijmceifaaGreatDoorDwA27
namespace Go.Proofs.YtalkjgijmceifaaGreatDoor
open Go.RowKit Go.Maps
set_option maxRecDepth 100000
set_option linter.unusedSimpArgs false
set_option linter.unusedVariables false
set_option linter.unusedSectionVars false
variable [Tab] [Fo]

set_option maxHeartbeats 4000000 in
theorem dadd_any (w : World) (base m o ck : Nat) (s : Ds) (b : UInt8) (h : DX w base m o ck s) (h48 : s.m.c.length ≤ 48) :
    Calls Tryz.prog 148 #[.pointer (some ⟨m, 0, none⟩), .int .u8 (b.toNat : Int)] w (DPo w base m o ck (addD s b)) := by
  obtain ⟨cv, g, hM⟩ := h.mc
  have hb := hM.hb
  obtain ⟨_, _, _, _, c4⟩ := hM.cells
  have hlt := hM.lt
  unfold addD
  by_cases hf : 48 ≤ s.m.c.length
  · rw [if_pos hf]
    have e48 : s.m.c.length = 48 := by omega
    rw [e48] at c4
    have HF : Hid (DPo w base m o ck ⟨s, 4⟩ (.returned (.int .i64 4)) w.drew) := Lib.hid ⟨rfl, h.below (below_drew (Below.refl _ _)), (Tch.refl _ _ _).drew⟩
    clear h hM hf e48 h48
    go_enter Tryz.func148, Tryz.ntmps148
    go_wp2
    go_region
    go_wp2
    go_ret
    exact HF.out
  · rw [if_neg hf]
    have z : ((s.m.c.length : Int) == 48) = false := by rw [beq_eq_false_iff_ne]; omega
    have hdd : Below w.heap.size w w.drew := below_drew (Below.refl _ _)
    have al : Below w.heap.size w (w.drew.alloc (.cells #[.int .u8 (b.toNat : Int)] 5)) := hdd.alloc (Nat.le_refl _) _
    have hM0 := hM.below al
    have hcell := hM0.cell
    have H : Hid (∀ w1, w1.ownsRow base 5 1 (.slice (some ⟨g, 0, none⟩) (s.m.c.length + 1) 48) (s.m.c.length + 1) (s.m.c.map bV ++ [.int .u8 (b.toNat : Int)]) → (w.drew.alloc (.cells #[.int .u8 (b.toNat : Int)] 5)).grownBy w1 (some g) →
        w1.frozen? ⟨m, 4, none⟩ = false ∧ w1.cell? ⟨m, 4, none⟩ = some (.slice (some ⟨g, 0, none⟩) s.m.c.length 48) ∧ m < w1.heap.size ∧
        (∀ W, W = w1.setCell ⟨m, 4, none⟩ (.slice (some ⟨g, 0, none⟩) (s.m.c.length + 1) 48) → DPo w base m o ck ⟨{ s with m := { s.m with c := s.m.c ++ [b] } }, 0⟩ (.returned (.int .i64 0)) W)) := by
      refine Lib.hid fun w1 hown hgr => ?_
      have hob : (kVal g s.m.c.length).ownBlock = some g := rfl
      have ht1 : Tch base dmObj (w.drew.alloc (.cells #[.int .u8 (b.toNat : Int)] 5)) w1 := Tch.of_row hM0.cell (by rw [hob]; exact hgr) (Nat.le_refl _) (fun g' hg' => by rw [hob] at hg'; injection hg' with hg'; subst hg'; exact hM0.nfg) (fun cur => .inr (.inr rfl))
      have hne : m ≠ g := by
        rintro rfl
        have k1 := hM0.blk
        obtain ⟨cur, hc⟩ := row_obj hM0.cell (g := m) rfl
        unfold Blk at k1
        rw [k1] at hc
        injection hc with hc
        injection hc with _ hc
        exact absurd hc (by decide)
      have hB1 : Blk w1 m 56 (dCells s.m cv (kVal g s.m.c.length)) := hM0.blk.grown hgr (fun e => hne (Option.some.inj e))
      have hC1 : ORow w1 base 9 cv (s.m.cols.map strV) := by
        refine hM0.cols.kept hgr ?_
        cases hcv : cv.ownBlock with
        | none => exact .inl rfl
        | some k =>
          refine .inr fun e => ?_
          have e' := Option.some.inj e
          subst e'
          obtain ⟨c1, h1⟩ := row_obj hM0.cols hcv
          obtain ⟨c2, h2⟩ := row_obj hM0.cell (g := k) rfl
          rw [h1] at h2
          injection h2 with h2
          injection h2 with _ h2
          exact absurd h2 (by decide)
      refine ⟨hB1.frozen 4, hB1.cell 4, hB1.lt, fun W e => ?_⟩
      subst e
      have ht2 : Tch base dmOnly w1 (w1.setCell ⟨m, 4, none⟩ (.slice (some ⟨g, 0, none⟩) (s.m.c.length + 1) 48)) := (Tch.refl _ _ _).set hB1 hM.bm hM.nf (show dmOnly (.cells _ _ _) from rfl) 4 _
      have ht : Tch base dmObj w (w1.setCell ⟨m, 4, none⟩ (.slice (some ⟨g, 0, none⟩) (s.m.c.length + 1) 48)) := ((Tch.of_below al).trans ht1).trans (ht2.wide fun _ => dm_of)
      have hlen : (s.m.c ++ [b]).length = s.m.c.length + 1 := by simp
      have hMM : DmAt (w1.setCell ⟨m, 4, none⟩ (.slice (some ⟨g, 0, none⟩) (s.m.c.length + 1) 48)) base m { s.m with c := s.m.c ++ [b] } cv g := by
        refine ⟨?_, row_tch hC1 ht2 (fun _ _ => by simp only [dmOnly]; decide), ?_, hM.nfc, hM.nfg, hM.bm, hM.nf, Nat.le_trans hM.lim ht.size⟩
        · show Blk _ m _ (dCells _ cv (kVal g (s.m.c ++ [b]).length))
          rw [hlen]
          exact hB1.set_ 4 _
        · show World.ownsRow _ base 5 1 (kVal g (s.m.c ++ [b]).length) (s.m.c ++ [b]).length ((s.m.c ++ [b]).map bV)
          rw [hlen, List.map_append]
          exact row_tch hown ht2 (fun _ _ => by simp only [dmOnly]; decide)
      exact ⟨rfl, h.dm ht hMM, ht.wide fun _ => d_m⟩
    obtain ⟨i8, hi8, hz80, hz81, hz82⟩ := info_parts Tryz.infoU8
    obtain ⟨n, hn⟩ : ∃ n, s.m.c.length = n := ⟨_, rfl⟩
    have hr48 : n + 1 ≤ 48 := by omega
    have hcell' : (w.drew.alloc (.cells #[.int .u8 (b.toNat : Int)] 5)).ownsRow base 5 1 (.slice (some ⟨g, 0, none⟩) n 48) n (s.m.c.map bV) := by rw [← hn]; exact hcell
    rw [hn] at H c4 z
    clear h hM hf h48 hM0 hcell hdd al hn hz80 hz82
    go_enter Tryz.func148, Tryz.ntmps148
    go_wp2
    go_region
    go_wp2_with (first
      | (at_builtin; refine wpList_append_fits _ rfl _ _ 22 rfl base 5 i8 1 Tryz.underlying22 hi8 hz81 g n 48 _ rfl hcell' ⟨w.drew.heap.size, 0, none⟩ 1 1 [.int .u8 (b.toNat : Int)] rfl rfl (cell_one_new _ _ _) (fun u hu => by simp at hu; subst hu; rfl) hr48 ?_; intro w1 hown1 hgr1; obtain ⟨f4, d4, dl, HN⟩ := H.out w1 hown1 hgr1; clear hown1 hgr1 H c4 hcell'))
    have HF := Lib.hid (HN _ rfl)
    clear HN
    go_ret
    exact HF.out

/-- Index and Contains. -/
theorem str_neq {x y : List UInt8} (h : ¬ x = y) : ((⟨x.toArray⟩ : ByteArray).toList == (⟨y.toArray⟩ : ByteArray).toList) = false ∧ ¬ (⟨x.toArray⟩ : ByteArray).toList = (⟨y.toArray⟩ : ByteArray).toList := str_diff (fun e => h (by have := congrArg (fun z : ByteArray => z.data.toList) e; simpa using this))
def SRead (w : World) (cv : Value) (l : List (List UInt8)) : Prop := ∃ A c, cv = .slice A l.length c ∧ (0 < l.length → ∃ ad : Addr, A = some ad ∧ ∀ j (h : j < l.length), w.cell? (ad.add j) = some (.string ⟨l[j].toArray⟩))
theorem ORow.sread {w : World} {base : Nat} {cv : Value} {l : List (List UInt8)} (h : ORow w base 9 cv (l.map strV)) : SRead w cv l := by
  rcases h.form with ⟨rfl, h0⟩ | ⟨g, cap, rfl, _⟩
  · have : l = [] := by simpa using h0
    subst this
    exact ⟨none, 0, rfl, fun h => absurd h (by simp)⟩
  · refine ⟨some ⟨g, 0, none⟩, cap, by rw [List.length_map], fun _ => ⟨_, rfl, fun j hj => ?_⟩⟩
    obtain ⟨ad, e, _, _, hc⟩ := h.cell (k := j) (by simpa using hj)
    injection e with e
    injection e with e
    subst e
    rw [addr_add0, hc]
    simp [strV]

set_option maxHeartbeats 4000000 in
theorem sindex_any (w : World) (cv : Value) (l : List (List UInt8)) (t : List UInt8) (hv : SRead w cv l) (hl : l.length ≤ 1000000) :
    Calls Tryz.prog 155 #[cv, .string ⟨t.toArray⟩] w fun e w' => (∃ i : Int, e = .returned (.int .i64 i) ∧ (t ∈ l → 0 ≤ i) ∧ (t ∉ l → i = -1)) ∧ ∃ n, w' = w.drewN n := by
  obtain ⟨A, c, rfl, hr⟩ := hv
  go_enter Tryz.func155, Tryz.ntmps155
  go_wp2
  go_loopw [8] (fun i wr => ∃ k : Nat, k ≤ l.length ∧ i = .int .i64 k ∧ Hid (t ∉ l.take k) ∧ ∃ n, wr = w.drewN n) (fun i _ => l.length - (intOf i).toNat)
  case atStart => exact ⟨0, Nat.zero_le _, rfl, Lib.hid (by simp), 0, rfl⟩
  case round =>
    obtain ⟨k, hk, rfl, HT, n, rfl⟩ := hrel
    by_cases hlt : k < l.length
    · obtain ⟨ad, rfl, hc⟩ := hr (by omega)
      have hck : (w.drewN n).cell? (ad.add k) = some (.string ⟨l[k].toArray⟩) := hc k hlt
      by_cases he : t = l[k]
      · have hm : t ∈ l := by rw [he]; exact List.getElem_mem hlt
        have HM := Lib.hid hm
        rw [← he] at hck
        clear he hc hr hm
        go_wp2
        go_ret
        exact ⟨⟨k, rfl, fun _ => by omega, fun h => absurd HM.out h⟩, n, rfl⟩
      · have n1 : (t == l[k]) = false := by rw [beq_eq_false_iff_ne]; exact he
        have HT2 : Hid (t ∉ l.take (k + 1)) := Lib.hid (by
          rw [List.take_succ_eq_append_getElem hlt, List.mem_append]
          rintro (h | h)
          · exact HT.out h
          · simp at h; exact he h)
        generalize l[k] = y at *
        clear he hc hr
        go_wp2
        go_roundw
        case rel => exact ⟨k + 1, hlt, by go_num, HT2, n, rfl⟩
        case measure => first | (simp [intOf]; done) | (simp [intOf]; omega)
    · have hke : k = l.length := by omega
      have h2 := HT.out
      rw [List.take_of_length_le (by omega)] at h2
      have HN := Lib.hid h2
      subst hke
      clear h2 HT hr
      go_wp2
      go_ret
      exact ⟨⟨-1, rfl, fun h => absurd h HN.out, fun _ => rfl⟩, n, rfl⟩
theorem scontains_any (w : World) (cv : Value) (l : List (List UInt8)) (t : List UInt8) (hv : SRead w cv l) (hl : l.length ≤ 1000000) :
    Calls Tryz.prog 154 #[cv, .string ⟨t.toArray⟩] w fun e w' => e = .returned (.bool (decide (t ∈ l))) ∧ ∃ n, w' = w.drewN n := by
  have hC := Lib.hid (sindex_any w cv l t hv hl)
  obtain ⟨q, hq⟩ : ∃ q, decide (t ∈ l) = q := ⟨_, rfl⟩
  rw [hq]
  clear hv
  go_enter Tryz.func154, Tryz.ntmps154
  go_wp2_with fail
  refine hC.out.mono ?_
  rintro e w' ⟨⟨i, rfl, h1, h2⟩, n, rfl⟩
  by_cases hm : t ∈ l
  · have h0 := h1 hm
    have z : decide (0 ≤ i) = true := by simpa using h0
    have hd : decide (t ∈ l) = true := by simpa using hm
    rw [hd] at hq
    subst hq
    clear h1 h2 hm hC hd
    go_wp2
    go_ret
    exact ⟨rfl, n, rfl⟩
  · have h0 := h2 hm
    have hd : decide (t ∈ l) = false := by simpa using hm
    rw [hd] at hq
    subst hq
    clear hd
    subst h0
    clear h1 h2 hm hC
    go_wp2
    go_ret
    exact ⟨rfl, n, rfl⟩
end Go.Proofs.YtalkjgijmceifaaGreatDoor
namespace Go.Proofs.YtalkjgijmceifaaGreatDoor
open Go.RowKit Go.Maps
set_option maxRecDepth 100000
set_option linter.unusedSimpArgs false
set_option linter.unusedVariables false
set_option linter.unusedSectionVars false
variable [Tab] [Fo]

set_option maxHeartbeats 4000000 in
theorem daddcol_any (w : World) (base m o ck : Nat) (s : Ds) (t : List UInt8) (last : Bool) (h : DX w base m o ck s) (h8 : s.m.cols.length ≤ 100) :
    Calls Tryz.prog 152 #[.pointer (some ⟨m, 0, none⟩), .string ⟨t.toArray⟩, .bool last] w (DPo w base m o ck (addColD s t last)) := by
  obtain ⟨cv, g, hM⟩ := h.mc
  have hb := hM.hb
  obtain ⟨_, c1, _, _, _⟩ := hM.cells
  have hlt := hM.lt
  have hC := scontains_any w cv s.m.cols t hM.cols.sread (by omega)
  unfold addColD
  by_cases hm : t ∈ s.m.cols
  · rw [if_pos hm]
    have hd : decide (t ∈ s.m.cols) = true := by simpa using hm
    rw [hd] at hC
    have HF : Hid (∀ n, DPo w base m o ck ⟨s, 6⟩ (.returned (.int .i64 6)) (w.drewN n)) := Lib.hid fun n => ⟨rfl, h.below (below_drewN (Below.refl _ _) n), Tch.of_below (below_drewN (Below.refl _ _) n)⟩
    clear h hM hm hd
    go_enter Tryz.func152, Tryz.ntmps152
    go_wp2_with fail
    refine hC.mono ?_
    rintro e w' ⟨rfl, n, rfl⟩
    go_wp2
    go_ret
    exact HF.out n
  · rw [if_neg hm]
    have hd : decide (t ∈ s.m.cols) = false := by simpa using hm
    rw [hd] at hC
    have h63 : (s.m.cols.map strV).length + 1 ≤ maxLen := by simp only [maxLen, List.length_map]; omega
    have h8b : ((s.m.cols.map strV).length + 1) * 16 ≤ 140737488355328 := by simp only [List.length_map]; omega
    obtain ⟨R, hR⟩ : ∃ R : Int, (if last = false ∧ s.m.cols.length + 1 = 8 then (16 : Int) else 0) = R := ⟨_, rfl⟩
    rw [hR]
    have H : Hid (∀ (k : Nat) (A1 : Option Addr) (n cap : Nat) (w1 : World), ORow w1 base 9 (.slice A1 n cap) (s.m.cols.map strV ++ [strV t]) → (w.drewN k).grownBy w1 cv.ownBlock → NF (.slice A1 n cap) →
        w1.frozen? ⟨m, 1, none⟩ = false ∧ w1.cell? ⟨m, 1, none⟩ = some cv ∧ m < w1.heap.size ∧
        (∀ W, W = w1.setCell ⟨m, 1, none⟩ (.slice A1 n cap) → DPo w base m o ck ⟨{ s with m := { s.m with cols := s.m.cols ++ [t] } }, R⟩ (.returned (.int .i64 R)) W)) := by
      refine Lib.hid fun k A1 n cap w1 hown hgr hnf1 => ?_
      have hM0 := hM.drewN k
      have ht1 : Tch base dmObj (w.drewN k) w1 := Tch.of_row hM0.cols hgr (Nat.le_refl _) hM.nfc (fun cur => .inr (.inl rfl))
      have hBk : ∀ {b : Nat} {cs : Array Value} {ty : TypeId} , (w.drewN k).heap[b]? = some (Obj.cells cs ty (0, 0)) → ty ≠ 9 → w1.heap[b]? = some (Obj.cells cs ty (0, 0)) := fun {b cs ty} hbk hty => by
        refine (hgr.block b (Array.getElem?_eq_some_iff.1 hbk).1 ?_).trans hbk
        intro e
        obtain ⟨cur, hc⟩ := row_obj hM0.cols e.symm
        rw [hbk] at hc
        injection hc with hc
        injection hc with _ hc
        exact hty hc
      have hB1 : Blk w1 m 56 (dCells s.m cv (kVal g s.m.c.length)) := hBk hM0.blk (by decide)
      have hK1 : w1.ownsRow base 5 1 (kVal g s.m.c.length) s.m.c.length (s.m.c.map bV) := by
        refine ⟨hM0.cell.1, ?_⟩
        rcases hM0.cell.2 with ⟨hv, _⟩ | ⟨g', c', cur, hv, hg', hh, q⟩
        · cases hv
        · exact .inr ⟨g', c', cur, hv, hg', hBk hh (by decide), q⟩
      refine ⟨hB1.frozen 1, hB1.cell 1, hB1.lt, fun W e => ?_⟩
      subst e
      have ht2 : Tch base dmOnly w1 (w1.setCell ⟨m, 1, none⟩ (.slice A1 n cap)) := (Tch.refl _ _ _).set hB1 hM.bm hM.nf (show dmOnly (.cells _ _ _) from rfl) 1 _
      have ht : Tch base dmObj w (w1.setCell ⟨m, 1, none⟩ (.slice A1 n cap)) := ((Tch.of_below (below_drewN (Below.refl _ _) k)).trans ht1).trans (ht2.wide fun _ => dm_of)
      refine ⟨rfl, h.dm (M' := { s.m with cols := s.m.cols ++ [t] }) (cv := .slice A1 n cap) (g := g) ht ⟨hB1.set_ 1 _, ?_, row_tch hK1 ht2 (fun _ _ => by simp only [dmOnly]; decide), hnf1, hM.nfg, hM.bm, hM.nf, Nat.le_trans hM.lim ht.size⟩, ht.wide fun _ => d_m⟩
      show ORow _ base 9 (.slice A1 n cap) ((s.m.cols ++ [t]).map strV)
      rw [List.map_append]
      exact row_tch hown ht2 (fun _ _ => by simp only [dmOnly]; decide)
    have HNF := Lib.hid (And.intro hM.nfc hM.lim)
    have hRow := fun k => hM.cols.drewN k
    have HRow := Lib.hid hRow
    have hlen : (s.m.cols.map strV ++ [strV t]).length = s.m.cols.length + 1 := by simp
    obtain ⟨L, hL⟩ : ∃ L, s.m.cols.length + 1 = L := ⟨_, rfl⟩
    rw [hL] at hR hlen
    have HL := Lib.hid hlen
    have hL2 : (L : Int) = L := rfl
    clear h hM hm hd h8 hL hlen hRow
    generalize hxs : s.m.cols.map strV = xs at *
    clear hxs
    have hcase : (last = true ∧ R = 0) ∨ (last = false ∧ L = 8 ∧ R = 16) ∨ (last = false ∧ ((L : Int) == 8) = false ∧ R = 0) := by
      cases last with
      | true => left; simp at hR; exact ⟨rfl, hR.symm⟩
      | false =>
        by_cases hz : L = 8
        · right; left; rw [if_pos ⟨rfl, hz⟩] at hR; exact ⟨rfl, hz, hR.symm⟩
        · right; right; rw [if_neg (fun h => hz h.2)] at hR; exact ⟨rfl, by rw [beq_eq_false_iff_ne]; omega, hR.symm⟩
    clear hR
    rcases hcase with ⟨rfl, rfl⟩ | ⟨rfl, rfl, rfl⟩ | ⟨rfl, z, rfl⟩
    all_goals
      go_enter Tryz.func152, Tryz.ntmps152
      go_wp2_with fail
      refine hC.mono ?_
      rintro e w' ⟨rfl, k, rfl⟩
      have c1k : (w.drewN k).cell? ⟨m, 1, none⟩ = some cv := c1
      have hltk : m < (w.drewN k).heap.size := hlt
      have hbk : base ≤ (w.drewN k).heap.size := hb
      have hRk := HRow.out k
      have hlimk : Fo.lim ≤ (w.drewN k).heap.size := HNF.out.2
      have HK := Lib.hid (H.out k)
      clear hC H c1 hlt hb
      generalize w.drewN k = wk at *
      go_wp2_with (first
        | (at_builtin; refine wp_app1 rfl _ _ 54 rfl base 9 (.string ⟨#[]⟩) 16 Tryz.underlying54 Tryz.infoStr rfl cv xs (.string ⟨t.toArray⟩) rfl (by exact hRk) rfl 1 rfl h63 h8b hbk ?_; intro v1 w1 hown1 hg1 hnb1; have hnf1 : NF v1 := HNF.out.1.nb (w := wk) (hnb1.imp id fun e => ⟨_, e, Nat.le_succ _⟩) hlimk; replace hown1 : ORow w1 base 9 v1 (xs ++ [strV t]) := hown1; obtain ⟨A1, cp1, e1⟩ := hown1.shape; rw [HL.out] at e1; subst e1; obtain ⟨f1, d1, dl, HN⟩ := HK.out _ _ _ w1 hown1 hg1 hnf1; clear hnb1 hnf1 HK hown1 hg1 hRk c1k))
      have HF := Lib.hid (HN _ rfl)
      clear HN
      go_ret
      exact HF.out
end Go.Proofs.YtalkjgijmceifaaGreatDoor

/-
  sections: a key, a path.
  sections: begin, open, shut: the position.
-/
import Derived.Test.YtalkjgijmceifaaGreatDoorSwA27
namespace Go.Proofs.YtalkjgijmceifaaGreatDoor
open Go.RowKit Go.Maps
set_option maxRecDepth 100000
set_option linter.unusedSimpArgs false
set_option linter.unusedVariables false
set_option linter.unusedSectionVars false
variable [Tab] [Fo]

/-- The reading of a line, as a value. -/
def rV (L p : Nat) : Value := .agg #[.pointer (some ⟨L, 0, none⟩), .pointer (some ⟨p, 0, none⟩)]
def rCells (L p : Nat) : Array Value := #[.pointer (some ⟨L, 0, none⟩), .pointer (some ⟨p, 0, none⟩)]
/-- Reading alone. -/
def I0 (L : Nat) (o : LO) (S : List UInt8) (w0 : World) (a : Nat) (w : World) : Prop := LAt w L o S a ∧ a ≤ S.length ∧ LnF L w0 w
def F0 (L : Nat) (o : LO) (S : List UInt8) (w0 : World) (k : Int) (w : World) : Prop := k ≠ 0 ∧ ∃ a, I0 L o S w0 a w
theorem lnI0 {L : Nat} {o : LO} {S : List UInt8} (w0 : World) (hS : S.length ≤ 1000) : LnI L o S (I0 L o S w0) (F0 L o S w0) :=
  ⟨hS, fun h => ⟨h.1, h.2.1⟩, fun h hl ha hf => ⟨hl, ha, h.2.2.trans hf⟩, fun k h hk => ⟨hk, _, h⟩⟩
section
variable {L p : Nat} {o : LO} {S : List UInt8} {a : Nat} {w : World}
theorem i0_refl (h : LAt w L o S a) (ha : a ≤ S.length) : I0 L o S w a w := ⟨h, ha, LnF.refl _ _⟩
theorem i0_up {w0 w1 : World} {b : Nat} (hf : LnF L w0 w1) (h : I0 L o S w1 b w) : I0 L o S w0 b w := ⟨h.1, h.2.1, hf.trans h.2.2⟩
theorem box_new (w : World) (cs : Array Value) (t : TypeId) : ∃ g W, w.heap.size = g ∧ w.alloc (.cells cs t) = W ∧ Blk W g t cs ∧ Below w.heap.size w W ∧ g < W.heap.size :=
  ⟨_, _, rfl, rfl, Blk.new w t cs, (Below.refl _ _).alloc (Nat.le_refl _) _, (Blk.new w t cs).lt⟩
theorem ps_up {w0 w1 : World} {r : Option (ByteArray × Nat)} {e : Ending} {w' : World} (hf : LnF L w0 w1) (h : Ps (I0 L o S w1) (F0 L o S w1) r e w') : Ps (I0 L o S w0) (F0 L o S w0) r e w' := by
  rcases h with ⟨t, a', h1, h2, h3⟩ | ⟨h1, k, h2, h3, b, h4⟩
  · exact .inl ⟨t, a', h1, h2, i0_up hf h3⟩
  · exact .inr ⟨h1, k, h2, h3, b, i0_up hf h4⟩
set_option maxHeartbeats 2000000 in
theorem key_any (h : LAt w L o S a) (hS : S.length ≤ 1000) (ha : a ≤ S.length) (hfl : Fo.lim ≤ w.heap.size) :
    Calls Tryz.prog 257 #[rV L p] w (Ps (I0 L o S w) (F0 L o S w) (keyP S a)) := by
  obtain ⟨g, W, hg, hW, hB, al, hlt⟩ := box_new w #[.pointer (some ⟨L, 0, none⟩), .pointer (some ⟨p, 0, none⟩)] 278
  have hgL : g ≠ L := by have := Blk.lt h; omega
  have hi : I0 L o S W a W := i0_refl (Blk.below h al (Blk.lt h)) ha
  have HU := Lib.hid (lnf_below (L := L) al)
  obtain ⟨R, hR⟩ : ∃ R, keyP S a = R := ⟨_, rfl⟩
  rw [hR]
  unfold keyP at hR
  have HR := Lib.hid hR
  have b0 : W.cell? ⟨g, 0, none⟩ = some (.pointer (some ⟨L, 0, none⟩)) := hB.cell 0
  have HB := Lib.hid (And.intro hB hgL)
  have HC := Lib.hid (is_I (lnI0 W hS) 34 hi)
  have HFL := Lib.hid (Nat.le_trans hfl al.size)
  unfold rV
  clear h al hi hB hR hgL hfl
  go_enter Tryz.func257, Tryz.ntmps257
  go_wp2_with fail
  refine HC.out.mono ?_
  rintro e w1 ⟨rfl, h1⟩
  have b1 : w1.cell? ⟨g, 0, none⟩ = some (.pointer (some ⟨L, 0, none⟩)) := (h1.2.2.blk HB.out.1 HB.out.2).cell 0
  have hl1 : g < w1.heap.size := (h1.2.2.blk HB.out.1 HB.out.2).lt
  have HFL1 := Nat.le_trans HFL.out h1.2.2.size
  have H1 := Lib.hid h1
  clear h1 HC b0 hlt
  cases hb : isB S a 34 with
  | true =>
    rw [if_pos hb] at HR
    have hQ := quoted_I (lnI0 W hS) H1.out HFL1
    rw [HR.out] at hQ
    have HQ := Lib.hid hQ
    clear hb hQ H1 HFL1
    go_wp2_with fail
    refine HQ.out.mono ?_
    rintro e w2 (⟨t, a2, hr, rfl, h2⟩ | ⟨hr, k, rfl, hF⟩)
    case inr => exact ⟨rfl, ps_up HU.out (.inr ⟨hr, k, rfl, hF⟩)⟩
    have H2 := Lib.hid (And.intro hr h2)
    clear hr h2 HQ
    go_wp2
    go_ret
    exact ps_up HU.out (.inl ⟨t, a2, H2.out.1, rfl, H2.out.2⟩)
  | false =>
    rw [if_neg (by rw [hb]; decide)] at HR
    have hQ := bare_I (lnI0 W hS) H1.out
    rw [HR.out] at hQ
    have HQ := Lib.hid hQ
    clear hb hQ H1 HFL1
    go_wp2_with fail
    refine HQ.out.mono ?_
    rintro e w2 (⟨t, a2, hr, rfl, h2⟩ | ⟨hr, k, rfl, hF⟩)
    case inr => exact ⟨rfl, ps_up HU.out (.inr ⟨hr, k, rfl, hF⟩)⟩
    have H2 := Lib.hid (And.intro hr h2)
    clear hr h2 HQ
    go_wp2
    go_ret
    exact ps_up HU.out (.inl ⟨t, a2, H2.out.1, rfl, H2.out.2⟩)
theorem key_fa {t : ByteArray} {a' : Nat} (h : keyP S a = some (t, a')) : a ≤ a' ∧ a' < S.length ∧ t.size ≤ 1000 := by
  unfold keyP at h
  split at h
  · have := quo_fa h
    exact ⟨by omega, this.2, quo_sz h⟩
  · have := bare_fa h
    exact ⟨this.1, this.2, bare_sz h⟩
/-- What reading a path leaves. -/
def PthE (w0 : World) (L : Nat) (o : LO) (S : List UInt8) (r : Option (List ByteArray × Nat)) (e : Ending) (w' : World) : Prop :=
  (∃ ks a' v, r = some (ks, a') ∧ e = .returned v ∧ SRd w' v ks ∧ I0 L o S w0 a' w') ∨ (r = none ∧ ∃ k, e = .panicked (failP k) ∧ F0 L o S w0 k w')
theorem ORow.srd {base : Nat} {v : Value} {ks : List ByteArray} (h : ORow w base 9 v (ks.map .string)) : SRd w v ks := by
  have hl : (ks.map Value.string).length = ks.length := List.length_map ..
  rcases h.2 with ⟨rfl, h0⟩ | ⟨g, cap, cur, hv, hg, hh, hc, hm, hs, ht⟩
  · have : ks = [] := by simpa using h0
    subst this
    exact SRd.nil w
  · rw [hl] at hv hc ht
    refine ⟨_, cap, hv, hc, fun h0 => ⟨g, 0, cur, _, rfl, hh, fun j hj => ?_⟩⟩
    have h1 : (cur.toList.take (ks.length * 1))[j]? = (ks.map Value.string)[j]? := by rw [ht]
    rw [List.getElem?_take_of_lt (by omega)] at h1
    rw [Nat.zero_add, ← Array.getElem?_toList, h1, List.getElem?_map, List.getElem?_eq_getElem hj]
    rfl
theorem i0_low {W w2 w3 : World} {b : Nat} (h : I0 L o S W b w2) (hL : L < W.heap.size) (hb : Below W.heap.size w2 w3) : I0 L o S W b w3 :=
  ⟨Blk.below h.1 hb hL, h.2.1, hb.os.trans h.2.2.os, hb.tape.trans h.2.2.tape, hb.output.trans h.2.2.output, Nat.le_trans h.2.2.size hb.size, fun k hk hn => (hb.block k hk).trans (h.2.2.block k hk hn)⟩
/-- The next byte is read. -/
theorem i0_next {W w3 : World} {b : Nat} (h : I0 L o S W b w3) (hl : b < S.length) : I0 L o S W (b + 1) (w3.setCell ⟨L, 1, none⟩ (.int .i64 ((b + 1 : Nat) : Int))) :=
  ⟨h.1.go (b + 1), hl, h.2.2.trans (grown_at (World.grownBy.refl w3 _) _)⟩
theorem Tryz.infoTx : (Tryz.prog.info? 9).map (fun i => (i.zero, i.size, i.bytes)) = some (some (.string ⟨#[]⟩), 1, 16) := by kernel_rfl
set_option maxHeartbeats 4000000 in
theorem path_any (h : LAt w L o S a) (hS : S.length ≤ 160) (ha : a ≤ S.length) (hfl : Fo.lim ≤ w.heap.size) :
    Calls Tryz.prog 249 #[rV L p] w (PthE w L o S (pathP S a)) := by
  obtain ⟨g, W, hg, hW, hB, al, hlt⟩ := box_new w #[.pointer (some ⟨L, 0, none⟩), .pointer (some ⟨p, 0, none⟩)] 278
  have hgL : g ≠ L := by have := Blk.lt h; omega
  have hi : I0 L o S W a W := i0_refl (Blk.below h al (Blk.lt h)) ha
  have HU := Lib.hid (lnf_below (L := L) al)
  obtain ⟨R, hR⟩ : ∃ R, pathP S a = R := ⟨_, rfl⟩
  rw [hR]
  unfold pathP at hR
  have HB := Lib.hid (And.intro hB hgL)
  have HFL := Lib.hid (Nat.le_trans hfl al.size)
  have HL0 := Lib.hid (show L < W.heap.size by have := Blk.lt h; have := al.size; omega)
  have START := Lib.hid (show ∃ (a1 : Nat) (ks : List ByteArray) (n : Nat) (v : Value), .slice none 0 0 = v ∧ S.length - a1 < n ∧ ks.length ≤ a1 ∧ Hid (I0 L o S W a1 W) ∧ Hid (ORow W W.heap.size 9 v (ks.map .string)) ∧ Hid (pathA S n a1 ks = R) from ⟨a, [], S.length + 1, _, rfl, by omega, Nat.zero_le _, Lib.hid hi, Lib.hid (ORow.nil _ _ _), Lib.hid hR⟩)
  unfold rV
  clear h al hi hB hR hgL hfl
  go_enter Tryz.func249, Tryz.ntmps249
  go_wp2
  go_loopw [3] (fun v wr => ∃ (a1 : Nat) (ks : List ByteArray) (n : Nat) (rv : Value), v = rv ∧ S.length - a1 < n ∧ ks.length ≤ a1 ∧ Hid (I0 L o S W a1 wr) ∧ Hid (ORow wr W.heap.size 9 rv (ks.map .string)) ∧ Hid (pathA S n a1 ks = R)) (fun _ wr => S.length - atOf L wr)
  case atStart =>
    obtain ⟨a1, ks, n, v, rfl, h1, h2, h3, h4, h5⟩ := START.out
    exact ⟨a1, ks, n, _, rfl, h1, h2, h3, h4, h5⟩
  case round =>
    obtain ⟨a1, ks, n5, rv, hv, hn5, hk5, HI, HRow, HR⟩ := hrel
    replace hv := hv.symm
    subst hv
    clear START
    obtain ⟨n, rfl⟩ : ∃ n, n5 = n + 1 := ⟨n5 - 1, by omega⟩
    have hBr := HI.out.2.2.blk HB.out.1 HB.out.2
    have b0 : wr.cell? ⟨g, 0, none⟩ = some (.pointer (some ⟨L, 0, none⟩)) := hBr.cell 0
    have b1 : wr.cell? ⟨g, 1, none⟩ = some (.pointer (some ⟨p, 0, none⟩)) := hBr.cell 1
    have hlr : g < wr.heap.size := hBr.lt
    have HAT := Lib.hid HI.out.1.at_
    have hK := key_any (p := p) HI.out.1 (by omega) HI.out.2.1 (Nat.le_trans HFL.out HI.out.2.2.size)
    unfold rV at hK
    have HK := Lib.hid hK
    have HSz := Lib.hid HI.out.2.2.size
    have HR2 : Hid ((keyP S a1).bind (fun q => if isB S (q.2 + 1) 46 = true then pathA S n (q.2 + 2) (ks ++ [q.1]) else some (ks ++ [q.1], q.2 + 1)) = R) := Lib.hid HR.out
    clear hBr hK HR
    go_wp2_with fail
    refine HK.out.mono ?_
    rintro e w2 (⟨t, a2, hr, rfl, h2⟩ | ⟨hr, k, rfl, h0, b, hF⟩)
    case inr => exact ⟨rfl, .inr ⟨by rw [← HR2.out, hr]; rfl, k, rfl, h0, b, i0_up HU.out (i0_up HI.out.2.2 hF)⟩⟩
    obtain ⟨k1, k2, k3⟩ := key_fa hr
    rw [hr] at HR2
    have HR3 : Hid ((if isB S (a2 + 1) 46 = true then pathA S n (a2 + 2) (ks ++ [t]) else some (ks ++ [t], a2 + 1)) = R) := Lib.hid HR2.out
    have hrow2 : ORow w2 W.heap.size 9 rv (ks.map .string) := HRow.out.kept h2.2.2 (.inr (fun e => by
      have h1 := (World.ownsRow.lt HRow.out L e).1
      have h2 := Blk.lt HI.out.1
      have h3 := Blk.lt HB.out.1
      have h4 := HL0.out
      omega))
    have hi2 : I0 L o S W a2 w2 := i0_up HI.out.2.2 h2
    have HI2 := Lib.hid hi2
    have h63 : (ks.map Value.string).length + 1 ≤ maxLen := by simp [maxLen]; omega
    have h16 : ((ks.map Value.string).length + 1) * 16 ≤ 140737488355328 := by simp; omega
    have hb2 : W.heap.size ≤ w2.heap.size := Nat.le_trans HSz.out h2.2.2.size
    have HKF := Lib.hid (And.intro k1 k2)
    clear hr HR2 HRow h2 hi2 HI HK k1 k2 k3 b0 b1
    go_wp2_with (first
      | (at_builtin; (refine wp_app1b rfl _ _ 54 rfl W.heap.size 9 (.string ⟨#[]⟩) 16 Tryz.underlying54 Tryz.infoTx rfl rv (ks.map .string) (.string t) rfl (by exact hrow2) rfl 1 rfl h63 h16 hb2 ?_; intro v3 w3 hown3 hb3; replace hown3 : ORow w3 W.heap.size 9 v3 ((ks ++ [t]).map .string) := (by rw [List.map_append]; exact hown3); have hi3 := i0_low HI2.out HL0.out hb3; have hBr3 := hi3.2.2.blk HB.out.1 HB.out.2; have b0 : w3.cell? ⟨g, 0, none⟩ = some (.pointer (some ⟨L, 0, none⟩)) := hBr3.cell 0; have hlr3 : g < w3.heap.size := hBr3.lt; have l1 : w3.cell? ⟨L, 1, none⟩ = some (.int .i64 (a2 : Int)) := Blk.cell hi3.1 1; have f1 := Blk.frozen hi3.1 1; have hLl := Blk.lt hi3.1; have hi4 := i0_next hi3 HKF.out.2; obtain ⟨a3, ha3⟩ : ∃ a3 : Nat, (a2 : Int) + 1 = a3 := ⟨a2 + 1, rfl⟩; have hn3 : a2 + 1 = a3 := (by omega); rw [hn3] at hi4; have HN3 := Lib.hid hn3; have hba : a3 ≤ 1000 := (by have := HKF.out; omega); have HI4 := Lib.hid hi4; have HI3 := Lib.hid hi3; clear hi3 hBr3 hi4 hn3 hb3 hrow2)))
    have HL3 : Hid (∀ w5, LnF L (w3.setCell ⟨L, 1, none⟩ (.int .i64 (a3 : Int))) w5 → ORow w5 W.heap.size 9 v3 ((ks ++ [t]).map .string)) := Lib.hid (fun w5 hf => by
      have hne : v3.ownBlock ≠ some L := fun e => by have h1 := (World.ownsRow.lt hown3 L e).1; have := HL0.out; omega
      exact (hown3.kept (grown_at (World.grownBy.refl w3 _) (.int .i64 (a3 : Int))) (.inr hne)).kept hf (.inr hne))
    have HI4r := Lib.hid (i0_refl HI4.out.1 HI4.out.2.1)
    have HC := Lib.hid (is_I (lnI0 _ (show S.length ≤ 1000 by omega)) 46 HI4r.out)
    have HR4 : Hid ((if isB S a3 46 = true then pathA S n (a3 + 1) (ks ++ [t]) else some (ks ++ [t], a3)) = R) := Lib.hid (by rw [← HN3.out]; exact HR3.out)
    clear hown3 HI4r HR3 HI3 l1 f1
    generalize w3.setCell ⟨L, 1, none⟩ (.int .i64 (a3 : Int)) = w4 at *
    go_wp2_with fail
    refine HC.out.mono ?_
    rintro e w5 ⟨rfl, h5⟩
    have hi5 := i0_up HI4.out.2.2 h5
    have hBr5 := hi5.2.2.blk HB.out.1 HB.out.2
    have b5 : w5.cell? ⟨g, 0, none⟩ = some (.pointer (some ⟨L, 0, none⟩)) := hBr5.cell 0
    have hlr5 : g < w5.heap.size := hBr5.lt
    have hrow5 := HL3.out w5 h5.2.2
    have HRow5 := Lib.hid hrow5
    have l1 : w5.cell? ⟨L, 1, none⟩ = some (.int .i64 (a3 : Int)) := Blk.cell hi5.1 1
    have f1 := Blk.frozen hi5.1 1
    have hLl5 := Blk.lt hi5.1
    have HI5 := Lib.hid hi5
    clear h5 hi5 hBr5 hrow5 HC HL3
    cases hb : isB S a3 46 with
    | false =>
      rw [if_neg (by rw [hb]; decide)] at HR4
      clear hb
      go_wp2
      go_ret
      exact .inl ⟨ks ++ [t], a3, v3, HR4.out.symm, rfl, HRow5.out.srd, i0_up HU.out HI5.out⟩
    | true =>
      have hal3 := isB_true hb
      rw [if_pos hb] at HR4
      have hi6 := i0_next HI5.out hal3
      obtain ⟨a4, ha4⟩ : ∃ a4 : Nat, (a3 : Int) + 1 = a4 := ⟨a3 + 1, rfl⟩
      have hn4 : a3 + 1 = a4 := by omega
      rw [hn4] at hi6 HR4
      have hrow6 : ORow (w5.setCell ⟨L, 1, none⟩ (.int .i64 (a4 : Int))) W.heap.size 9 v3 ((ks ++ [t]).map .string) := HRow5.out.kept (grown_at (World.grownBy.refl w5 _) _) (.inr fun e => by have h1 := (World.ownsRow.lt HRow5.out L e).1; have := HL0.out; omega)
      have HI6 := Lib.hid (And.intro hi6 hrow6)
      have HN4 := Lib.hid hn4
      have HA6 := Lib.hid (And.intro hi6.1.at_ hi6.2.1)
      clear hb hi6 hrow6 HRow5 HI5 hn4
      go_wp2
      go_roundw
      case rel => exact ⟨a4, ks ++ [t], n, v3, rfl, by have := HN3.out; have := HN4.out; have := HKF.out; omega, by have := HN3.out; have := HN4.out; have := HKF.out; simp; omega, Lib.hid HI6.out.1, Lib.hid HI6.out.2, HR4⟩
      case measure => rw [HA6.out.1, HAT.out]; have := HN3.out; have := HN4.out; have := HKF.out; have := HA6.out.2; omega
end
end Go.Proofs.YtalkjgijmceifaaGreatDoor
namespace Go.Proofs.YtalkjgijmceifaaGreatDoor
open Go.RowKit Go.Maps
set_option maxRecDepth 100000
set_option linter.unusedSimpArgs false
set_option linter.unusedVariables false
set_option linter.unusedSectionVars false
variable [Tab] [Fo]

/-- Stores into the parser's block. -/
def paO : Obj → Prop
  | .cells _ t _ => t = 76
  | _ => False
def stO : Obj → Prop
  | .cells _ t _ => t = 280
  | _ => False
theorem pa_sec (q : Obj) (h : paO q) : secObj q := by
  cases q <;> simp only [paO] at h
  · exact .inr (.inl h)
theorem st_sec (q : Obj) (h : stO q) : secObj q := by
  cases q <;> simp only [stO] at h
  · exact .inr (.inr h)
theorem sx_sec (q : Obj) (h : sxObj q) : secObj q := .inl h
theorem t_sec (q : Obj) (h : tObj q) : secObj q := .inl (.inl h)
theorem sec_box (cs : Array Value) (t : TypeId) (fr : Nat × Nat) (h : t = 278 ∨ t = 9) : ¬ secObj (.cells cs t fr) := by
  intro hc
  simp only [secObj, sxObj, tObj, lnO, spO] at hc
  rcases h with rfl | rfl <;> exact absurd hc (by decide)
section
variable {base L p o ck : Nat} {S : List UInt8} {x : Sx} {a : Nat} {w w' : World}
/-- A store into the parser's block. -/
theorem SecI.pset (h : SecI base L p o ck S x a w) (i : Nat) (u : Value) {y : Sx} (hst : y.st = x.st) (hl : y.l = x.l) (hpn : y.pos.length ≤ 1000)
    (hb : Tch base paO w (w.setCell ⟨p, i, none⟩ u) → ∃ pv bv, Blk (w.setCell ⟨p, i, none⟩ u) p 76 #[.bool y.bg, pv, bv] ∧ (w.setCell ⟨p, i, none⟩ u).ownsRow base 280 2 pv y.pos.length (posC y.pos) ∧ NF pv ∧ SRd (w.setCell ⟨p, i, none⟩ u) bv y.bs) :
    SecI base L p o ck S y a (w.setCell ⟨p, i, none⟩ u) ∧ Tch base paO w (w.setCell ⟨p, i, none⟩ u) := by
  obtain ⟨pv, bv, hB, _, _, _⟩ := h.blk
  have ht : Tch base paO w (w.setCell ⟨p, i, none⟩ u) := (Tch.refl _ _ _).set hB h.pl.2.2.1 h.pl.2.2.2.2.2 (show paO (.cells _ _ _) from rfl) i u
  refine ⟨⟨Blk.tch h.ln ht (.inr (by simp only [paO]; decide)), h.al, h.s9, hb ht, ?_, h.std.tch ht h.pl.1, h.pl' (by rw [Qt.size_set]; exact Nat.le_refl _), h.tk.of hst hl, hpn, by rw [hl]; exact h.lb⟩, ht⟩
  rw [hst, hl]
  refine h.out.tch ht ?_ ?_
  · intro cs t fr hh hc
    simp only [paO] at hc
    rcases hh with rfl | rfl | rfl | rfl <;> exact absurd hc (by decide)
  · intro es c hc; exact hc
theorem SecI.setbg (h : SecI base L p o ck S x a w) : SecI base L p o ck S { x with bg := true } a (w.setCell ⟨p, 0, none⟩ (.bool true)) ∧ Tch base paO w (w.setCell ⟨p, 0, none⟩ (.bool true)) :=
  h.pset 0 _ rfl rfl h.pn fun ht => by
    obtain ⟨pv, bv, hB, hR, hf, hS⟩ := h.blk
    exact ⟨pv, bv, hB.set_ 0 _, row_tch hR ht (fun _ _ => by simp only [paO]; decide), hf, hS.tch ht (fun _ _ => by simp only [paO]; decide)⟩
theorem SecI.setbs (h : SecI base L p o ck S x a w) {v : Value} {ks : List ByteArray} (hv : SRd w v ks) : SecI base L p o ck S { x with bs := ks } a (w.setCell ⟨p, 2, none⟩ v) ∧ Tch base paO w (w.setCell ⟨p, 2, none⟩ v) :=
  h.pset 2 _ rfl rfl h.pn fun ht => by
    obtain ⟨pv, bv, hB, hR, hf, hS⟩ := h.blk
    exact ⟨pv, v, hB.set_ 2 _, row_tch hR ht (fun _ _ => by simp only [paO]; decide), hf, hv.tch ht (fun _ _ => by simp only [paO]; decide)⟩
/-- The position anew: its row was turned alone. -/
theorem SecI.setpos (h : SecI base L p o ck S x a w) (h1 : Tch base stO w w') {v : Value} {ps : List (ByteArray × Bool)} (hv : w'.ownsRow base 280 2 v ps.length (posC ps)) (hnf : NF v) (hpn : ps.length ≤ 1000) :
    SecI base L p o ck S { x with pos := ps } a (w'.setCell ⟨p, 1, none⟩ v) ∧ Tch base secObj w (w'.setCell ⟨p, 1, none⟩ v) := by
  obtain ⟨pv, bv, hB, hR, hf, hS⟩ := h.blk
  have hB' : Blk w' p 76 #[.bool x.bg, pv, bv] := hB.tch h1 (.inr (by simp only [stO]; decide))
  have hS' := hS.tch h1 (fun _ _ => by simp only [stO]; decide)
  have ht : Tch base paO w' (w'.setCell ⟨p, 1, none⟩ v) := (Tch.refl _ _ _).set hB' h.pl.2.2.1 h.pl.2.2.2.2.2 (show paO (.cells _ _ _) from rfl) 1 v
  have hln : LAt w' L ⟨o, .slice none 0 0⟩ S a := Blk.tch h.ln h1 (.inr (by simp only [stO]; decide))
  refine ⟨⟨Blk.tch hln ht (.inr (by simp only [paO]; decide)), h.al, h.s9, ⟨v, bv, hB'.set_ 1 _, row_tch hv ht (fun _ _ => by simp only [paO]; decide), hnf, hS'.tch ht (fun _ _ => by simp only [paO]; decide)⟩, ?_, (h.std.tch h1 h.pl.1).tch ht (Nat.le_trans h.pl.1 h1.size), h.pl' (Nat.le_trans h1.size ht.size), h.tk.of rfl rfl, hpn, h.lb⟩, (h1.wide st_sec).trans (ht.wide pa_sec)⟩
  refine (h.out.tch h1 ?_ ?_).tch ht ?_ ?_
  · intro cs t fr hh hc
    simp only [stO] at hc
    rcases hh with rfl | rfl | rfl | rfl <;> exact absurd hc (by decide)
  · intro es c hc; exact hc
  · intro cs t fr hh hc
    simp only [paO] at hc
    rcases hh with rfl | rfl | rfl | rfl <;> exact absurd hc (by decide)
  · intro es c hc; exact hc

variable {w0 : World} {q : Obj → Prop}
theorem si_up {W : World} (ht : Tch base q w0 W) (h : SI base L p o ck S q W x a w) : SI base L p o ck S q w0 x a w := ⟨h.1, ht.trans h.2⟩
theorem si_refl (h : SecI base L p o ck S x a w) : SI base L p o ck S q w x a w := ⟨h, Tch.refl _ _ _⟩
theorem pq_up {W : World} (ht : Tch base q w0 W) {r : Option (Nat × Sx)} {e : Ending} (h : Pq (SI base L p o ck S q W) (SF base L p o ck S q W) r e w') : Pq (SI base L p o ck S q w0) (SF base L p o ck S q w0) r e w' := by
  rcases h with ⟨a', x', h1, h2, h3⟩ | ⟨h1, k, h2, h3, y, b, h4, h5⟩
  · exact .inl ⟨a', x', h1, h2, si_up ht h3⟩
  · exact .inr ⟨h1, k, h2, h3, y, b, h4, ht.trans h5⟩
theorem SecI.belowS (h : SecI base L p o ck S x a w) (hb : Below w.heap.size w w') : SecI base L p o ck S x a w' := h.go (Blk.below h.ln hb (Blk.lt h.ln)) h.al (lnf_below hb)
/-- A box of the reading, made at the head of a call. -/
theorem rbox (h : SecI base L p o ck S x a w) : ∃ g W, w.heap.size = g ∧ w.alloc (.cells #[.pointer (some ⟨L, 0, none⟩), .pointer (some ⟨p, 0, none⟩)] 278) = W ∧ Blk W g 278 #[.pointer (some ⟨L, 0, none⟩), .pointer (some ⟨p, 0, none⟩)] ∧ g < W.heap.size ∧ SecI base L p o ck S x a W ∧ Tch base q w W := by
  obtain ⟨g, W, hg, hW, hB, al, hlt⟩ := box_new w #[.pointer (some ⟨L, 0, none⟩), .pointer (some ⟨p, 0, none⟩)] 278
  exact ⟨g, W, hg, hW, hB, hlt, h.belowS al, Tch.of_below al⟩
theorem rb_tch {g : Nat} {cs : Array Value} (hB : Blk w g 278 cs) (ht : Tch base secObj w w') : Blk w' g 278 cs := hB.tch ht (.inr (sec_box _ _ _ (.inl rfl)))

/-- How a call ends that reads nothing. -/
def Po (I : Sx → Nat → World → Prop) (F : Int → World → Prop) (a : Nat) (r : Option Sx) (e : Ending) (w' : World) : Prop :=
  (∃ y, r = some y ∧ e = .returned (.tuple #[]) ∧ I y a w') ∨ (r = none ∧ ∃ k, e = .panicked (failP k) ∧ F k w')
theorem po_up {W : World} (ht : Tch base q w0 W) {r : Option Sx} {e : Ending} (h : Po (SI base L p o ck S q W) (SF base L p o ck S q W) a r e w') : Po (SI base L p o ck S q w0) (SF base L p o ck S q w0) a r e w' := by
  rcases h with ⟨x', h1, h2, h3⟩ | ⟨h1, k, h2, h3, y, b, h4, h5⟩
  · exact .inl ⟨x', h1, h2, si_up ht h3⟩
  · exact .inr ⟨h1, k, h2, h3, y, b, h4, ht.trans h5⟩
theorem SFw {k : Int} (h : SF base L p o ck S sxObj w0 k w) : SF base L p o ck S secObj w0 k w := ⟨h.1, h.2.choose, h.2.choose_spec.choose, h.2.choose_spec.choose_spec.1, h.2.choose_spec.choose_spec.2.wide sx_sec⟩
theorem row_below {b : Nat} {e : TypeId} {size n : Nat} {v : Value} {xs : List Value} (h : w.ownsRow b e size v n xs) (hb : Below w.heap.size w w') : w'.ownsRow b e size v n xs := by
  refine ⟨h.1, ?_⟩
  rcases h.2 with hn | ⟨g, cap, cur, hv, hg, hh, r⟩
  · exact .inl hn
  · exact .inr ⟨g, cap, cur, hv, hg, (hb.block g (Array.getElem?_eq_some_iff.1 hh).1).trans hh, r⟩
theorem tell_S (hq : ∀ r, tObj r → q r) (ev : Ev) (h : SI base L p o ck S q w0 x a w) (hl : x.l.length ≤ 900000) (hs : ev.t.size ≤ 1000) :
    Calls Tryz.prog 174 #[.pointer (some ⟨L, 0, none⟩), .agg #[.int .i64 ev.k, .string ev.t, .string ev.v]] w (Po (SI base L p o ck S q w0) (SF base L p o ck S q w0) a (tellX x ev)) :=
  (sec_tell ev h.1 hl hs).mono fun e w' hp => by
    obtain ⟨hp, ht⟩ := hp
    have ht' := h.2.trans (ht.wide hq)
    rcases hp with ⟨x', h1, h2, h3⟩ | ⟨h1, k, h2, h3, h4⟩
    · exact .inl ⟨x', h1, h2, h3, ht'⟩
    · exact .inr ⟨h1, k, h3, h2, _, _, h4, ht'⟩
set_option maxHeartbeats 2000000 in
theorem begin_S (h : SecI base L p o ck S x a w) (hl : x.l.length ≤ 900000) :
    Calls Tryz.prog 245 #[rV L p] w (Po (SI base L p o ck S secObj w) (SF base L p o ck S secObj w) a (beginS x)) := by
  obtain ⟨g, W, hg, hW, hB, hlt, hi, hT⟩ := rbox (q := secObj) h
  have HU := Lib.hid hT
  have HB := Lib.hid hB
  have b0 : W.cell? ⟨g, 0, none⟩ = some (.pointer (some ⟨L, 0, none⟩)) := hB.cell 0
  have b1 : W.cell? ⟨g, 1, none⟩ = some (.pointer (some ⟨p, 0, none⟩)) := hB.cell 1
  obtain ⟨pv, bv, hP, hP2⟩ := hi.blk
  have p0 : W.cell? ⟨p, 0, none⟩ = some (.bool x.bg) := hP.cell 0
  have hpl := hP.lt
  have HI := Lib.hid (si_refl (q := secObj) hi)
  have HTl := Lib.hid (tell_S t_sec (evB 7) HI.out hl (Nat.zero_le _))
  obtain ⟨R, hR⟩ : ∃ R, beginS x = R := ⟨_, rfl⟩
  rw [hR]
  unfold beginS at hR
  have HR := Lib.hid hR
  unfold rV
  clear h hB hT hi hP hP2 hR hl
  cases hbg : x.bg with
  | true =>
    rw [hbg, if_pos rfl] at HR
    rw [hbg] at p0
    clear hbg HTl
    go_enter Tryz.func245, Tryz.ntmps245
    go_wp2
    go_end0
    exact .inl ⟨x, HR.out.symm, rfl, si_up HU.out HI.out⟩
  | false =>
    rw [hbg, if_neg (by decide)] at HR
    rw [hbg] at p0
    clear hbg
    go_enter Tryz.func245, Tryz.ntmps245
    go_wp2_with fail
    refine HTl.out.mono ?_
    rintro e w2 (⟨y, hr, rfl, h2⟩ | ⟨hr, k, rfl, hF⟩)
    case inr => exact ⟨rfl, po_up HU.out (.inr ⟨by rw [← HR.out, hr]; rfl, k, rfl, hF⟩)⟩
    rw [hr] at HR
    have hBr := rb_tch HB.out h2.2
    have b1 : w2.cell? ⟨g, 1, none⟩ = some (.pointer (some ⟨p, 0, none⟩)) := hBr.cell 1
    have hlt2 := hBr.lt
    obtain ⟨pv2, bv2, hP2, _⟩ := h2.1.blk
    have q0 : w2.cell? ⟨p, 0, none⟩ = some (.bool y.bg) := hP2.cell 0
    have f0 := hP2.frozen 0
    have hpl2 := hP2.lt
    have hi3 := h2.1.setbg
    have HI3 : Hid (SI base L p o ck S secObj W { y with bg := true } a (w2.setCell ⟨p, 0, none⟩ (.bool true))) := Lib.hid ⟨hi3.1, h2.2.trans (hi3.2.wide pa_sec)⟩
    clear h2 hi3 hBr hP2 hr HTl p0 b0
    go_wp2
    go_end0
    exact .inl ⟨_, HR.out.symm, rfl, si_up HU.out HI3.out⟩
end
end Go.Proofs.YtalkjgijmceifaaGreatDoor

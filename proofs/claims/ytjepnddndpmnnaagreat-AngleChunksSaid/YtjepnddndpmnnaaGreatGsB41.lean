/-
  The walk of AngleChunks: what holds between its steps.
-/
import Derived.Test.YtjepnddndpmnnaaGreatGsB40
import Derived.Test.YtjepnddndpmnnaaGreatGsB37
namespace Go.Proofs.YtjepnddndpmnnaaGreat
open Go.RowKit Go.Maps
set_option maxRecDepth 100000
set_option linter.unusedSimpArgs false
set_option linter.unusedVariables false
set_option linter.unusedSectionVars false
variable [Tab]

theorem IRead.of_cellsW {w : World} {x : Addr} {l c B : Nat} {zs : List Int} (hz : zs.length = c) (hl : l ≤ c) (hcell : ∀ i, i < zs.length → w.cell? (x.add i) = some (.int .i64 (zs.getD i 0))) (hwz : ∀ n ∈ zs, (Lit.int .i64 n).wf = true) (hB : l ≤ B) :
    ∃ xs : List Int, IRead w (.slice (some x) l c) xs ∧ xs.length ≤ B ∧ ∀ n ∈ xs, (Lit.int .i64 n).wf = true := by
  have hlen : (zs.take l).length = l := by simp; omega
  refine ⟨zs.take l, ⟨some x, c, by rw [hlen], fun _ => ⟨x, rfl, fun j hj => ?_⟩⟩, by omega, fun n hn => hwz n (List.mem_of_mem_take hn)⟩
  rw [hcell j (by omega), List.getElem_take]
  simp [List.getD_eq_getElem?_getD, List.getElem?_eq_getElem (show j < zs.length by omega)]
theorem IRead.belowP {w w' : World} {v : Value} {xs : List Int} (h : IRead w v xs) (hb : Below w.heap.size w w') : IRead w' v xs := by
  obtain ⟨A, c, rfl, hr⟩ := h
  refine ⟨A, c, rfl, fun hp => ?_⟩
  obtain ⟨ad, rfl, hc⟩ := hr hp
  exact ⟨ad, rfl, fun j hj => (hb.cell (cell_lt (hc j hj))).trans (hc j hj)⟩
theorem bread_rest {w : World} {A : Option Addr} {c n : Nat} {ts : List UInt8} (h : BRead w (.slice A n c) ts) (hn : ts.length = n) {k : Nat} (hk : k ≤ n) {A' : Option Addr} (hA : ∀ ad, A = some ad → k < n → A' = some (ad.add k)) (c' : Nat) : BRead w (.slice A' (n - k) c') (ts.drop k) := by
  subst hn
  obtain ⟨A0, c0, e, hr⟩ := h
  injection e with e1 _ e3
  subst e1 e3
  refine ⟨A', c', by rw [List.length_drop], fun h0 => ?_⟩
  rw [List.length_drop] at h0
  obtain ⟨ad, rfl, hc⟩ := hr (by omega)
  refine ⟨ad.add k, hA ad rfl (by omega), fun j hj => ?_⟩
  rw [List.length_drop] at hj
  rw [Addr.add_add, hc (k + j) (by omega), List.getElem_drop]
theorem rowO_keep {w w' : World} {b : Nat} {e : TypeId} {size n : Nat} {v : Value} {xs : List Value} (h : w.ownsRow b e size v n xs) (hk : ∀ g o, v.ownBlock = some g → w.heap[g]? = some o → w'.heap[g]? = some o) : w'.ownsRow b e size v n xs := by
  refine ⟨h.1, ?_⟩
  rcases h.2 with hv | ⟨g, cap, cur, hv, hg, hh, q⟩
  · exact .inl hv
  · exact .inr ⟨g, cap, cur, hv, hg, hk g _ (by rw [hv]; rfl) hh, q⟩
/-- A text's beginning. -/
def aBg (ts : List UInt8) (k : Nat) : Ss (@agP _ Fo.no) := @feedG (@agP _ Fo.no) (ss0 _) (ts.take k)
theorem feedN_pre (l : List UInt8) (x : Ss (@agP _ Fo.no)) : x.b.l <+: (feedG x l).b.l := @feedG_pre _ Fo.no l x
theorem aBg_add (ts : List UInt8) (p k : Nat) : aBg ts (p + k) = feedG (aBg ts p) ((ts.drop p).take k) := by
  unfold aBg
  rw [List.take_add]
  exact @feedG_append _ Fo.no _ _ _
theorem aBg_all {ts : List UInt8} {n : Nat} (h : ts.length = n) : aBg ts n = feedG (ss0 _) ts := by
  unfold aBg
  rw [← h, List.take_length]
theorem aBg_sinv {ts : List UInt8} {p : Nat} (hp : p ≤ ts.length) : SInv (aBg ts p) p := by
  have := sinv_feedG (ts.take p) (ss0 (@agP _ Fo.no)) 0 sinv0
  rw [Nat.zero_add, List.length_take, Nat.min_eq_left hp] at this
  exact this
theorem take_pre {a b : List Ev} (h : a <+: b) {n : Nat} (hn : n ≤ a.length) : b.take n = a.take n := by
  obtain ⟨t, rfl⟩ := h
  rw [List.take_append_of_le_length hn]
theorem sta_lim {f : Fo} {w : World} {base B s m sc o ck : Nat} {x : Ss agP} {cl en : Bool} (h : @StA _ f (@agM _ f) w base B s m sc o ck x cl en) : f.lim ≤ w.heap.size := by
  obtain ⟨_, _, _, ⟨_, _, hM⟩, _⟩ : ∃ e mb g, @AX f w base m o ck e mb g x.b := h.d
  exact hM.lim

/-- A decoder, and the events that were taken, between the law's steps. -/
structure ChS (f : Fo) (w : World) (base d B s m sc o ck : Nat) (x : Ss agP) (u : Value) (n : Nat) (en : Bool) : Prop where
  fd : f.F d
  fu : ∀ k, u.ownBlock = some k → f.F k
  tk : f.tk.getD 0 = n
  hn : n ≤ x.b.l.length
  a : @StA _ f (@agM _ f) w base B s m sc o ck x false en
  row : ERow w base u (x.b.l.take n)
  dec : Blk w d 37 #[.pointer (some ⟨s, 0, none⟩)]
/-- The same, with a chunk of one's own. -/
structure ChC (f : Fo) (w : World) (base d B s m sc o ck : Nat) (x : Ss agP) (u : Value) (n : Nat) (en : Bool) (ov : Value) (nb : Nat) (cs : List Value) : Prop where
  c : ChS f w base d B s m sc o ck x u n en
  fo : ∀ k, ov.ownBlock = some k → f.F k ∧ u.ownBlock ≠ some k ∧ k ≠ d
  own : w.ownsRow base 5 1 ov nb cs
section
variable {f : Fo} {w w' : World} {base d B s m sc o ck : Nat} {x : Ss agP} {u : Value} {n : Nat} {en : Bool}
theorem ChS.below (h : ChS f w base d B s m sc o ck x u n en) (hb : Below w.heap.size w w') : ChS f w' base d B s m sc o ck x u n en :=
  ⟨h.fd, h.fu, h.tk, h.hn, gsta_fo (fun _ _ h => h) rfl hb (Nat.le_trans (sta_lim h.a) hb.size) h.a, h.row.below hb, h.dec.below hb h.dec.lt⟩
theorem ChS.lt (h : ChS f w base d B s m sc o ck x u n en) {k : Nat} (hk : u.ownBlock = some k) : k < w.heap.size := row_ltF h.row hk
theorem ChS.withOwn (h : ChS f w base d B s m sc o ck x u n en) {ov : Value} {nb : Nat} {cs : List Value} (hown : w'.ownsRow base 5 1 ov nb cs) (hg : w.grownBy w' none) (hnb : ov.ownBlock = none ∨ ∃ k, ov.ownBlock = some k ∧ w.heap.size ≤ k) : ∃ f', ChC f' w' base d B s m sc o ck x u n en ov nb cs := by
  have hb : Below w.heap.size w w' := ⟨hg.os, hg.tape, hg.output, hg.size, fun k hk => hg.block k hk (by simp)⟩
  have hnew : ∀ k, ov.ownBlock = some k → w.heap.size ≤ k := fun k hk => by
    rcases hnb with h0 | ⟨k', h1, h2⟩
    · rw [h0] at hk; cases hk
    · rw [h1] at hk; exact Option.some.inj hk ▸ h2
  let f' : Fo := ⟨fun k => f.F k ∨ ov.ownBlock = some k, w'.heap.size, fun k hk => by
    rcases hk with hk | hk
    · exact Nat.lt_of_lt_of_le (f.ok k hk) (Nat.le_trans (sta_lim h.a) hb.size)
    · exact row_ltF hown hk, f.tk⟩
  have hA := h.below hb
  refine ⟨f', ⟨.inl h.fd, fun k hk => .inl (h.fu k hk), h.tk, h.hn, gsta_fo (f1 := f) (f2 := f') (fun k hk hc => ?_) rfl hb (Nat.le_refl _) h.a, hA.row, hA.dec⟩, fun k hk => ⟨.inr hk, fun hc => ?_, fun hc => ?_⟩, hown⟩
  · rcases hc with hc | hc
    · exact hc
    · have := hnew k hc; omega
  · have := hnew k hk; have := h.lt hc; omega
  · have := hnew k hk; have := h.dec.lt; omega
theorem ChC.store {ov : Value} {nb : Nat} {cs cs' : List Value} (h : ChC f w base d B s m sc o ck x u n en ov nb cs) {r j : Nat} (hov : ov.ownBlock = some r) (v : Value) (hr : (w.setCell ⟨r, j, none⟩ v).ownsRow base 5 1 ov nb cs') : ChC f (w.setCell ⟨r, j, none⟩ v) base d B s m sc o ck x u n en ov nb cs' := by
  obtain ⟨h1, h2, h3⟩ := h.fo r hov
  have hk : ∀ k q, k ≠ r → w.heap[k]? = some q → (w.setCell ⟨r, j, none⟩ v).heap[k]? = some q := fun k q hne hq => (Below.heap_setCell w ⟨r, j, none⟩ v k hne).trans hq
  refine ⟨⟨h.c.fd, h.c.fu, h.c.tk, h.c.hn, gsta_mv (f1 := f) (f2 := f) (fun _ _ h => h) rfl (fun k q hq _ hn => hk k q (fun e => hn (e ▸ h1)) hq) (by simp [World.setCell]) (by simpa [World.setCell] using sta_lim h.c.a) h.c.a, rowO_keep h.c.row fun g q hg hq => hk g q (fun e => h2 (e ▸ hg)) hq, hk d _ (fun e => h3 e.symm) h.c.dec⟩, h.fo, hr⟩
theorem ch_feed {ov : Value} {bytes : List UInt8} {N : Nat} (h : ChC f w base d B s m sc o ck x u n en ov bytes.length (bytes.map bV)) (hi : SInv x N) (hN : N + bytes.length ≤ 50000) :
    Calls Tryz.prog 14 #[.pointer (some ⟨s, 0, none⟩), ov] w fun e w' => e = .returned (.bool true) ∧ ChC f w' base d B s m sc o ck (feedG x bytes) u n en ov bytes.length (bytes.map bV) ∧ Below base w w' := by
  have hO : ∀ w', @LowF f base w w' → w'.ownsRow base 5 1 ov bytes.length (bytes.map bV) := fun w' hl => rowO_keep h.own fun g q hg hq => hl.fo g q hq (h.fo g hg).1
  refine (@feed_any _ f (@agM _ f) w base B s m sc o ck x en N ov bytes h.c.a hi hN (fun w' hl => BRead.of_row (base := base) (e := 5) (by unfold ORow; rw [List.length_map]; exact hO w' hl)) (fun h => h.elim)).mono ?_
  rintro e w' ⟨rfl, hA, hl⟩
  have hp : x.b.l <+: (@feedG (@agP _ f) x bytes).b.l := feedN_pre bytes x
  have hr : ERow w' base u (x.b.l.take n) := rowO_keep h.c.row fun g q hg hq => hl.fo g q hq (h.c.fu g hg)
  exact ⟨rfl, ⟨⟨h.c.fd, h.c.fu, h.c.tk, Nat.le_trans h.c.hn hp.length_le, hA, by rw [take_pre hp h.c.hn]; exact hr, hl.fo d _ h.c.dec h.c.fd⟩, h.fo, hO w' hl⟩, hl.low⟩
theorem ev_dec {k : Nat} {v : Value} {l : List Ev} (hr : ERow w base v l) (hd : Blk w d 37 #[.pointer (some ⟨s, 0, none⟩)]) : v.ownBlock ≠ some d := fun hk => by
  haveI := Fo.no
  obtain ⟨cur, hc⟩ := row_obj hr hk
  unfold Blk at hd
  rw [hd] at hc
  injection hc with hc
  injection hc with _ hc
  exact absurd hc (by decide)
theorem ch_takes (h : ChS f w base d B s m sc o ck x u n en) (hl : x.b.l.length < 5000) :
    Calls Tryz.prog 15 #[.pointer (some ⟨d, 0, none⟩), u] w fun e w' => ∃ u', e = .returned (.tuple #[u', .int .i64 (NxS x.e false), .bool true]) ∧ (∃ f', ChS f' w' base d B s m sc o ck x u' x.b.l.length (en || decide (NxS x.e false ≠ 2))) ∧ Below base w w' := by
  have hE : @EAt f 48 w base s m sc o ck x.e x.rd false en x.b.st x.b.l := @EAt.mk f _ _ _ _ _ _ _ _ _ _ _ _ _ _ h.a.blk ((@agM _ f).out h.a.d) h.a.p.bs h.a.ns.1
  obtain ⟨g, hW, hgl, hgF, hol, hoF, hgk⟩ := @EAt.wtk inferInstance f _ _ _ _ _ _ _ _ _ _ _ _ _ _ f hE
  rw [h.tk] at hW
  have hsF : ¬ f.F s := h.a.ns.1
  have hclr : Clear u s o g := fun k hk => ⟨fun e => hsF (e ▸ h.fu k hk), fun e => hoF (e ▸ h.fu k hk), fun e => hgF (e ▸ h.fu k hk)⟩
  have hdn : ¬ TkS s o g u d := by
    rintro (rfl | rfl | rfl | hk)
    · exact hsF h.fd
    · exact hoF h.fd
    · exact hgF h.fd
    · exact ev_dec (k := 0) h.row h.dec hk
  refine (takes_any w base base s sc o ck m g d _ x.e x.rd false en (x.b.l.drop n) u (x.b.l.take n) hW h.dec h.row hclr h.a.p.hb (by rw [List.length_drop]; omega) (by rw [List.length_take]; omega) ⟨h.a.blk.lt, hol, hgl⟩ hdn).mono ?_
  rintro e w' ⟨u', rfl, hrow, hclr', hown, hW', hfr⟩
  rw [List.take_append_drop] at hrow
  have hrow2 : ERow w' base u' (x.b.l.take x.b.l.length) := by rw [List.take_length]; exact hrow
  have hbel : Below base w w' := hfr.below (by
    rintro k (rfl | rfl | rfl | hk)
    · exact hW.bs
    · exact hW.bo
    · exact hW.bg
    · exact (World.ownsRow.lt h.row k hk).1) h.a.p.hb
  let f' : Fo := ⟨fun k => k = d ∨ u'.ownBlock = some k, w'.heap.size, fun k hk => by
    rcases hk with rfl | hk
    · exact Nat.lt_of_lt_of_le h.dec.lt hfr.size
    · exact row_ltF hrow hk, some x.b.l.length⟩
  have hF : FoS f f' w := fun k hk hc => by
    rcases hc with rfl | hc
    · exact h.fd
    · rcases hown with ho | ⟨k', ho, hge⟩
      · exact h.fu k (ho ▸ hc)
      · rw [ho] at hc; have := Option.some.inj hc; omega
  have hSt := gsta_took (f1 := f) (f2 := f') hF rfl (Nat.le_refl _) h.a hW' hfr h.fu hgF hgl hgk
  exact ⟨u', rfl, ⟨f', .inl rfl, fun k hk => .inr hk, rfl, Nat.le_refl _, hSt, hrow2, hfr.blk h.dec hdn⟩, hbel⟩
theorem ch_feedR {v : Value} {bytes : List UInt8} {N : Nat} (h : ChS f w base d B s m sc o ck x u n en) (hi : SInv x N) (hN : N + bytes.length ≤ 50000) (hv : ∀ w', Below base w w' → BRead w' v bytes) :
    Calls Tryz.prog 14 #[.pointer (some ⟨s, 0, none⟩), v] w fun e w' => e = .returned (.bool true) ∧ ChS f w' base d B s m sc o ck (feedG x bytes) u n en ∧ Below base w w' := by
  refine (@feed_any _ f (@agM _ f) w base B s m sc o ck x en N v bytes h.a hi hN (fun w' hl => hv w' hl.low) (fun h => h.elim)).mono ?_
  rintro e w' ⟨rfl, hA, hl⟩
  have hp : x.b.l <+: (@feedG (@agP _ f) x bytes).b.l := feedN_pre bytes x
  have hr : ERow w' base u (x.b.l.take n) := rowO_keep h.row fun g q hg hq => hl.fo g q hq (h.fu g hg)
  have hr2 : ERow w' base u ((@feedG (@agP _ f) x bytes).b.l.take n) := by rw [take_pre hp h.hn]; exact hr
  exact ⟨rfl, ⟨h.fd, h.fu, h.tk, Nat.le_trans h.hn hp.length_le, hA, hr2, hl.fo d _ h.dec h.fd⟩, hl.low⟩
/-- The same, behind Close. -/
structure ChZ (f : Fo) (w : World) (base d s m sc o ck : Nat) (E : Int) (R : Nat) (L : List Ev) (st : List Pt) (u : Value) (n : Nat) (en : Bool) : Prop where
  fd : f.F d
  fu : ∀ k, u.ownBlock = some k → f.F k
  tk : f.tk.getD 0 = n
  hn : n ≤ L.length
  e : @EAt f 48 w base s m sc o ck E R true en st L
  row : ERow w base u (L.take n)
  dec : Blk w d 37 #[.pointer (some ⟨s, 0, none⟩)]
theorem ch_close {N : Nat} (h : ChS f w base d B s m sc o ck x u n en) (hi : SInv x N) (hN : N ≤ 50000) :
    Calls Tryz.prog 17 #[.pointer (some ⟨s, 0, none⟩)] w fun e w' => e = .returned (.tuple #[]) ∧ (∃ st, ChZ f w' base d s m sc o ck (closeE x) x.rd (closeBs x).l st u n en) ∧ Below base w w' := by
  refine (@sclose_any _ f (@agM _ f) w base B s m sc o ck x en (2 * N) h.a hi.b (by omega) (fun h => h.elim)).mono ?_
  rintro e w' ⟨rfl, hE, hl⟩
  have hp : x.b.l <+: (closeBs x).l := @close_pre _ f x
  have hr : ERow w' base u (x.b.l.take n) := rowO_keep h.row fun g q hg hq => hl.fo g q hq (h.fu g hg)
  have hr2 : ERow w' base u ((closeBs x).l.take n) := by rw [take_pre hp h.hn]; exact hr
  exact ⟨rfl, ⟨_, ⟨h.fd, h.fu, h.tk, Nat.le_trans h.hn hp.length_le, hE, hr2, hl.fo d _ h.dec h.fd⟩⟩, hl.low⟩
theorem ch_takesZ {E : Int} {R : Nat} {L : List Ev} {st : List Pt} (h : ChZ f w base d s m sc o ck E R L st u n en) (hl : L.length < 5000) (hb : base ≤ w.heap.size) :
    Calls Tryz.prog 15 #[.pointer (some ⟨d, 0, none⟩), u] w fun e w' => ∃ u', e = .returned (.tuple #[u', .int .i64 (NxS E true), .bool true]) ∧ ERow w' base u' L ∧ Blk w' d 37 #[.pointer (some ⟨s, 0, none⟩)] ∧ Blk w' s 75 (sCells 48 m sc o E R true true) ∧ w'.cell? ⟨o, 2, none⟩ = some (.int .i64 0) ∧ Below base w w' := by
  obtain ⟨g, hW, hgl, hgF, hol, hoF, hgk⟩ := @EAt.wtk inferInstance f _ _ _ _ _ _ _ _ _ _ _ _ _ _ f h.e
  rw [h.tk] at hW
  have hsF : ¬ f.F s := h.e.ns
  have hclr : Clear u s o g := fun k hk => ⟨fun e => hsF (e ▸ h.fu k hk), fun e => hoF (e ▸ h.fu k hk), fun e => hgF (e ▸ h.fu k hk)⟩
  have hdn : ¬ TkS s o g u d := by
    rintro (rfl | rfl | rfl | hk)
    · exact hsF h.fd
    · exact hoF h.fd
    · exact hgF h.fd
    · exact ev_dec (k := 0) h.row h.dec hk
  refine (takes_any w base base s sc o ck m g d _ E R true en (L.drop n) u (L.take n) hW h.dec h.row hclr hb (by rw [List.length_drop]; omega) (by rw [List.length_take]; omega) ⟨h.e.blk.lt, hol, hgl⟩ hdn).mono ?_
  rintro e w' ⟨u', rfl, hrow, hclr', hown, hW', hfr⟩
  rw [List.take_append_drop] at hrow
  have hbel : Below base w w' := hfr.below (by
    rintro k (rfl | rfl | rfl | hk)
    · exact hW.bs
    · exact hW.bo
    · exact hW.bg
    · exact (World.ownsRow.lt h.row k hk).1) hb
  have hen : (en || decide (NxS E true ≠ 2)) = true := by
    unfold NxS
    by_cases he : E = 0 <;> simp [he]
  have hbl := hW'.blk
  rw [hen] at hbl
  obtain ⟨lv, hB, _⟩ := hW'.out
  exact ⟨u', rfl, hrow, hfr.blk h.dec hdn, hbl, hB.cell 2, hbel⟩
end
theorem feed_closed (w : World) (s : Nat) (T : TypeId) (m sc o : Nat) (e : Int) (rd : Nat) (en : Bool) (v : Value) (h : Blk w s 75 (sCells T m sc o e rd true en)) :
    Calls Tryz.prog 14 #[.pointer (some ⟨s, 0, none⟩), v] w fun e w' => e = .returned (.bool false) ∧ w' = w := by
  have s5 : w.cell? ⟨s, 5, none⟩ = some (.bool true) := h.cell 5
  clear h
  go_enter Tryz.func14, Tryz.ntmps14
  go_wp2
  go_ret
  exact ⟨rfl, rfl⟩
/-- What holds of the decoder between the law's steps. -/
def ChE (w : World) (base d B s m sc o ck : Nat) (x : Ss (@agP _ Fo.no)) (u : Value) (n : Nat) (en : Bool) : Prop := ∃ f, ChS f w base d B s m sc o ck x u n en
def ChO (w : World) (base d B s m sc o ck : Nat) (x : Ss (@agP _ Fo.no)) (u : Value) (n : Nat) (en : Bool) (ov : Value) (nb : Nat) (cs : List Value) : Prop := ∃ f, ChC f w base d B s m sc o ck x u n en ov nb cs
theorem ChE.cell {w w' : World} {base d B s m sc o ck : Nat} {x : Ss (@agP _ Fo.no)} {u : Value} {n : Nat} {en : Bool} (h : ChE w base d B s m sc o ck x u n en) (hg : w.grownBy w' none) : w'.cell? ⟨d, 0, none⟩ = some (.pointer (some ⟨s, 0, none⟩)) ∧ d < w'.heap.size := by
  obtain ⟨f, h⟩ := h
  have hb : Blk w' d 37 #[.pointer (some ⟨s, 0, none⟩)] := (hg.block d h.dec.lt (by simp)).trans h.dec
  exact ⟨hb.cell 0, hb.lt⟩
section
variable {w w' : World} {base d B s m sc o ck : Nat} {y : Ss (@agP _ Fo.no)} {u : Value} {n : Nat} {en : Bool}
theorem ChE.below (h : ChE w base d B s m sc o ck y u n en) (hb : Below w.heap.size w w') : ChE w' base d B s m sc o ck y u n en := by
  obtain ⟨f, h⟩ := h
  exact ⟨f, h.below hb⟩
theorem ChE.dec (h : ChE w base d B s m sc o ck y u n en) : w.cell? ⟨d, 0, none⟩ = some (.pointer (some ⟨s, 0, none⟩)) ∧ d < w.heap.size := by
  obtain ⟨f, h⟩ := h
  exact ⟨h.dec.cell 0, h.dec.lt⟩
theorem ch_takesE (h : ChE w base d B s m sc o ck y u n en) (l : List Ev) (e1 : Int) (hl : y.b.l = l) (he : y.e = e1) (hl5 : l.length < 5000) :
    Calls Tryz.prog 15 #[.pointer (some ⟨d, 0, none⟩), u] w fun e w' => ∃ u', e = .returned (.tuple #[u', .int .i64 (NxS e1 false), .bool true]) ∧ ChE w' base d B s m sc o ck y u' l.length (en || decide (NxS e1 false ≠ 2)) ∧ ERow w' base u' l ∧ Below base w w' := by
  subst hl he
  obtain ⟨f, h⟩ := h
  refine (ch_takes h hl5).mono ?_
  rintro e w' ⟨u', rfl, ⟨f', h'⟩, hb⟩
  have hr : ERow w' base u' (y.b.l.take y.b.l.length) := h'.row
  rw [List.take_length] at hr
  exact ⟨u', rfl, ⟨f', h'⟩, hr, hb⟩
theorem ch_endE (h : ChE w base d B s m sc o ck y u n en) {e1 : Int} {r1 : Nat} (he : y.e = e1) (hr : y.rd = r1) (hr6 : r1 ≤ 1000000) :
    Calls Tryz.prog 16 #[.pointer (some ⟨s, 0, none⟩)] w fun f w' => f = .returned (.tuple #[.int .i64 (if en then e1 else 0), .int .i64 (if en then (r1 : Int) else -1)]) ∧ ∃ n, w' = w.drewN n := by
  subst he hr
  obtain ⟨f, h⟩ := h
  have hO := ((@agM _ f).out h.a.d)
  obtain ⟨⟨lv, hB, _⟩, _⟩ := hO
  exact @endOf_any inferInstance f w s _ m sc o y.e y.rd false en h.a.blk (hB.cell 2) hr6
theorem ch_feedE {v : Value} {bytes : List UInt8} {N : Nat} {z : Ss (@agP _ Fo.no)} (h : ChE w base d B s m sc o ck y u n en) (hz : feedG y bytes = z) (hi : SInv y N) (hN : N + bytes.length ≤ 50000) (hv : ∀ w', Below base w w' → BRead w' v bytes) :
    Calls Tryz.prog 14 #[.pointer (some ⟨s, 0, none⟩), v] w fun e w' => e = .returned (.bool true) ∧ ChE w' base d B s m sc o ck z u n en ∧ Below base w w' := by
  subst hz
  obtain ⟨f, h⟩ := h
  refine (ch_feedR h hi hN hv).mono ?_
  rintro e w' ⟨rfl, h', hb⟩
  exact ⟨rfl, ⟨f, h'⟩, hb⟩
theorem ch_closeE {N : Nat} {E : Int} {R : Nat} {L : List Ev} (h : ChE w base d B s m sc o ck y u n en) (hi : SInv y N) (hN : N ≤ 50000) (hE : closeE y = E) (hR : y.rd = R) (hL : (closeBs y).l = L) :
    Calls Tryz.prog 17 #[.pointer (some ⟨s, 0, none⟩)] w fun e w' => e = .returned (.tuple #[]) ∧ (∃ f st, ChZ f w' base d s m sc o ck E R L st u n en) ∧ Below base w w' := by
  subst hE hR hL
  obtain ⟨f, h⟩ := h
  refine (ch_close h hi hN).mono ?_
  rintro e w' ⟨rfl, ⟨st, h'⟩, hb⟩
  exact ⟨rfl, ⟨f, st, h'⟩, hb⟩
end
end Go.Proofs.YtjepnddndpmnnaaGreat

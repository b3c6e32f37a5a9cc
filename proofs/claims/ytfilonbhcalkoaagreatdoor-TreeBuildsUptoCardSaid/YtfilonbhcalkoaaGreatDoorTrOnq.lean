/-
  The reference's Build: one.
-/
import Derived.Test.YtfilonbhcalkoaaGreatDoorTrUq
import Derived.Test.YtfilonbhcalkoaaGreatDoorTrM21
namespace Go.Proofs.YtfilonbhcalkoaaGreatDoor
open Go.RowKit Go.Maps
set_option maxRecDepth 100000
set_option linter.unusedSimpArgs false

def OnePost (n : Nd) (w : World) (e : Ending) (w' : World) : Prop :=
  ∃ A c, e = .returned (.tuple #[.agg #[.int .i64 n.k, .string n.t, .string n.v, .slice A n.kids.length c], .int .i64 ((flat n).length : Int)]) ∧ NAt (Fresh w.heap.size w') w' n A c ∧ Below w.heap.size w w'
def OneAt (n : Nd) : Prop := ∀ (rest : List Ev) (v : Value) (w : World), (flat n ++ rest).length ≤ 100000 → ERead w v (flat n ++ rest) → Calls Tryz.prog 33 #[v] w (OnePost n w)

/-- What lies while kids are taken. -/
structure OneR (w : World) (m r nb : Nat) (k : Int) (t s : ByteArray) (W : World) (ks : List KV) (v : Value) : Prop where
  res : Blk W r 24 #[.int .i64 0, .string ⟨#[]⟩, .string ⟨#[]⟩, .slice none 0 0]
  box : Blk W nb 24 #[.int .i64 k, .string t, .string s, v]
  row : NRow W m v ks
  low : Below w.heap.size w W
  sz : m ≤ W.heap.size
structure OneM (w : World) (m r nb : Nat) : Prop where
  a : w.heap.size ≤ r
  b : r < nb
  c : nb < m
section
variable {w W w3 w7 : World} {m r nb : Nat} {k : Int} {t s : ByteArray} {ks : List KV} {v v7 : Value} {o1 o2 : Obj} {kd : Nd} {A3 : Option Addr} {c3 : Nat}
theorem al2 (w3 : World) (o1 o2 : Obj) : Below w3.heap.size w3 ((w3.alloc o1).alloc o2) := ((Below.refl _ _).alloc (Nat.le_refl _) _).alloc (by simp) _
theorem OneR.to4 (h : OneR w m r nb k t s W ks v) (hb3 : Below W.heap.size W w3) : OneR w m r nb k t s ((w3.alloc o1).alloc o2) ks v := by
  have hb : Below W.heap.size W ((w3.alloc o1).alloc o2) := hb3.trans ((al2 w3 o1 o2).mono hb3.size)
  exact ⟨h.res.below hb h.res.lt, h.box.below hb h.box.lt, h.row.below hb, h.low.trans (hb.mono h.low.size), Nat.le_trans h.sz hb.size⟩
theorem OneR.own (h : OneR w m r nb k t s W ks v) {g : Nat} (hg : g < m) : some g ≠ v.ownBlock := fun e => by have := (World.ownsRow.lt h.row.row g e.symm).1; omega
theorem OneR.next (hM : OneM w m r nb) (h : OneR w m r nb k t s W ks v) (hb3 : Below W.heap.size W w3) (hF : NAt (Fresh W.heap.size w3) w3 kd A3 c3) (hO : OStep ((w3.alloc o1).alloc o2) v w7 v7)
    (hr : w7.ownsRow m 24 4 v7 (ks.length + 1) (kvCs ks ++ kvC ⟨kd, A3, c3⟩)) : OneR w m r nb k t s (w7.setCell ⟨nb, 3, none⟩ v7) (ks ++ [⟨kd, A3, c3⟩]) v7 := by
  have h4 := h.to4 (o1 := o1) (o2 := o2) hb3
  have hF4 : NAt (Fresh W.heap.size ((w3.alloc o1).alloc o2)) ((w3.alloc o1).alloc o2) kd A3 c3 := Fresh.below hF (al2 w3 o1 o2)
  have q4 := own_fresh hF4 h.sz (fun g hg => h.row.lt g hg)
  have h1 := hM.a
  have h2 := hM.b
  have h3 := hM.c
  have hl := hO.below h4.row.row h4.sz
  refine ⟨((hO.blk h4.res (h4.own (by omega))).1.far (p := ⟨nb, 3, none⟩) (by simp; omega) _), (hO.blk h4.box (h4.own h3)).1.set_ 3 v7, (h4.row.push q4 hO hr).set (p := ⟨nb, 3, none⟩) h3 v7, ?_, ?_⟩
  · exact (h4.low.trans (hl.mono (by omega))).setCell (p := ⟨nb, 3, none⟩) (by simp; omega) v7
  · have := hl.size
    have := h4.sz
    simp [World.setCell]
    omega
/-- The end: the node told. -/
theorem OneR.done {A : Option Addr} {n c : Nat} (hM : OneM w m r nb) (h : OneR w m r nb k t s W ks (.slice A n c)) : ks.length = n ∧ ∀ W', W' = (((W.setCell ⟨r, 0, none⟩ (.int .i64 k)).setCell ⟨r, 1, none⟩ (.string t)).setCell ⟨r, 2, none⟩ (.string s)).setCell ⟨r, 3, none⟩ (.slice A n c) →
    Blk W' r 24 #[.int .i64 k, .string t, .string s, .slice A n c] ∧ NAt (Fresh w.heap.size W') W' (.mk k t s (ks.map (·.n))) A c ∧ Below w.heap.size w W' := by
  obtain ⟨A, c, hv, hn⟩ := h.row.node k t s
  injection hv with e1 e2 e3
  subst e1 e2 e3
  have h1 := hM.a
  have h2 := hM.b
  have h3 := hM.c
  refine ⟨rfl, fun W' e => ?_⟩
  subst e
  refine ⟨(((h.res.set_ 0 (.int .i64 k)).set_ 1 (.string t)).set_ 2 (.string s)).set_ 3 (.slice _ ks.length _), ?_, (((h.low.setCell (p := ⟨r, 0, none⟩) h1 _).setCell (p := ⟨r, 1, none⟩) h1 _).setCell (p := ⟨r, 2, none⟩) h1 _).setCell (p := ⟨r, 3, none⟩) h1 _⟩
  exact Fresh.lower (Fresh.set (Fresh.set (Fresh.set (Fresh.set hn (p := ⟨r, 0, none⟩) (by simp; omega) _) (p := ⟨r, 1, none⟩) (by simp; omega) _) (p := ⟨r, 2, none⟩) (by simp; omega) _) (p := ⟨r, 3, none⟩) (by simp; omega) _) (by omega)
end

theorem ERead.lower {w w' : World} {v : Value} {xs : List Ev} (h : ERead w v xs) (hb : Below w.heap.size w w') : ERead w' v xs := h.below hb
theorem drop_kids (x : Ev) (kids : List Nd) (tl : List Ev) (j : Nat) : (x :: (flatL kids ++ tl)).drop (1 + (flatL (kids.take j)).length) = flatL (kids.drop j) ++ tl := by
  have h : flatL kids = flatL (kids.take j) ++ flatL (kids.drop j) := by rw [← flatL_append, List.take_append_drop]
  rw [Nat.add_comm, List.drop_succ_cons, h, List.append_assoc, List.drop_left]
theorem ERead.from {w : World} {b o c n : Nat} {xs : List Ev} (h : ERead w (.slice (some ⟨b, o, none⟩) n c) xs) (a : Nat) (ha : a < xs.length) : ERead w (.slice (some ⟨b, o + a * 3, none⟩) (n - a) (c - a)) (xs.drop a) := by
  obtain ⟨A, c', hv, h1, h2, h3⟩ := h
  injection hv with e1 e2 e3
  subst e1 e2 e3
  obtain ⟨b', o', hA, hc⟩ := h3 (by omega)
  injection hA with hA
  injection hA with hb ho
  subst hb ho
  refine ⟨_, _, by rw [List.length_drop], by rw [List.length_drop]; omega, by omega, fun hp => ⟨b, o + a * 3, rfl, fun j hj => ?_⟩⟩
  rw [List.length_drop] at hj
  obtain ⟨q0, q1, q2⟩ := hc (a + j) (by omega)
  rw [List.getElem_drop, show o + a * 3 + j * 3 = o + (a + j) * 3 by omega]
  exact ⟨q0, q1, q2⟩

set_option maxHeartbeats 8000000 in
theorem rone_any (n : Nd) (hsh : shaped n = true) : OneAt n := by
  induction n using Nd.ind with
  | h k t s kids ih =>
    intro rest v w hn hv
    simp only [shaped, Bool.and_eq_true] at hsh
    have hflat : flat (.mk k t s kids) ++ rest = ⟨k, t, s⟩ :: (flatL kids ++ (endL k ++ rest)) := by simp [flat]
    have hv0 := hv
    rw [hflat] at hv hn hv0
    obtain ⟨b, o, c, rfl, hlc, hcm, q0, q1, q2⟩ := hv.head
    have hcm2 : c ≤ 9223372036854775807 := by simpa [maxLen] using hcm
    simp only at q0 q1 q2
    obtain ⟨L, hL⟩ : ∃ L, (flatL kids ++ (endL k ++ rest)).length = L := ⟨_, rfl⟩
    simp only [List.length_cons] at hn
    rw [hL] at hlc hn hv0 ⊢
    have HV := Lib.hid hv0
    have HLN := Lib.hid hL
    have hbl := cell_lt q0
    clear hv hflat hL hv0
    show Calls Tryz.prog 33 #[.slice (some ⟨b, o, none⟩) (L + 1) c] w _
    have hLi : ¬ ((L : Int) + 1 < 1) := by omega
    have hLj : (0 : Int) < (L : Int) + 1 := by omega
    go_enter Tryz.func33, Tryz.ntmps33
    go_wp2
    go_region
    obtain ⟨W2, hW2⟩ : ∃ W2, ((w.alloc (.cells #[.int .i64 0, .string ⟨#[]⟩, .string ⟨#[]⟩, .slice none 0 0] 24)).alloc (.cells #[.int .i64 k, .string t, .string s, .slice none 0 0] 24)).drew = W2 := ⟨_, rfl⟩
    have hM : OneM w (w.heap.size + 2) w.heap.size (w.heap.size + 1) := ⟨Nat.le_refl _, by omega, by omega⟩
    have hR : OneR w (w.heap.size + 2) w.heap.size (w.heap.size + 1) k t s W2 [] (.slice none 0 0) := by
      rw [← hW2]
      have hb := Blk.new (w.alloc (.cells #[.int .i64 0, .string ⟨#[]⟩, .string ⟨#[]⟩, .slice none 0 0] 24)) 24 #[.int .i64 k, .string t, .string s, .slice none 0 0]
      rw [World.size_alloc] at hb
      exact ⟨((Blk.new w _ _).alloc _).drew, hb.drew, NRow.nil _ _, below_drew (al2 w _ _), by simp⟩
    rw [hW2]
    have HM := Lib.hid hM
    have HR := Lib.hid hR
    have x0 := hR.box.cell 0
    have hsl := hR.sz
    clear hM hR hW2 q0 q1 q2
    rcases shape_kids hsh.1 with hop | ⟨hno, hlf, hk0, hk8⟩ | ⟨hno, hk8, hk1⟩
    · skip
      have hEK := (endI_opens k).1 hop
      have hel : endL k = [endE (endI k)] := by unfold endL; rw [hop, hEK.1]; rfl
      have hee := ends_endI hop
      have hk8 : k ≠ 8 := fun e => by subst e; exact absurd hop (by decide)
      have z8 : (k == 8) = false := ibeq hk8
      have z0 : (endI k == 0) = false := ibeq hEK.2
      have hE := fun w' => rend_any k w'
      have hshL := hsh.2
      rw [hel] at HV HLN
      have hfl : (flat (.mk k t s kids)).length = 1 + (flatL kids).length + 1 := by simp [flat, hel]; omega
      generalize endI k = E at *
      have HFL := Lib.hid hfl
      clear hEK hel hk8 hsh hfl hop
      have hIH := Lib.hid ih
      clear ih
      go_wp2_with fail
      refine (hE _).mono ?_
      rintro e w' ⟨rfl, rfl⟩
      go_wp2_with fail
      go_loopw [5] (fun a wr => ∃ (ks : List KV) (A1 : Option Addr) (c1 : Nat), ks.length ≤ kids.length ∧ a = .int .i64 ((1 + (flatL (kids.take ks.length)).length : Nat) : Int) ∧ Hid (ks.map (·.n) = kids.take ks.length) ∧ Hid (OneR w (w.heap.size + 2) w.heap.size (w.heap.size + 1) k t s wr ks (.slice A1 ks.length c1))) (fun a _ => 100001 - (intOf a).toNat)
      case atStart => exact ⟨[], none, 0, Nat.zero_le _, rfl, Lib.hid rfl, HR⟩
      case round =>
        obtain ⟨ks, A1, c1, hkl, rfl, HK, HR1⟩ := hrel
        have hdr := drop_kids ⟨k, t, s⟩ kids ([endE E] ++ rest) ks.length
        have hvr := HV.out.lower HR1.out.low
        have hln := HLN.out
        obtain ⟨aN, haN⟩ : ∃ aN, 1 + (flatL (kids.take ks.length)).length = aN := ⟨_, rfl⟩
        rw [haN] at hdr ⊢
        have haL : aN < L + 1 := by
          have h := congrArg List.length hdr
          simp only [List.length_drop, List.length_append, List.length_cons, List.length_nil] at h hln
          omega
        have hfr := hvr.from aN (by simp only [List.length_cons]; omega)
        rw [hdr] at hfr
        have HAN := Lib.hid haN
        clear hdr hvr haN x0 hsl HR
        have hai : ¬ ((L : Int) + 1 ≤ aN) := by omega
        have haj : (aN : Int) < (L : Int) + 1 := by omega
        have hca : c ≠ aN := by omega
        by_cases hlt : ks.length < kids.length
        case pos =>
          have hdk : kids.drop ks.length = kids[ks.length] :: kids.drop (ks.length + 1) := List.drop_eq_getElem_cons hlt
          have hmem := List.getElem_mem hlt
          have htk := List.take_succ_eq_append_getElem hlt
          rw [hdk] at hfr
          obtain ⟨kd, hkd⟩ : ∃ kd, kids[ks.length] = kd := ⟨_, rfl⟩
          rw [hkd] at hfr hmem htk
          simp only [flatL, List.append_assoc] at hfr
          have hsk := shapedL_in hshL hmem
          obtain ⟨kx, r1, hh1, hh2⟩ : ∃ kx r1, ERead wr (.slice (some ⟨b, o + aN * 3, none⟩) (L + 1 - aN) (c - aN)) (kx :: r1) ∧ kx.k ≠ E := by
            cases kd with
            | mk kk tt ss ll =>
              refine ⟨⟨kk, tt, ss⟩, flatL ll ++ endL kk ++ (flatL (kids.drop (ks.length + 1)) ++ ([endE E] ++ rest)), by simpa [flat] using hfr, fun e => ?_⟩
              simp only [shaped, Bool.and_eq_true] at hsk
              have h1 := shape_head hsk.1
              simp only at e
              rw [e, hee] at h1
              exact absurd h1 (by decide)
          obtain ⟨b', o', c', hv', _, _, m0, _, _⟩ := hh1.head
          injection hv' with e1 e2 e3
          injection e1 with e1
          injection e1 with e1 e4
          subst e1 e4
          have zk : (kx.k != E) = true := ibne hh2
          have hlen : (flat kd).length ≤ 100000 ∧ aN + (flat kd).length ≤ 100000 := by
            obtain ⟨A', c'', hvv, _, _, _⟩ := id hfr
            injection hvv with _ e2 _
            simp only [List.length_append, List.length_cons] at e2
            omega
          have HC := Lib.hid (hIH.out kd hmem hsk _ _ wr (by
            obtain ⟨A', c'', hvv, _, _, _⟩ := id hfr
            injection hvv with _ e2 _
            omega) hfr)
          unfold OnePost at HC
          have hfp := flat_pos kd
          have HTK := Lib.hid htk
          obtain ⟨Lk, hLk⟩ : ∃ Lk, (flat kd).length = Lk := ⟨_, rfl⟩
          rw [hLk] at HC hlen hfp
          have HLK := Lib.hid hLk
          obtain ⟨hl1, hl2⟩ := hlen
          have n0 := HR1.out.box.cell 3
          clear hh1 hh2 e2 e3 hfr hdk hmem htk hkd hsk hln hLk
          have hkb : ks.length ≤ 100000 := by
            have h1 := flatL_len_ge (kids.take ks.length)
            rw [List.length_take] at h1
            have h2 := HAN.out
            omega
          go_wp2_with fail
          refine HC.out.mono ?_
          rintro e w3 ⟨A3, c3, rfl, hF3, hb3⟩
          have h4 := OneR.to4 (o1 := .cells #[.int .i64 kd.k, .string kd.t, .string kd.v, .slice A3 kd.kids.length c3] 24) (o2 := .cells #[.int .i64 kd.k, .string kd.t, .string kd.v, .slice A3 kd.kids.length c3] 24) HR1.out hb3
          have hk := Blk.new w3 24 #[.int .i64 kd.k, .string kd.t, .string kd.v, .slice A3 kd.kids.length c3]
          obtain ⟨k0, k1, k2, k3⟩ := box_cells hk
          have n3 := ((HR1.out.box.below hb3 HR1.out.box.lt).alloc (.cells #[.int .i64 kd.k, .string kd.t, .string kd.v, .slice A3 kd.kids.length c3] 24)).cell 3
          have hN4 := h4.row.row
          have hs4 := h4.sz
          have hz3 : (w3.alloc (.cells #[.int .i64 kd.k, .string kd.t, .string kd.v, .slice A3 kd.kids.length c3] 24)).heap.size = w3.heap.size + 1 := by simp
          have HH := Lib.hid (fun (v7 : Value) (w7 : World) hO7 hown7 => OneR.next (o1 := .cells #[.int .i64 kd.k, .string kd.t, .string kd.v, .slice A3 kd.kids.length c3] 24) (o2 := .cells #[.int .i64 kd.k, .string kd.t, .string kd.v, .slice A3 kd.kids.length c3] 24) (v7 := v7) (w7 := w7) HM.out HR1.out hb3 hF3 hO7 hown7)
          have H4 := Lib.hid h4
          have hcs := cellsOf4 (w3.alloc (.cells #[.int .i64 kd.k, .string kd.t, .string kd.v, .slice A3 kd.kids.length c3] 24)) (.int .i64 kd.k) (.string kd.t) (.string kd.v) (.slice A3 kd.kids.length c3) 24
          rw [hz3] at hcs
          obtain ⟨g3, hg3⟩ : ∃ g3, w3.heap.size = g3 := ⟨_, rfl⟩
          rw [hg3] at k0 k1 k2 k3 hcs
          have h63 : ks.length + 1 ≤ maxLen := by simp only [maxLen]; omega
          have h64 : (ks.length + 1) * 64 ≤ 140737488355328 := by omega
          clear hk hF3 hb3 h4 HC
          go_wp2_with (first
            | (at_builtin; refine wp_appO rfl _ _ 22 rfl (w.heap.size + 2) 24 _ 4 64 Tryz.underlying22 Tryz.infoNd rfl (by decide) (.slice A1 ks.length c1) ks.length (kvCs ks) [.int .i64 kd.k, .string kd.t, .string kd.v, .slice A3 kd.kids.length c3] rfl (by exact hN4) (by simp [Value.oneCell']) ⟨g3 + 1, 0, none⟩ 1 1 rfl rfl (by exact hcs) h63 h64 hs4 ?_; intro v7 w7 hown7 hO7; obtain ⟨g7, c7, rfl⟩ := rowN_shape hown7 (Nat.succ_pos _); have HRn := Lib.hid (HH.out _ w7 hO7 hown7); have x7 := (hO7.blk H4.out.box (H4.out.own HM.out.c)).1; have f7 := x7.frozen 3; have d7 := x7.cell 3; have l7 := x7.lt; have e0 := x7.cell 0; have e1 := x7.cell 1; have e2 := x7.cell 2; have r7 := (hO7.blk H4.out.res (H4.out.own (Nat.lt_trans HM.out.b HM.out.c))).1; have p0 := r7.cell 0; have p1 := r7.cell 1; have p2 := r7.cell 2; have p3 := r7.cell 3; have g0 := r7.frozen 0; have g1 := r7.frozen 1; have g2 := r7.frozen 2; have g5 := r7.frozen 3; have lr := r7.lt; clear r7 x7 hO7 hown7 HH H4 hN4 hs4 k0 k1 k2 k3 hcs n3))

          go_roundw
          case rel =>
            have hl9 : (ks ++ [(⟨kd, A3, c3⟩ : KV)]).length = ks.length + 1 := by simp
            refine ⟨ks ++ [(⟨kd, A3, c3⟩ : KV)], some ⟨g7, 0, none⟩, c7, by rw [hl9]; exact hlt, ?_, Lib.hid ?_, ?_⟩
            · rw [hl9, HTK.out, flatL_append, List.length_append, ← Nat.add_assoc, HAN.out]
              simp only [flatL, List.append_nil]
              rw [HLK.out]
              simp
            · rw [hl9, HTK.out, List.map_append, HK.out]; rfl
            · rw [hl9]; exact HRn
          case measure => simp [intOf]; omega
        case neg =>
          have hke : ks.length = kids.length := by omega
          rw [hke, List.drop_of_length_le (Nat.le_refl _)] at hfr
          simp only [flatL, List.nil_append, List.cons_append] at hfr
          obtain ⟨b', o', c', hv', _, _, m1, _, _⟩ := hfr.head
          injection hv' with e1 e2 e3
          injection e1 with e1
          injection e1 with e1 e4
          subst e1 e4
          have m0 : wr.cell? ⟨b, o + aN * 3, none⟩ = some (.int .i64 E) := m1
          clear m1
          have zk : (E != E) = false := by simp
          have hkm : ks.map (·.n) = kids := by rw [HK.out, hke, List.take_of_length_le (Nat.le_refl _)]
          have hfl : ((flat (.mk k t s kids)).length : Int) = (aN : Int) + 1 := by
            have h1 := HFL.out
            have h2 := HAN.out
            rw [hke, List.take_of_length_le (Nat.le_refl _)] at h2
            omega
          have HFL2 := Lib.hid hfl
          have HKM := Lib.hid hkm
          have hal : aN ≤ 100000 := by omega
          have bb := HR1.out.res
          have f0 := bb.frozen 0
          have f1 := bb.frozen 1
          have f2 := bb.frozen 2
          have f3 := bb.frozen 3
          have d0 := bb.cell 0
          have d1 := bb.cell 1
          have d2 := bb.cell 2
          have d3 := bb.cell 3
          have dl := bb.lt
          have bx := HR1.out.box
          have x0 := bx.cell 0
          have x1 := bx.cell 1
          have x2 := bx.cell 2
          have x3 := bx.cell 3
          have HKE := Lib.hid hke
          clear hfl hkm bb bx hfr hln e2 e3 HFL HK hke
          obtain ⟨hks9, hfin⟩ := OneR.done  HM.out HR1.out
          have HFIN := Lib.hid hfin
          have HKS := Lib.hid hks9
          clear hfin hks9
          go_wp2
          obtain ⟨y, hn9, hb9⟩ := HFIN.out _ rfl
          generalize (((wr.setCell ⟨w.heap.size, 0, none⟩ (.int .i64 k)).setCell ⟨w.heap.size, 1, none⟩ (.string t)).setCell ⟨w.heap.size, 2, none⟩ (.string s)).setCell ⟨w.heap.size, 3, none⟩ (.slice A1 ks.length c1) = W9 at *
          have y0 := y.cell 0
          have y1 := y.cell 1
          have y2 := y.cell 2
          have y3 := y.cell 3
          refine bodyPost_ret (v := .tuple #[.agg #[.int .i64 k, .string t, .string s, (.slice A1 ks.length c1)], .int .i64 ((aN : Int) + 1)]) ?_ rfl ?_
          · simp [results, Tryz.f33, go_sem, y0, y1, y2, y3]
          · refine ⟨A1, c1, ?_, ?_, hb9⟩

            · rw [HFL2.out]; simp [Nd.k, Nd.t, Nd.v, Nd.kids, HKE.out]
            · have h := hn9; rw [HKM.out] at h; exact h
    · skip
      obtain rfl : kids = [] := List.eq_nil_of_length_eq_zero hk0
      have he : endI k = 0 := (endI_opens k).2 hno
      have z8 : (k == 8) = false := ibeq hk8
      have hE := fun w' => rend_any k w'
      rw [he] at hE
      have hfl : ((flat (.mk k t s [])).length : Int) = 1 := by simp [flat, flatL, endL, hno]
      have HFL := Lib.hid hfl
      have bb := HR.out.res
      have f0 := bb.frozen 0
      have f1 := bb.frozen 1
      have f2 := bb.frozen 2
      have f3 := bb.frozen 3
      have d0 := bb.cell 0
      have d1 := bb.cell 1
      have d2 := bb.cell 2
      have d3 := bb.cell 3
      have dl := bb.lt
      have bx := HR.out.box
      have x1 := bx.cell 1
      have x2 := bx.cell 2
      have x3 := bx.cell 3
      clear hfl he ih hsh hlf hk0 hno HV HLN bb bx
      go_wp2_with fail
      refine (hE _).mono ?_
      rintro e w' ⟨rfl, rfl⟩

      obtain ⟨hks9, hfin⟩ := OneR.done (n := 0) HM.out HR.out
      have HFIN := Lib.hid hfin
      have HKS := Lib.hid hks9
      clear hfin hks9
      go_wp2
      obtain ⟨y, hn9, hb9⟩ := HFIN.out _ rfl
      generalize (((w'.setCell ⟨w.heap.size, 0, none⟩ (.int .i64 k)).setCell ⟨w.heap.size, 1, none⟩ (.string t)).setCell ⟨w.heap.size, 2, none⟩ (.string s)).setCell ⟨w.heap.size, 3, none⟩ (.slice none 0 0) = W9 at *
      have y0 := y.cell 0
      have y1 := y.cell 1
      have y2 := y.cell 2
      have y3 := y.cell 3
      refine bodyPost_ret (v := .tuple #[.agg #[.int .i64 k, .string t, .string s, (.slice none 0 0)], .int .i64 1]) ?_ rfl ?_
      · simp [results, Tryz.f33, go_sem, y0, y1, y2, y3]
      · refine ⟨none, 0, ?_, ?_, hb9⟩

        · rw [HFL.out]; simp [Nd.k, Nd.t, Nd.v, Nd.kids]
        · simpa using hn9
    · skip
      obtain ⟨kd, rfl⟩ : ∃ kd, kids = [kd] := by
        match kids, hk1 with
        | [x], _ => exact ⟨x, rfl⟩
      have hsk : shaped kd = true := by have := hsh.2; simp only [shapedL, Bool.and_true] at this; exact this
      have hel : endL k = [] := by unfold endL; rw [hno]; rfl
      have hln := HLN.out
      simp only [flatL, List.append_nil, hel, List.nil_append] at hln
      have hv1 := (HV.out.from 1 (by simp only [List.length_cons]; have := flat_pos kd; simp only [flatL, List.append_nil, hel, List.nil_append]; rw [hln]; rw [List.length_append] at hln; omega))
      simp only [List.drop_succ_cons, List.drop_zero, flatL, List.append_nil, hel, List.nil_append, Nat.add_sub_cancel, Nat.one_mul] at hv1
      have hc1 : c ≠ 1 := by rw [List.length_append] at hln; have := flat_pos kd; omega
      have hvb := hv1.lower HR.out.low
      have HC := Lib.hid (ih kd (by simp) hsk rest _ W2 (by rw [hln]; omega) hvb)
      unfold OnePost at HC
      have hfl : ((flat (.mk k t s [kd])).length : Int) = 1 + ((flat kd).length : Int) := by simp [flat, flatL, hel]; omega
      have hfk : (flat kd).length ≤ 100000 := by rw [List.length_append] at hln; omega
      obtain ⟨Lk, hLk⟩ : ∃ Lk, (flat kd).length = Lk := ⟨_, rfl⟩
      rw [hLk] at hfl HC hfk
      have HFL := Lib.hid hfl
      have n0 := HR.out.box.cell 3
      subst hk8
      clear hfl hln hv1 hvb hel hsk ih hsh hLk HV HLN hk1 hno
      go_wp2_with fail

      refine HC.out.mono ?_
      rintro e w3 ⟨A3, c3, rfl, hF3, hb3⟩
      have h4 := OneR.to4 (o1 := .cells #[.int .i64 kd.k, .string kd.t, .string kd.v, .slice A3 kd.kids.length c3] 24) (o2 := .cells #[.int .i64 kd.k, .string kd.t, .string kd.v, .slice A3 kd.kids.length c3] 24) HR.out hb3
      have hk := Blk.new w3 24 #[.int .i64 kd.k, .string kd.t, .string kd.v, .slice A3 kd.kids.length c3]
      obtain ⟨k0, k1, k2, k3⟩ := box_cells hk
      have n3 := ((HR.out.box.below hb3 HR.out.box.lt).alloc (.cells #[.int .i64 kd.k, .string kd.t, .string kd.v, .slice A3 kd.kids.length c3] 24)).cell 3
      have hN4 := h4.row.row
      have hs4 := h4.sz
      have hz3 : (w3.alloc (.cells #[.int .i64 kd.k, .string kd.t, .string kd.v, .slice A3 kd.kids.length c3] 24)).heap.size = w3.heap.size + 1 := by simp
      have HH := Lib.hid (fun (v7 : Value) (w7 : World) hO7 hown7 => OneR.next (o1 := .cells #[.int .i64 kd.k, .string kd.t, .string kd.v, .slice A3 kd.kids.length c3] 24) (o2 := .cells #[.int .i64 kd.k, .string kd.t, .string kd.v, .slice A3 kd.kids.length c3] 24) (v7 := v7) (w7 := w7) HM.out HR.out hb3 hF3 hO7 hown7)
      have H4 := Lib.hid h4
      have hcs := cellsOf4 (w3.alloc (.cells #[.int .i64 kd.k, .string kd.t, .string kd.v, .slice A3 kd.kids.length c3] 24)) (.int .i64 kd.k) (.string kd.t) (.string kd.v) (.slice A3 kd.kids.length c3) 24
      rw [hz3] at hcs
      obtain ⟨g3, hg3⟩ : ∃ g3, w3.heap.size = g3 := ⟨_, rfl⟩
      rw [hg3] at k0 k1 k2 k3 hcs
      have h63 : 0 + 1 ≤ maxLen := by simp only [maxLen]; omega
      have h64 : (0 + 1) * 64 ≤ 140737488355328 := by omega
      clear hk hF3 hb3 h4 HC
      go_wp2_with (first
        | (at_builtin; refine wp_appO rfl _ _ 22 rfl (w.heap.size + 2) 24 _ 4 64 Tryz.underlying22 Tryz.infoNd rfl (by decide) (.slice none 0 0) 0 (kvCs []) [.int .i64 kd.k, .string kd.t, .string kd.v, .slice A3 kd.kids.length c3] rfl (by exact hN4) (by simp [Value.oneCell']) ⟨g3 + 1, 0, none⟩ 1 1 rfl rfl (by exact hcs) h63 h64 hs4 ?_; intro v7 w7 hown7 hO7; obtain ⟨g7, c7, rfl⟩ := rowN_shape hown7 (Nat.succ_pos _); have HRn := Lib.hid (HH.out _ w7 hO7 hown7); have x7 := (hO7.blk H4.out.box (H4.out.own HM.out.c)).1; have f7 := x7.frozen 3; have d7 := x7.cell 3; have l7 := x7.lt; have e0 := x7.cell 0; have e1 := x7.cell 1; have e2 := x7.cell 2; have r7 := (hO7.blk H4.out.res (H4.out.own (Nat.lt_trans HM.out.b HM.out.c))).1; have p0 := r7.cell 0; have p1 := r7.cell 1; have p2 := r7.cell 2; have p3 := r7.cell 3; have g0 := r7.frozen 0; have g1 := r7.frozen 1; have g2 := r7.frozen 2; have g5 := r7.frozen 3; have lr := r7.lt; clear r7 x7 hO7 hown7 HH H4 hN4 hs4 k0 k1 k2 k3 hcs n3))

      obtain ⟨hks9, hfin⟩ := OneR.done (n := 1) HM.out HRn.out
      have HFIN := Lib.hid hfin
      have HKS := Lib.hid hks9
      clear hfin hks9
      go_wp2
      obtain ⟨y, hn9, hb9⟩ := HFIN.out _ rfl
      generalize ((((w7.setCell ⟨w.heap.size + 1, 3, none⟩ (.slice (some ⟨g7, 0, none⟩) 1 c7)).setCell ⟨w.heap.size, 0, none⟩ (.int .i64 8)).setCell ⟨w.heap.size, 1, none⟩ (.string t)).setCell ⟨w.heap.size, 2, none⟩ (.string s)).setCell ⟨w.heap.size, 3, none⟩ (.slice (some ⟨g7, 0, none⟩) 1 c7) = W9 at *
      have y0 := y.cell 0
      have y1 := y.cell 1
      have y2 := y.cell 2
      have y3 := y.cell 3
      refine bodyPost_ret (v := .tuple #[.agg #[.int .i64 8, .string t, .string s, (.slice (some ⟨g7, 0, none⟩) 1 c7)], .int .i64 (1 + (Lk : Int))]) ?_ rfl ?_
      · simp [results, Tryz.f33, go_sem, y0, y1, y2, y3]
      · refine ⟨some ⟨g7, 0, none⟩, c7, ?_, ?_, hb9⟩

        · rw [HFL.out]; simp [Nd.k, Nd.t, Nd.v, Nd.kids]
        · simpa using hn9
end Go.Proofs.YtfilonbhcalkoaaGreatDoor

/-
  brace: value, behind, mark.
-/
import Derived.Test.YthhhmgkkklopfaaGreatDoorBrZ28
namespace Go.Proofs.YthhhmgkkklopfaaGreatDoor
open Go.RowKit Go.Maps
set_option maxRecDepth 100000
set_option linter.unusedSimpArgs false

theorem nat_beq {a b : Nat} : ((a : Int) == (b : Int)) = decide (a = b) := by rw [Bool.eq_iff_iff]; simp; omega
theorem dd_of_b {w : World} {base B m o ck : Nat} {s : Bs} {qp : Value} (h : BAt w base m o ck s qp) (ha : s.m.a ≠ 8) : DAt w base B m o ck s := .inr ⟨ha, qp, h⟩

set_option maxHeartbeats 8000000 in
theorem value_any (w : World) (base B m o ck : Nat) (s : Bs) (qp : Value) (b : UInt8) (h : BAt w base m o ck s qp) (hBw : B ≤ w.heap.size) (ha8 : s.m.a ≠ 8) (hop : s.m.op.length ≤ 100000) (hg : Good s.st) (hl : s.l.length ≤ 1000000) (hw : SW base w) (hb : base ≤ w.heap.size) :
    Calls Tryz.prog 140 #[.pointer (some ⟨m, 0, none⟩), .int .u8 (b.toNat : Int), .pointer (some ⟨o, 0, none⟩)] w (DPo w base B m o ck (valueB s b)) := by
  have hL := fun (c : UInt8) (k a : Int) => begin_any w base m o ck s qp k c a h hop hg hl hw hb
  have hS := beginString_any w base B m o ck s qp 4 h hBw
  have hW := fun (k : Int) (t r : ByteArray) => beginWord_any w base m o ck s qp k t r h
  have hM := mayBegin_any ⟨#[]⟩ b w (Nat.zero_le _)
  unfold valueB
  by_cases h91 : b.toNat = 91
  case pos =>
    rw [if_pos h91]
    have z91 : ((b.toNat : Int) == 91) = true := by rw [h91]; rfl
    have H := Lib.hid (hL 93 5 1)
    clear hL hS hW hM h hw h91
    go_enter Tryz.func140, Tryz.ntmps140
    go_wp2_with fail
    refine H.out.mono ?_
    intro e w5 hp
    have hq := hp.d (B := B) (by simp [beginB, tellB])
    obtain ⟨rfl, _⟩ := hp
    go_wp2
    go_ret
    exact hq
  rw [if_neg h91]
  have z91 : ((b.toNat : Int) == 91) = false := by rw [beq_eq_false_iff_ne]; omega
  clear h91
  by_cases h123 : b.toNat = 123
  case pos =>
    rw [if_pos h123]
    have z123 : ((b.toNat : Int) == 123) = true := by rw [h123]; rfl
    have H := Lib.hid (hL 125 7 2)
    clear hL hS hW hM h hw h123
    go_enter Tryz.func140, Tryz.ntmps140
    go_wp2_with fail
    refine H.out.mono ?_
    intro e w5 hp
    have hq := hp.d (B := B) (by simp [beginB, tellB])
    obtain ⟨rfl, _⟩ := hp
    go_wp2
    go_ret
    exact hq
  rw [if_neg h123]
  have z123 : ((b.toNat : Int) == 123) = false := by rw [beq_eq_false_iff_ne]; omega
  clear h123
  by_cases h34 : b.toNat = 34
  case pos =>
    rw [if_pos h34]
    have z34 : ((b.toNat : Int) == 34) = true := by rw [h34]; rfl
    have H := Lib.hid hS
    clear hL hS hW hM h hw h34
    go_enter Tryz.func140, Tryz.ntmps140
    go_wp2_with fail
    refine H.out.mono ?_
    rintro e w5 ⟨rfl, hs5, ht5⟩
    have HF : Hid (DPo w base B m o ck (stringB s 4) (.returned (.int .i64 0)) w5) := Lib.hid ⟨rfl, .inl ⟨rfl, hs5⟩, ht5⟩
    clear hs5 ht5 H
    go_wp2
    go_ret
    exact HF.out
  rw [if_neg h34]
  have z34 : ((b.toNat : Int) == 34) = false := by rw [beq_eq_false_iff_ne]; omega
  clear h34
  by_cases h110 : b.toNat = 110
  case pos =>
    rw [if_pos h110]
    have z110 : ((b.toNat : Int) == 110) = true := by rw [h110]; rfl
    have H := Lib.hid (hW 1 ⟨#[]⟩ ⟨#[117, 108, 108]⟩)
    clear hL hS hW hM h hw h110
    go_enter Tryz.func140, Tryz.ntmps140
    go_wp2_with fail
    refine H.out.mono ?_
    rintro e w5 ⟨rfl, hs5, ht5⟩
    have HF : Hid (DPo w base B m o ck (wordB s 1 ⟨#[]⟩ ⟨#[117, 108, 108]⟩) (.returned (.int .i64 0)) w5) := Lib.hid ⟨rfl, dd_of_b hs5 (by simp [wordB]), ht5⟩
    clear hs5 ht5 H
    go_wp2
    go_ret
    exact HF.out
  rw [if_neg h110]
  have z110 : ((b.toNat : Int) == 110) = false := by rw [beq_eq_false_iff_ne]; omega
  clear h110
  by_cases h116 : b.toNat = 116
  case pos =>
    rw [if_pos h116]
    have z116 : ((b.toNat : Int) == 116) = true := by rw [h116]; rfl
    have H := Lib.hid (hW 2 ⟨#[116, 114, 117, 101]⟩ ⟨#[114, 117, 101]⟩)
    clear hL hS hW hM h hw h116
    go_enter Tryz.func140, Tryz.ntmps140
    go_wp2_with fail
    refine H.out.mono ?_
    rintro e w5 ⟨rfl, hs5, ht5⟩
    have HF : Hid (DPo w base B m o ck (wordB s 2 ⟨#[116, 114, 117, 101]⟩ ⟨#[114, 117, 101]⟩) (.returned (.int .i64 0)) w5) := Lib.hid ⟨rfl, dd_of_b hs5 (by simp [wordB]), ht5⟩
    clear hs5 ht5 H
    go_wp2
    go_ret
    exact HF.out
  rw [if_neg h116]
  have z116 : ((b.toNat : Int) == 116) = false := by rw [beq_eq_false_iff_ne]; omega
  clear h116
  by_cases h102 : b.toNat = 102
  case pos =>
    rw [if_pos h102]
    have z102 : ((b.toNat : Int) == 102) = true := by rw [h102]; rfl
    have H := Lib.hid (hW 2 ⟨#[102, 97, 108, 115, 101]⟩ ⟨#[97, 108, 115, 101]⟩)
    clear hL hS hW hM h hw h102
    go_enter Tryz.func140, Tryz.ntmps140
    go_wp2_with fail
    refine H.out.mono ?_
    rintro e w5 ⟨rfl, hs5, ht5⟩
    have HF : Hid (DPo w base B m o ck (wordB s 2 ⟨#[102, 97, 108, 115, 101]⟩ ⟨#[97, 108, 115, 101]⟩) (.returned (.int .i64 0)) w5) := Lib.hid ⟨rfl, dd_of_b hs5 (by simp [wordB]), ht5⟩
    clear hs5 ht5 H
    go_wp2
    go_ret
    exact HF.out
  rw [if_neg h102]
  have z102 : ((b.toNat : Int) == 102) = false := by rw [beq_eq_false_iff_ne]; omega
  clear h102
  cases hmb : mayB1 ⟨#[]⟩ b with
  | false =>
    rw [if_pos rfl]
    rw [hmb] at hM
    have HM := Lib.hid hM
    have HH := Lib.hid h
    clear hL hS hW hM h hw hmb
    go_enter Tryz.func140, Tryz.ntmps140
    go_wp2_with fail
    refine HM.out.mono ?_
    rintro e w1 ⟨rfl, hb1⟩
    have h1 : BAt w1 base m o ck s qp := ⟨HH.out.mc.below hb1, HH.out.out.tch (p := fun _ => False) (Tch.of_below hb1) (fun _ _ _ _ => id) (fun _ _ => id)⟩
    have HF : Hid (DPo w base B m o ck ⟨s, 2⟩ (.returned (.int .i64 2)) w1) := Lib.hid ⟨rfl, dd_of_b h1 ha8, Tch.of_below hb1⟩
    clear h1 hb1 HM HH
    go_wp2
    go_ret
    exact HF.out
  | true =>
    rw [if_neg (by decide)]
    rw [hmb] at hM
    obtain ⟨⟨a, op, ek, et, ev, rs, nm, q⟩, st, l⟩ := s
    have HM := Lib.hid hM
    have HH := Lib.hid h
    clear hL hS hW hM h hw hmb
    go_enter Tryz.func140, Tryz.ntmps140
    go_wp2_with fail
    refine HM.out.mono ?_
    rintro e w1 ⟨rfl, hb1⟩
    have h1 : BAt w1 base m o ck ⟨⟨a, op, ek, et, ev, rs, nm, q⟩, st, l⟩ qp := ⟨HH.out.mc.below hb1, HH.out.out.tch (p := fun _ => False) (Tch.of_below hb1) (fun _ _ _ _ => id) (fun _ _ => id)⟩
    have HT := Lib.hid (Tch.of_below (base := base) (p := bObj) hb1)
    obtain ⟨ov, hB, hR⟩ := h1.mc.ex
    have hml := hB.lt
    have d0 : w1.cell? ⟨m, 0, none⟩ = some (.int .i64 a) := hB.cell 0
    have d6 : w1.cell? ⟨m, 6, none⟩ = some (.string nm) := hB.cell 6
    have f0 := hB.frozen 0
    have f6 := hB.frozen 6
    have hcv := one_str w1 b
    have s1 := h1.mc.set 0 (.int .i64 7) (M' := ⟨7, op, ek, et, ev, rs, nm, q⟩) (qp' := qp) (fun ov => rfl) rfl
    have s2 := s1.set 6 (.string ⟨#[b]⟩) (M' := ⟨7, op, ek, et, ev, rs, ⟨#[b]⟩, q⟩) (qp' := qp) (fun ov => rfl) rfl
    have ht := (h1.mc.touch 0 (.int .i64 7)).trans (s1.touch 6 (.string ⟨#[b]⟩))
    have hO := h1.out.of_m (ht.wide fun _ => mo_of)
    have H1 := Lib.hid (And.intro s2 (And.intro ht hO))
    clear hB hR h1 hb1 s1 s2 ht hO HM HH
    go_wp2
    go_ret
    obtain ⟨s2, ht, hO⟩ := H1.out
    generalize (w1.setCell ⟨m, 0, none⟩ (.int .i64 7)).setCell ⟨m, 6, none⟩ (.string ⟨#[b]⟩) = W at *
    have al : Below W.heap.size W (W.alloc (.cells #[.int .u8 (b.toNat : Int)] 5)) := (Below.refl _ _).alloc (Nat.le_refl _) _
    have h0 := Tch.of_below (base := base) (p := fun _ => False) al
    exact ⟨rfl, dd_of_b (s := ⟨⟨7, op, ek, et, ev, rs, ⟨#[b]⟩, q⟩, st, l⟩) ⟨s2.below al, hO.tch h0 (fun _ _ _ _ => id) (fun _ _ => id)⟩ (by simp), (HT.out.trans (ht.wide fun _ h => m_of_b (mo_of h))).trans (h0.wide fun _ h => h.elim)⟩

theorem BAt.below {w w' : World} {base m o ck : Nat} {s : Bs} {qp : Value} (h : BAt w base m o ck s qp) (hb : Below w.heap.size w w') : BAt w' base m o ck s qp :=
  ⟨h.mc.below hb, h.out.tch (p := fun _ => False) (Tch.of_below hb) (fun _ _ _ _ => id) (fun _ _ => id)⟩
theorem BAt.seta {w : World} {base m o ck : Nat} {s : Bs} {qp : Value} (h : BAt w base m o ck s qp) (a : Int) : BAt (w.setCell ⟨m, 0, none⟩ (.int .i64 a)) base m o ck { s with m := { s.m with a := a } } qp ∧ Tch base bObj w (w.setCell ⟨m, 0, none⟩ (.int .i64 a)) := by
  have ht := h.mc.touch 0 (.int .i64 a)
  exact ⟨⟨h.mc.set 0 (.int .i64 a) (fun ov => rfl) rfl, h.out.of_m (ht.wide fun _ => mo_of)⟩, ht.wide fun _ h => m_of_b (mo_of h)⟩
theorem BAt.open {w : World} {base m o ck : Nat} {s : Bs} {qp : Value} (h : BAt w base m o ck s qp) : ∃ A c, w.cell? ⟨m, 1, none⟩ = some (.slice A s.m.op.length c) ∧ w.cell? ⟨m, 0, none⟩ = some (.int .i64 s.m.a) ∧ w.frozen? ⟨m, 0, none⟩ = false ∧ m < w.heap.size := by
  obtain ⟨ov, hB, hR⟩ := h.mc.ex
  obtain ⟨A, c, rfl⟩ := hR.shape
  rw [List.length_map] at hB
  exact ⟨A, c, hB.cell 1, hB.cell 0, hB.frozen 0, hB.lt⟩

set_option maxHeartbeats 8000000 in
theorem behind_any (w : World) (base B m o ck : Nat) (s : Bs) (qp : Value) (b : UInt8) (h : BAt w base m o ck s qp) (ha8 : s.m.a ≠ 8) (hop : s.m.op.length ≤ 100000) (hg : Good s.st) (hl : s.l.length ≤ 1000000) (hw : SW base w) (hb : base ≤ w.heap.size) :
    Calls Tryz.prog 141 #[.pointer (some ⟨m, 0, none⟩), .int .u8 (b.toNat : Int), .pointer (some ⟨o, 0, none⟩)] w (DPo w base B m o ck (behindB s b)) := by
  obtain ⟨A, cp, c1, c0, f0, hml⟩ := h.open
  unfold behindB
  by_cases hne : s.m.op = []
  case pos =>
    rw [if_pos hne]
    have z : (s.m.op.length : Int) = 0 := by rw [hne]; rfl
    rw [hne] at c1
    have HF : Hid (DPo w base B m o ck ⟨s, 2⟩ (.returned (.int .i64 2)) w) := Lib.hid ⟨rfl, dd_of_b h ha8, Tch.refl _ _ _⟩
    clear h hg hl hw hne z
    go_enter Tryz.func141, Tryz.ntmps141
    go_wp2
    go_ret
    exact HF.out
  case neg =>
    rw [if_neg hne]
    have hlen : 0 < s.m.op.length := List.length_pos_iff.2 hne
    have z : ((s.m.op.length : Int) == 0) = false := by rw [beq_eq_false_iff_ne]; omega
    have hdr : Below w.heap.size w w.drew := below_drew (Below.refl _ _)
    have hdd : Below w.heap.size w w.drew.drew := below_drew hdr
    have hC := Lib.hid (closing_any w base m s.m qp h.mc hne)
    have hC2 := Lib.hid (closing_any w.drew base m s.m qp (h.mc.below hdr) hne)
    have hFi := Lib.hid (finish_any w.drew base m o ck s qp (h.below hdr) hne hg hl (hw.below (hdr.mono hb)) (Nat.le_trans hb hdr.size))
    have HD := Lib.hid (h.below hdd)
    have HDr := Lib.hid (h.below hdr)
    have htr := Lib.hid (Tch.of_below (base := base) (p := bObj) hdr)
    have htd := Lib.hid (Tch.of_below (base := base) (p := bObj) hdd)
    by_cases hbt : b = topB s.m.op
    case pos =>
      rw [if_pos hbt]
      have z2 : (((topB s.m.op).toNat : Int) == ((topB s.m.op).toNat : Int)) = true := by simp
      subst hbt
      have hfa : (finishB s).b.m.a ≠ 8 := by simp [finishB, tellB]
      generalize (topB s.m.op).toNat = tb at *
      clear h hg hl hw hne hdr hdd hC2 HD HDr htd
      go_enter Tryz.func141, Tryz.ntmps141
      go_wp2_with fail
      refine hC.out.mono ?_
      rintro e w1 ⟨rfl, rfl⟩
      go_wp2_with fail
      refine hFi.out.mono ?_
      intro e w5 hp
      have hq := hp.d (B := B) hfa
      have HF : Hid (DPo w base B m o ck (finishB s) e w5) := Lib.hid ⟨hq.1, hq.2.1, htr.out.trans hq.2.2⟩
      obtain ⟨rfl, _⟩ := hp
      clear hq
      go_wp2
      go_ret
      exact HF.out
    case neg =>
      rw [if_neg hbt]
      have z2 : ((b.toNat : Int) == ((topB s.m.op).toNat : Int)) = false := by
        rw [beq_eq_false_iff_ne]; intro e; exact hbt (UInt8.toNat_inj.1 (by omega))
      by_cases h44 : b.toNat = 44
      case neg =>
        rw [if_pos h44]
        have z3 : ((b.toNat : Int) != 44) = true := by rw [bne_iff_ne]; omega
        have HF : Hid (DPo w base B m o ck ⟨s, 2⟩ (.returned (.int .i64 2)) w.drew) := Lib.hid ⟨rfl, dd_of_b HDr.out ha8, htr.out⟩
        clear h hg hl hw hne hdr hdd hC2 HD HDr htd hFi hbt h44
        go_enter Tryz.func141, Tryz.ntmps141
        go_wp2_with fail
        refine hC.out.mono ?_
        rintro e w1 ⟨rfl, rfl⟩
        go_wp2
        go_ret
        exact HF.out
      case pos =>
        rw [if_neg (by omega)]
        have z3 : ((b.toNat : Int) != 44) = false := by rw [bne_eq_false_iff_eq]; omega
        obtain ⟨k3, t3⟩ := HD.out.seta 3
        obtain ⟨k0, t0⟩ := HD.out.seta 0
        have HF3 : Hid (DPo w base B m o ck ⟨{ s with m := { s.m with a := 3 } }, 0⟩ (.returned (.int .i64 0)) (w.drew.drew.setCell ⟨m, 0, none⟩ (.int .i64 3))) := Lib.hid ⟨rfl, dd_of_b k3 (by simp), htd.out.trans t3⟩
        have HF0 : Hid (DPo w base B m o ck ⟨{ s with m := { s.m with a := 0 } }, 0⟩ (.returned (.int .i64 0)) (w.drew.drew.setCell ⟨m, 0, none⟩ (.int .i64 0))) := Lib.hid ⟨rfl, dd_of_b k0 (by simp), htd.out.trans t0⟩
        clear h hg hl hw hne hdr hdd HD HDr htd htr hFi hbt h44 k3 t3 k0 t0
        by_cases h125 : (topB s.m.op).toNat = 125
        case pos =>
          rw [if_pos h125]
          rw [h125] at hC hC2 z2
          clear h125
          go_enter Tryz.func141, Tryz.ntmps141
          go_wp2_with fail
          refine hC.out.mono ?_
          rintro e w1 ⟨rfl, rfl⟩
          go_wp2_with fail
          refine hC2.out.mono ?_
          rintro e w1 ⟨rfl, rfl⟩
          go_wp2
          go_ret
          exact HF3.out
        case neg =>
          rw [if_neg h125]
          have z4 : (((topB s.m.op).toNat : Int) == 125) = false := by rw [beq_eq_false_iff_ne]; omega
          generalize (topB s.m.op).toNat = tb at *
          clear h125
          go_enter Tryz.func141, Tryz.ntmps141
          go_wp2_with fail
          refine hC.out.mono ?_
          rintro e w1 ⟨rfl, rfl⟩
          go_wp2_with fail
          refine hC2.out.mono ?_
          rintro e w1 ⟨rfl, rfl⟩
          go_wp2
          go_ret
          exact HF0.out
end Go.Proofs.YthhhmgkkklopfaaGreatDoor

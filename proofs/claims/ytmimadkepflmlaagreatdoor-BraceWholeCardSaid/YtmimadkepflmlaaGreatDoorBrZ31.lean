/-
  brace: value, behind, mark.
  brace: mark, a byte outside of words and strings, Step and End.
-/
import Derived.Test.YtmimadkepflmlaaGreatDoorBrZ30
namespace Go.Proofs.YtmimadkepflmlaaGreatDoor
open Go.RowKit Go.Maps
set_option maxRecDepth 100000
set_option linter.unusedSimpArgs false
set_option linter.unusedSectionVars false
variable [Tab] [Fo]

theorem nat_beq {a b : Nat} : ((a : Int) == (b : Int)) = decide (a = b) := by rw [Bool.eq_iff_iff]; simp; omega
theorem dd_of_b {w : World} {base B m o ck : Nat} {s : Bs} {qp : Value} (h : BAt w base m o ck s qp) (ha : s.m.a ≠ 8) : DAt w base B m o ck s := .inr ⟨ha, qp, h⟩

theorem BAt.below {w w' : World} {base m o ck : Nat} {s : Bs} {qp : Value} (h : BAt w base m o ck s qp) (hb : Below w.heap.size w w') : BAt w' base m o ck s qp :=
  ⟨h.mc.below hb, h.out.tch (p := fun _ => False) (Tch.of_below hb) (fun _ _ _ _ => id) (fun _ _ => id)⟩
theorem BAt.seta {w : World} {base m o ck : Nat} {s : Bs} {qp : Value} (h : BAt w base m o ck s qp) (a : Int) : BAt (w.setCell ⟨m, 0, none⟩ (.int .i64 a)) base m o ck { s with m := { s.m with a := a } } qp ∧ Tch base bObj w (w.setCell ⟨m, 0, none⟩ (.int .i64 a)) := by
  have ht := h.mc.touch 0 (.int .i64 a)
  exact ⟨⟨h.mc.set 0 (.int .i64 a) (fun ov => rfl) rfl, h.out.of_m (ht.wide fun _ => mo_of)⟩, ht.wide fun _ h => m_of_b (mo_of h)⟩
theorem BAt.open {w : World} {base m o ck : Nat} {s : Bs} {qp : Value} (h : BAt w base m o ck s qp) : ∃ A c, w.cell? ⟨m, 1, none⟩ = some (.slice A s.m.op.length c) ∧ w.cell? ⟨m, 0, none⟩ = some (.int .i64 s.m.a) ∧ w.frozen? ⟨m, 0, none⟩ = false ∧ m < w.heap.size := by
  obtain ⟨ov, hB, hR, _⟩ := h.mc.ex
  obtain ⟨A, c, rfl⟩ := hR.shape
  rw [List.length_map] at hB
  exact ⟨A, c, hB.cell 1, hB.cell 0, hB.frozen 0, hB.lt⟩

set_option maxHeartbeats 8000000 in
theorem value_any (w : World) (base B m o ck : Nat) (s : Bs) (qp : Value) (b : UInt8) (h : BAt w base m o ck s qp) (hBw : B ≤ w.heap.size) (ha8 : s.m.a ≠ 8) (hn : s.m.nm.size ≤ 1000) (hop : s.m.op.length ≤ 100000) (hg : Good s.st) (hl : s.l.length ≤ 1000000) (hw : SW base w) (hb : base ≤ w.heap.size) :
    Calls Tryz.prog 147 #[.pointer (some ⟨m, 0, none⟩), .int .u8 (b.toNat : Int), .pointer (some ⟨o, 0, none⟩)] w (DPo w base B m o ck (valueB s b)) := by
  have hL := fun (c : UInt8) (k a : Int) => begin_any w base m o ck s qp k c a h hop hg hl hw hb
  have hS := beginString_any w base B m o ck s qp 4 h hBw
  have hW := fun (k : Int) (t r : ByteArray) => beginWord_any w base m o ck s qp k t r h
  obtain ⟨ov0, hB0, _⟩ := h.mc.ex
  have hM := goes_any w m 6 s.m.nm b (hB0.cell 6) hB0.lt hn
  have hml0 := hB0.lt
  clear hB0
  unfold valueB
  by_cases h91 : b.toNat = 91
  case pos =>
    rw [if_pos h91]
    have z91 : ((b.toNat : Int) == 91) = true := by rw [h91]; rfl
    have H := Lib.hid (hL 93 5 1)
    clear hL hS hW hM h hw h91
    go_enter Tryz.func147, Tryz.ntmps147
    go_wp2_with fail
    refine H.out.mono ?_
    intro e w5 hp
    have hq := hp.d (B := B) (by simp [beginB, tellB])
    obtain ⟨rfl, _⟩ := hp
    go_wp2
    go_ret
    exact hq
  rw [if_neg h91]
  have z91 : ((b.toNat : Int) == 91) = false := by rw [beq_eq_false_iff_ne]; omega
  clear h91
  by_cases h123 : b.toNat = 123
  case pos =>
    rw [if_pos h123]
    have z123 : ((b.toNat : Int) == 123) = true := by rw [h123]; rfl
    have H := Lib.hid (hL 125 7 2)
    clear hL hS hW hM h hw h123
    go_enter Tryz.func147, Tryz.ntmps147
    go_wp2_with fail
    refine H.out.mono ?_
    intro e w5 hp
    have hq := hp.d (B := B) (by simp [beginB, tellB])
    obtain ⟨rfl, _⟩ := hp
    go_wp2
    go_ret
    exact hq
  rw [if_neg h123]
  have z123 : ((b.toNat : Int) == 123) = false := by rw [beq_eq_false_iff_ne]; omega
  clear h123
  by_cases h34 : b.toNat = 34
  case pos =>
    rw [if_pos h34]
    have z34 : ((b.toNat : Int) == 34) = true := by rw [h34]; rfl
    have H := Lib.hid hS
    clear hL hS hW hM h hw h34
    go_enter Tryz.func147, Tryz.ntmps147
    go_wp2_with fail
    refine H.out.mono ?_
    rintro e w5 ⟨rfl, hs5, ht5⟩
    have HF : Hid (DPo w base B m o ck (stringB s 4) (.returned (.int .i64 0)) w5) := Lib.hid ⟨rfl, .inl ⟨rfl, hs5⟩, ht5⟩
    clear hs5 ht5 H
    go_wp2
    go_ret
    exact HF.out
  rw [if_neg h34]
  have z34 : ((b.toNat : Int) == 34) = false := by rw [beq_eq_false_iff_ne]; omega
  clear h34
  by_cases h110 : b.toNat = 110
  case pos =>
    rw [if_pos h110]
    have z110 : ((b.toNat : Int) == 110) = true := by rw [h110]; rfl
    have H := Lib.hid (hW 1 ⟨#[]⟩ ⟨#[117, 108, 108]⟩)
    clear hL hS hW hM h hw h110
    go_enter Tryz.func147, Tryz.ntmps147
    go_wp2_with fail
    refine H.out.mono ?_
    rintro e w5 ⟨rfl, hs5, ht5⟩
    have HF : Hid (DPo w base B m o ck (wordB s 1 ⟨#[]⟩ ⟨#[117, 108, 108]⟩) (.returned (.int .i64 0)) w5) := Lib.hid ⟨rfl, dd_of_b hs5 (by simp [wordB]), ht5⟩
    clear hs5 ht5 H
    go_wp2
    go_ret
    exact HF.out
  rw [if_neg h110]
  have z110 : ((b.toNat : Int) == 110) = false := by rw [beq_eq_false_iff_ne]; omega
  clear h110
  by_cases h116 : b.toNat = 116
  case pos =>
    rw [if_pos h116]
    have z116 : ((b.toNat : Int) == 116) = true := by rw [h116]; rfl
    have H := Lib.hid (hW 2 ⟨#[116, 114, 117, 101]⟩ ⟨#[114, 117, 101]⟩)
    clear hL hS hW hM h hw h116
    go_enter Tryz.func147, Tryz.ntmps147
    go_wp2_with fail
    refine H.out.mono ?_
    rintro e w5 ⟨rfl, hs5, ht5⟩
    have HF : Hid (DPo w base B m o ck (wordB s 2 ⟨#[116, 114, 117, 101]⟩ ⟨#[114, 117, 101]⟩) (.returned (.int .i64 0)) w5) := Lib.hid ⟨rfl, dd_of_b hs5 (by simp [wordB]), ht5⟩
    clear hs5 ht5 H
    go_wp2
    go_ret
    exact HF.out
  rw [if_neg h116]
  have z116 : ((b.toNat : Int) == 116) = false := by rw [beq_eq_false_iff_ne]; omega
  clear h116
  by_cases h102 : b.toNat = 102
  case pos =>
    rw [if_pos h102]
    have z102 : ((b.toNat : Int) == 102) = true := by rw [h102]; rfl
    have H := Lib.hid (hW 2 ⟨#[102, 97, 108, 115, 101]⟩ ⟨#[97, 108, 115, 101]⟩)
    clear hL hS hW hM h hw h102
    go_enter Tryz.func147, Tryz.ntmps147
    go_wp2_with fail
    refine H.out.mono ?_
    rintro e w5 ⟨rfl, hs5, ht5⟩
    have HF : Hid (DPo w base B m o ck (wordB s 2 ⟨#[102, 97, 108, 115, 101]⟩ ⟨#[97, 108, 115, 101]⟩) (.returned (.int .i64 0)) w5) := Lib.hid ⟨rfl, dd_of_b hs5 (by simp [wordB]), ht5⟩
    clear hs5 ht5 H
    go_wp2
    go_ret
    exact HF.out
  rw [if_neg h102]
  have z102 : ((b.toNat : Int) == 102) = false := by rw [beq_eq_false_iff_ne]; omega
  clear h102
  cases hmb : mayB1 s.m.nm b with
  | false =>
    rw [if_pos rfl]
    rw [hmb] at hM
    have HM := Lib.hid hM
    have HH := Lib.hid h
    clear hL hS hW hM h hw hmb
    go_enter Tryz.func147, Tryz.ntmps147
    go_wp2_with fail
    refine HM.out.mono ?_
    rintro e w1 ⟨rfl, hb1⟩
    have h1 : BAt w1 base m o ck s qp := ⟨HH.out.mc.below hb1, HH.out.out.tch (p := fun _ => False) (Tch.of_below hb1) (fun _ _ _ _ => id) (fun _ _ => id)⟩
    have HF : Hid (DPo w base B m o ck ⟨s, 2⟩ (.returned (.int .i64 2)) w1) := Lib.hid ⟨rfl, dd_of_b h1 ha8, Tch.of_below hb1⟩
    clear h1 hb1 HM HH
    go_wp2
    go_ret
    exact HF.out
  | true =>
    rw [if_neg (by decide)]
    rw [hmb] at hM
    have HM := Lib.hid hM
    have HH := Lib.hid h
    have hda : (digitB { s with m := { s.m with a := 7 } } b).b.m.a ≠ 8 := by unfold digitB; split <;> simp
    clear hL hS hW hM h hw hmb
    go_enter Tryz.func147, Tryz.ntmps147
    go_wp2_with fail
    refine HM.out.mono ?_
    rintro e w1 ⟨rfl, hb1⟩
    have h1 := HH.out.below hb1
    have HT := Lib.hid (Tch.of_below (base := base) (p := bObj) hb1)
    obtain ⟨h2, t2⟩ := h1.seta 7
    obtain ⟨A, c, _, d0, f0, hml⟩ := h1.open
    have HD := Lib.hid (digit_anyB _ base m o ck _ qp b h2 hn)
    have HT2 := Lib.hid t2
    clear h1 h2 t2 hb1 HM HH
    go_wp2_with fail
    refine HD.out.mono ?_
    intro e w5 hp
    have hq := hp.d (B := B) hda
    have HF := Lib.hid (show DPo w base B m o ck _ e w5 from ⟨hq.1, hq.2.1, HT.out.trans (HT2.out.trans hq.2.2)⟩)
    have he := hp.1
    clear hp hq
    subst he
    go_wp2
    go_ret
    exact HF.out

set_option maxHeartbeats 8000000 in
theorem behind_any (w : World) (base B m o ck : Nat) (s : Bs) (qp : Value) (b : UInt8) (h : BAt w base m o ck s qp) (ha8 : s.m.a ≠ 8) (hop : s.m.op.length ≤ 100000) (hg : Good s.st) (hl : s.l.length ≤ 1000000) (hw : SW base w) (hb : base ≤ w.heap.size) :
    Calls Tryz.prog 148 #[.pointer (some ⟨m, 0, none⟩), .int .u8 (b.toNat : Int), .pointer (some ⟨o, 0, none⟩)] w (DPo w base B m o ck (behindB s b)) := by
  obtain ⟨A, cp, c1, c0, f0, hml⟩ := h.open
  unfold behindB
  by_cases hne : s.m.op = []
  case pos =>
    rw [if_pos hne]
    have z : (s.m.op.length : Int) = 0 := by rw [hne]; rfl
    rw [hne] at c1
    have HF : Hid (DPo w base B m o ck ⟨s, 2⟩ (.returned (.int .i64 2)) w) := Lib.hid ⟨rfl, dd_of_b h ha8, Tch.refl _ _ _⟩
    clear h hg hl hw hne z
    go_enter Tryz.func148, Tryz.ntmps148
    go_wp2
    go_ret
    exact HF.out
  case neg =>
    rw [if_neg hne]
    have hlen : 0 < s.m.op.length := List.length_pos_iff.2 hne
    have z : ((s.m.op.length : Int) == 0) = false := by rw [beq_eq_false_iff_ne]; omega
    have hdr : Below w.heap.size w w.drew := below_drew (Below.refl _ _)
    have hdd : Below w.heap.size w w.drew.drew := below_drew hdr
    have hC := Lib.hid (closing_any w base m s.m qp h.mc hne)
    have hC2 := Lib.hid (closing_any w.drew base m s.m qp (h.mc.below hdr) hne)
    have hFi := Lib.hid (finish_any w.drew base m o ck s qp (h.below hdr) hne hg hl (hw.below (hdr.mono hb)) (Nat.le_trans hb hdr.size))
    have HD := Lib.hid (h.below hdd)
    have HDr := Lib.hid (h.below hdr)
    have htr := Lib.hid (Tch.of_below (base := base) (p := bObj) hdr)
    have htd := Lib.hid (Tch.of_below (base := base) (p := bObj) hdd)
    by_cases hbt : b = topB s.m.op
    case pos =>
      rw [if_pos hbt]
      have z2 : (((topB s.m.op).toNat : Int) == ((topB s.m.op).toNat : Int)) = true := by simp
      subst hbt
      have hfa : (finishB s).b.m.a ≠ 8 := by simp [finishB, tellB]
      generalize (topB s.m.op).toNat = tb at *
      clear h hg hl hw hne hdr hdd hC2 HD HDr htd
      go_enter Tryz.func148, Tryz.ntmps148
      go_wp2_with fail
      refine hC.out.mono ?_
      rintro e w1 ⟨rfl, rfl⟩
      go_wp2_with fail
      refine hFi.out.mono ?_
      intro e w5 hp
      have hq := hp.d (B := B) hfa
      have HF : Hid (DPo w base B m o ck (finishB s) e w5) := Lib.hid ⟨hq.1, hq.2.1, htr.out.trans hq.2.2⟩
      obtain ⟨rfl, _⟩ := hp
      clear hq
      go_wp2
      go_ret
      exact HF.out
    case neg =>
      rw [if_neg hbt]
      have z2 : ((b.toNat : Int) == ((topB s.m.op).toNat : Int)) = false := by
        rw [beq_eq_false_iff_ne]; intro e; exact hbt (UInt8.toNat_inj.1 (by omega))
      by_cases h44 : b.toNat = 44
      case neg =>
        rw [if_pos h44]
        have z3 : ((b.toNat : Int) != 44) = true := by rw [bne_iff_ne]; omega
        have HF : Hid (DPo w base B m o ck ⟨s, 2⟩ (.returned (.int .i64 2)) w.drew) := Lib.hid ⟨rfl, dd_of_b HDr.out ha8, htr.out⟩
        clear h hg hl hw hne hdr hdd hC2 HD HDr htd hFi hbt h44
        go_enter Tryz.func148, Tryz.ntmps148
        go_wp2_with fail
        refine hC.out.mono ?_
        rintro e w1 ⟨rfl, rfl⟩
        go_wp2
        go_ret
        exact HF.out
      case pos =>
        rw [if_neg (by omega)]
        have z3 : ((b.toNat : Int) != 44) = false := by rw [bne_eq_false_iff_eq]; omega
        obtain ⟨k3, t3⟩ := HD.out.seta 3
        obtain ⟨k0, t0⟩ := HD.out.seta 0
        have HF3 : Hid (DPo w base B m o ck ⟨{ s with m := { s.m with a := 3 } }, 0⟩ (.returned (.int .i64 0)) (w.drew.drew.setCell ⟨m, 0, none⟩ (.int .i64 3))) := Lib.hid ⟨rfl, dd_of_b k3 (by simp), htd.out.trans t3⟩
        have HF0 : Hid (DPo w base B m o ck ⟨{ s with m := { s.m with a := 0 } }, 0⟩ (.returned (.int .i64 0)) (w.drew.drew.setCell ⟨m, 0, none⟩ (.int .i64 0))) := Lib.hid ⟨rfl, dd_of_b k0 (by simp), htd.out.trans t0⟩
        clear h hg hl hw hne hdr hdd HD HDr htd htr hFi hbt h44 k3 t3 k0 t0
        by_cases h125 : (topB s.m.op).toNat = 125
        case pos =>
          rw [if_pos h125]
          rw [h125] at hC hC2 z2
          clear h125
          go_enter Tryz.func148, Tryz.ntmps148
          go_wp2_with fail
          refine hC.out.mono ?_
          rintro e w1 ⟨rfl, rfl⟩
          go_wp2_with fail
          refine hC2.out.mono ?_
          rintro e w1 ⟨rfl, rfl⟩
          go_wp2
          go_ret
          exact HF3.out
        case neg =>
          rw [if_neg h125]
          have z4 : (((topB s.m.op).toNat : Int) == 125) = false := by rw [beq_eq_false_iff_ne]; omega
          generalize (topB s.m.op).toNat = tb at *
          clear h125
          go_enter Tryz.func148, Tryz.ntmps148
          go_wp2_with fail
          refine hC.out.mono ?_
          rintro e w1 ⟨rfl, rfl⟩
          go_wp2_with fail
          refine hC2.out.mono ?_
          rintro e w1 ⟨rfl, rfl⟩
          go_wp2
          go_ret
          exact HF0.out
end Go.Proofs.YtmimadkepflmlaaGreatDoor
namespace Go.Proofs.YtmimadkepflmlaaGreatDoor
open Go.RowKit Go.Maps
set_option maxRecDepth 100000
set_option linter.unusedSimpArgs false
set_option linter.unusedSectionVars false
variable [Tab] [Fo]

theorem dpo_here {w : World} {base B m o ck : Nat} {s : Bs} {qp : Value} (h : BAt w base m o ck s qp) (ha : s.m.a ≠ 8) (e : Int) : DPo w base B m o ck ⟨s, e⟩ (.returned (.int .i64 e)) w := ⟨rfl, dd_of_b h ha, Tch.refl _ _ _⟩
theorem ub_t {b : UInt8} {n : Nat} (h : b.toNat = n) : ((b.toNat : Int) == (n : Int)) = true := by rw [h]; simp
theorem ub_f {b : UInt8} {n : Nat} (h : ¬ b.toNat = n) : ((b.toNat : Int) == (n : Int)) = false := by rw [beq_eq_false_iff_ne]; omega

set_option maxHeartbeats 16000000 in
theorem mark_any (w : World) (base B m o ck : Nat) (s : Bs) (qp : Value) (b : UInt8) (h : BAt w base m o ck s qp) (hBw : B ≤ w.heap.size) (h5 : 0 ≤ s.m.a ∧ s.m.a ≤ 5) (hne : s.m.a = 1 ∨ s.m.a = 2 → s.m.op ≠ []) (hnm : s.m.nm.size ≤ 1000) (hop : s.m.op.length ≤ 100000) (hg : Good s.st) (hl : s.l.length ≤ 1000000) (hw : SW base w) (hb : base ≤ w.heap.size) :
    Calls Tryz.prog 141 #[.pointer (some ⟨m, 0, none⟩), .int .u8 (b.toNat : Int), .pointer (some ⟨o, 0, none⟩)] w (DPo w base B m o ck (markB s b)) := by
  obtain ⟨A, cp, c1, c0, f0, hml⟩ := h.open
  have hVal := fun ha => value_any w base B m o ck s qp b h hBw ha hnm hop hg hl hw hb
  have hBeh := fun ha => behind_any w base B m o ck s qp b h ha hop hg hl hw hb
  have hFin := fun hn => finish_any w base m o ck s qp h hn hg hl hw hb
  have hStr := beginString_any w base B m o ck s qp 8 h hBw
  have hHere := fun ha e => dpo_here (B := B) h ha e
  have hSet := h.seta 0
  obtain ⟨⟨a, op, ek, et, ev, rs, nm, q⟩, st, l⟩ := s
  simp only at h5 hne c0 c1 hVal hBeh hFin hHere hSet
  unfold markB
  simp only
  have ha : a = 0 ∨ a = 1 ∨ a = 2 ∨ a = 3 ∨ a = 4 ∨ a = 5 := by omega
  clear h5 h hnm hop hg hl hw
  rcases ha with rfl | rfl | rfl | rfl | rfl | rfl
  · rw [if_neg (by simp), if_neg (by simp), if_neg (by simp), if_pos (by simp)]
    have HC := Lib.hid (hVal (by decide))
    clear hHere hVal hBeh hFin hStr hSet hne
    go_enter Tryz.func141, Tryz.ntmps141
    go_wp2_with fail
    refine HC.out.mono ?_
    intro e w5 hp
    have HF := Lib.hid hp
    obtain ⟨rfl, _⟩ := hp
    go_wp2
    go_ret
    exact HF.out
  · by_cases hbv : b.toNat = 93
    · have z := ub_t hbv
      rw [if_neg (by simp), if_pos (by simp [hbv])]
      clear hbv
      have HC := Lib.hid (hFin (hne (by decide)))
      clear hHere hVal hBeh hFin hStr hSet hne
      go_enter Tryz.func141, Tryz.ntmps141
      go_wp2_with fail
      refine HC.out.mono ?_
      intro e w5 hp
      have HF := Lib.hid (hp.d (B := B) (by simp [finishB, tellB]))
      obtain ⟨rfl, _⟩ := hp
      go_wp2
      go_ret
      exact HF.out
    · have z := ub_f hbv
      rw [if_neg (by simp), if_neg (by simp [hbv]), if_neg (by simp), if_pos (by simp)]
      clear hbv
      have HC := Lib.hid (hVal (by decide))
      clear hHere hVal hBeh hFin hStr hSet hne
      go_enter Tryz.func141, Tryz.ntmps141
      go_wp2_with fail
      refine HC.out.mono ?_
      intro e w5 hp
      have HF := Lib.hid hp
      obtain ⟨rfl, _⟩ := hp
      go_wp2
      go_ret
      exact HF.out
  · by_cases hbv : b.toNat = 125
    · have z := ub_t hbv
      rw [if_neg (by simp), if_pos (by simp [hbv])]
      clear hbv
      have HC := Lib.hid (hFin (hne (by decide)))
      clear hHere hVal hBeh hFin hStr hSet hne
      go_enter Tryz.func141, Tryz.ntmps141
      go_wp2_with fail
      refine HC.out.mono ?_
      intro e w5 hp
      have HF := Lib.hid (hp.d (B := B) (by simp [finishB, tellB]))
      obtain ⟨rfl, _⟩ := hp
      go_wp2
      go_ret
      exact HF.out
    · have z := ub_f hbv
      by_cases h34 : b.toNat = 34
      · have z2 := ub_t h34
        rw [if_neg (by simp), if_neg (by simp [hbv]), if_pos (by simp [h34])]
        clear hbv h34
        have HC := Lib.hid hStr
        clear hHere hVal hBeh hFin hStr hSet hne
        go_enter Tryz.func141, Tryz.ntmps141
        go_wp2_with fail
        refine HC.out.mono ?_
        rintro e w5 ⟨rfl, hs5, ht5⟩
        have HF : Hid (DPo w base B m o ck (stringB _ 8) (.returned (.int .i64 0)) w5) := Lib.hid ⟨rfl, .inl ⟨rfl, hs5⟩, ht5⟩
        clear hs5 ht5
        go_wp2
        go_ret
        exact HF.out
      · have z2 := ub_f h34
        rw [if_neg (by simp), if_neg (by simp [hbv]), if_neg (by simp [h34]), if_neg (by simp), if_neg (by simp)]
        clear hbv h34
        have HF := Lib.hid (hHere (by decide) 2)
        clear hHere hVal hBeh hFin hStr hSet hne
        go_enter Tryz.func141, Tryz.ntmps141
        go_wp2
        go_ret
        exact HF.out
  · by_cases h34 : b.toNat = 34
    · have z2 := ub_t h34
      rw [if_neg (by simp), if_neg (by simp), if_pos (by simp [h34])]
      clear h34
      have HC := Lib.hid hStr
      clear hHere hVal hBeh hFin hStr hSet hne
      go_enter Tryz.func141, Tryz.ntmps141
      go_wp2_with fail
      refine HC.out.mono ?_
      rintro e w5 ⟨rfl, hs5, ht5⟩
      have HF : Hid (DPo w base B m o ck (stringB _ 8) (.returned (.int .i64 0)) w5) := Lib.hid ⟨rfl, .inl ⟨rfl, hs5⟩, ht5⟩
      clear hs5 ht5
      go_wp2
      go_ret
      exact HF.out
    · have z2 := ub_f h34
      rw [if_neg (by simp), if_neg (by simp), if_neg (by simp [h34]), if_neg (by simp), if_neg (by simp)]
      clear h34
      have HF := Lib.hid (hHere (by decide) 2)
      clear hHere hVal hBeh hFin hStr hSet hne
      go_enter Tryz.func141, Tryz.ntmps141
      go_wp2
      go_ret
      exact HF.out
  · by_cases hbv : b.toNat = 58
    · have z := ub_t hbv
      rw [if_pos (by simp [hbv])]
      clear hbv
      have HF : Hid (DPo w base B m o ck ⟨⟨⟨0, op, ek, et, ev, rs, nm, q⟩, st, l⟩, 0⟩ (.returned (.int .i64 0)) (w.setCell ⟨m, 0, none⟩ (.int .i64 0))) := Lib.hid ⟨rfl, dd_of_b hSet.1 (by simp), hSet.2⟩
      clear hHere hVal hBeh hFin hStr hSet hne
      go_enter Tryz.func141, Tryz.ntmps141
      go_wp2
      go_ret
      exact HF.out
    · have z := ub_f hbv
      rw [if_neg (by simp [hbv]), if_neg (by simp), if_neg (by simp), if_neg (by simp), if_neg (by simp)]
      clear hbv
      have HF := Lib.hid (hHere (by decide) 2)
      clear hHere hVal hBeh hFin hStr hSet hne
      go_enter Tryz.func141, Tryz.ntmps141
      go_wp2
      go_ret
      exact HF.out
  · rw [if_neg (by simp), if_neg (by simp), if_neg (by simp), if_neg (by simp), if_pos (by simp)]
    have HC := Lib.hid (hBeh (by decide))
    clear hHere hVal hBeh hFin hStr hSet hne
    go_enter Tryz.func141, Tryz.ntmps141
    go_wp2_with fail
    refine HC.out.mono ?_
    intro e w5 hp
    have HF := Lib.hid hp
    obtain ⟨rfl, _⟩ := hp
    go_wp2
    go_ret
    exact HF.out
end Go.Proofs.YtmimadkepflmlaaGreatDoor

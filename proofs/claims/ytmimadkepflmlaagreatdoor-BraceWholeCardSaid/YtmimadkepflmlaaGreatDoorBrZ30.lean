/-
  brace: words and numbers.
  brace: where a word and a string begin.
-/
import Derived.Test.YtmimadkepflmlaaGreatDoorBrZ29
namespace Go.Proofs.YtmimadkepflmlaaGreatDoor
open Go.RowKit Go.Maps
set_option maxRecDepth 100000
set_option linter.unusedSimpArgs false
set_option linter.unusedSectionVars false
variable [Tab] [Fo]

set_option maxHeartbeats 4000000 in
theorem letter_any (w : World) (base m o ck : Nat) (s : Bs) (qp : Value) (b : UInt8) (h : BAt w base m o ck s qp) (hrs : 0 < s.m.rs.size) (hr4 : s.m.rs.size ≤ 4) (het : s.m.et.size ≤ 48) (hg : Good s.st) (hl : s.l.length ≤ 1000000) (hw : SW base w) (hb : base ≤ w.heap.size) :
    Calls Tryz.prog 136 #[.pointer (some ⟨m, 0, none⟩), .int .u8 (b.toNat : Int), .pointer (some ⟨o, 0, none⟩)] w (BPo w base m o ck qp (letterB s b)) := by
  obtain ⟨⟨a, op, ek, et, ev, rs, nm, q⟩, st, l⟩ := s
  simp only at hrs hr4 het hg hl
  obtain ⟨ov, hB, hR, _⟩ := h.mc.ex
  have c5 : w.cell? ⟨m, 5, none⟩ = some (.string rs) := hB.cell 5
  have f5 := hB.frozen 5
  have f0 := hB.frozen 0
  have c0 : w.cell? ⟨m, 0, none⟩ = some (.int .i64 a) := hB.cell 0
  have hml := hB.lt
  have hhd : rs.data.toList.head? = some rs[0] := by
    rw [List.head?_eq_getElem?, Array.getElem?_toList, Array.getElem?_eq_getElem]
    rfl
  unfold letterB
  simp only [hhd]
  by_cases hbr : rs[0] = b
  case neg =>
    have z1 : ((b.toNat : Int) != (rs[0].toNat : Int)) = true := by
      rw [bne_iff_ne]; intro e; exact hbr (UInt8.toNat_inj.1 (by omega))
    rw [if_neg (by simpa using hbr)]
    have HH := Lib.hid h
    clear h hB hR hhd hbr
    go_enter Tryz.func136, Tryz.ntmps136
    go_wp2
    go_ret
    exact ⟨rfl, HH.out, Tch.refl _ _ _⟩
  case pos =>
    rw [if_pos (by rw [hbr])]
    have z1 : ((b.toNat : Int) != (rs[0].toNat : Int)) = false := by rw [hbr]; simp
    have hsz : (rs.extract 1 rs.size).size = rs.size - 1 := by simp [ByteArray.size_extract]
    have hM1 := h.mc.set 5 (.string (rs.extract 1 rs.size)) (M' := ⟨a, op, ek, et, ev, rs.extract 1 rs.size, nm, q⟩) (qp' := qp) (fun ov => rfl) rfl
    have ht1 := (h.mc.touch 5 (.string (rs.extract 1 rs.size))).wide fun _ => mo_of
    by_cases h1 : rs.size = 1
    case neg =>
      rw [if_neg h1]
      have he : (rs.extract 1 rs.size).toList.isEmpty = false := by
        rw [Bool.eq_false_iff]
        intro e
        have h3 := List.isEmpty_iff.1 e
        have h4 : (rs.extract 1 rs.size).size = 0 := by
          have h5 := congrArg List.length h3
          rw [Lib.toList_data, Array.length_toList] at h5
          exact h5
        omega
      have hO := h.out.of_m ht1
      have HF := Lib.hid (And.intro (BAt.mk hM1 hO : BAt _ base m o ck ⟨⟨a, op, ek, et, ev, rs.extract 1 rs.size, nm, q⟩, st, l⟩ qp) (ht1.wide fun _ => m_of_b))
      clear h hB hR hhd hbr hM1 ht1 hO hg hw hsz h1
      go_enter Tryz.func136, Tryz.ntmps136
      go_wp2
      go_ret
      exact ⟨rfl, HF.out.1, HF.out.2⟩
    case pos =>
      rw [if_pos h1]
      have he : (rs.extract 1 rs.size).toList.isEmpty = true := by
        rw [List.isEmpty_iff]
        apply List.eq_nil_of_length_eq_zero
        rw [Lib.toList_data, Array.length_toList]
        show (rs.extract 1 rs.size).size = 0
        omega
      have c2 : w.cell? ⟨m, 2, none⟩ = some (.int .i64 ek) := hB.cell 2
      have c3 : w.cell? ⟨m, 3, none⟩ = some (.string et) := hB.cell 3
      have c4 : w.cell? ⟨m, 4, none⟩ = some (.string ev) := hB.cell 4
      have hM2 := hM1.set 0 (.int .i64 5) (M' := ⟨5, op, ek, et, ev, rs.extract 1 rs.size, nm, q⟩) (qp' := qp) (fun ov => rfl) rfl
      have ht2 := ht1.trans ((hM1.touch 0 (.int .i64 5)).wide fun _ => mo_of)
      have HT := Lib.hid (tell_any _ base o ck st l ⟨ek, et, ev⟩ (h.out.of_m ht2) hg (hw.tch ht2 hb).std (by simp only; omega) hl (Nat.le_trans hb ht2.size))
      have HF := Lib.hid (fun e w' (hp : TellPost _ base o ck st l ⟨ek, et, ev⟩ e w') => told (s := ⟨⟨a, op, ek, et, ev, rs, nm, q⟩, st, l⟩) (x := ⟨ek, et, ev⟩) hM2 hp ht2)
      clear h hB hR hhd hbr hM1 ht1 hM2 ht2 hg hw hsz h1
      go_enter Tryz.func136, Tryz.ntmps136
      go_wp2_with fail
      refine HT.out.mono ?_
      intro e w5 hp
      have hq := HF.out e w5 hp
      obtain ⟨rfl, _⟩ := hp
      go_wp2
      go_ret
      exact hq

theorem digit_anyB (w : World) (base m o ck : Nat) (s : Bs) (qp : Value) (b : UInt8) (h : BAt w base m o ck s qp) (hn : s.m.nm.size ≤ 1000) :
    Calls Tryz.prog 139 #[.pointer (some ⟨m, 6, none⟩), .int .u8 (b.toNat : Int)] w (BPo w base m o ck qp (digitB s b)) := by
  obtain ⟨⟨a, op, ek, et, ev, rs, nm, q⟩, st, l⟩ := s
  simp only at hn
  obtain ⟨ov, hB, hR, _⟩ := h.mc.ex
  have hT := tadd_any w m 6 nm b (hB.cell 6) (hB.frozen 6) hB.lt hn
  unfold digitB
  simp only
  refine hT.mono ?_
  intro e w1 hp
  by_cases h30 : 30 ≤ nm.size
  · rw [if_pos h30] at hp ⊢
    obtain ⟨rfl, rfl⟩ := hp
    exact ⟨rfl, h, Tch.refl _ _ _⟩
  · rw [if_neg h30] at hp ⊢
    obtain ⟨rfl, al⟩ := hp
    have hM0 := h.mc.set 6 (.string (nm ++ ⟨#[b]⟩)) (M' := ⟨a, op, ek, et, ev, rs, nm ++ ⟨#[b]⟩, q⟩) (qp' := qp) (fun ov => rfl) rfl
    have ht0 := (h.mc.touch 6 (.string (nm ++ ⟨#[b]⟩))).wide fun _ => mo_of
    have ht1 := ht0.trans (Tch.of_below (base := base) (p := mObj) al)
    exact ⟨rfl, ⟨hM0.below al, h.out.of_m ht1⟩, ht1.wide fun _ => m_of_b⟩

set_option maxHeartbeats 4000000 in
theorem endNum_any (w : World) (base m o ck : Nat) (s : Bs) (qp : Value) (h : BAt w base m o ck s qp) (hn : s.m.nm.size ≤ 1000) (hg : Good s.st) (hl : s.l.length ≤ 1000000) (hw : SW base w) (hb : base ≤ w.heap.size) :
    Calls Tryz.prog 135 #[.pointer (some ⟨m, 0, none⟩), .pointer (some ⟨o, 0, none⟩)] w (BPo w base m o ck qp (endNumB s)) := by
  obtain ⟨⟨a, op, ek, et, ev, rs, nm, q⟩, st, l⟩ := s
  simp only at hn hg hl
  obtain ⟨ov, hB, hR, _⟩ := h.mc.ex
  have hml := hB.lt
  have hM0 := h.mc.set 6 (.string ⟨#[]⟩) (M' := ⟨a, op, ek, et, ev, rs, ⟨#[]⟩, q⟩) (qp' := qp) (fun ov => rfl) rfl
  have ht0 := (h.mc.touch 6 (.string ⟨#[]⟩)).wide fun _ => mo_of
  have hb0 := Nat.le_trans hb ht0.size
  have hEnd := tend_any w m 6 nm (hB.cell 6) (hB.frozen 6) hB.lt hn (hw.tch ht0 hb).std
  unfold endNumB
  simp only
  have hsz : (endS nm).size ≤ 1000 := Nat.le_trans (endS_size _) (by decide)
  generalize endC nm = c at *
  generalize endS nm = f at *
  have HE := Lib.hid hEnd
  have HM := Lib.hid hM0
  have HO := Lib.hid (h.out.of_m ht0)
  have HT0 := Lib.hid ht0
  have HSW := Lib.hid (hw.tch ht0 hb)
  clear hEnd hM0 ht0 h hB hR hw
  by_cases hc : c = 0
  case neg =>
    rw [if_pos hc]
    have z1 : (c == 0) = false := by rw [beq_eq_false_iff_ne]; exact hc
    have z2 : (c != 0) = true := by simp [bne, z1]
    clear hc
    go_enter Tryz.func135, Tryz.ntmps135
    go_wp2_with fail
    refine HE.out.mono ?_
    rintro e w1 ⟨rfl, hb1⟩
    have HF : Hid (BAt w1 base m o ck ⟨⟨a, op, ek, et, ev, rs, ⟨#[]⟩, q⟩, st, l⟩ qp) := Lib.hid ⟨HM.out.below hb1, HO.out.tch (p := fun _ => False) (Tch.of_below hb1) (fun _ _ _ _ => id) (fun _ _ => id)⟩
    have HT := Lib.hid ((HT0.out.wide fun _ => m_of_b).trans (Tch.of_below (base := base) (p := bObj) hb1))
    clear hb1 HE
    go_wp2
    go_ret
    exact ⟨rfl, HF.out, HT.out⟩
  case pos =>
    subst hc
    rw [if_neg (by simp)]
    go_enter Tryz.func135, Tryz.ntmps135
    go_wp2_with fail
    refine HE.out.mono ?_
    rintro e w1 ⟨rfl, hb1⟩
    have hM1 := HM.out.below hb1
    have ht0 := HT0.out.trans (Tch.of_below (base := base) (p := mObj) hb1)
    have hO1 := HO.out.of_m (Tch.of_below (base := base) (p := mObj) hb1)
    have hM2 := hM1.set 0 (.int .i64 5) (M' := ⟨5, op, ek, et, ev, rs, ⟨#[]⟩, q⟩) (qp' := qp) (fun ov => rfl) rfl
    have ht2 := (hM1.touch 0 (.int .i64 5)).wide fun _ => mo_of
    have hb2 : base ≤ w1.heap.size := Nat.le_trans hb0 hb1.size
    have HT := Lib.hid (tell_any _ base o ck st l ⟨3, f, ⟨#[]⟩⟩ (hO1.of_m ht2) hg ((HSW.out.below (hb1.mono hb0)).tch ht2 hb2).std (by simp only; omega) hl (Nat.le_trans hb2 ht2.size))
    have HF := Lib.hid (fun e w' (hp : TellPost _ base o ck st l ⟨3, f, ⟨#[]⟩⟩ e w') => told (s := ⟨⟨a, op, ek, et, ev, rs, nm, q⟩, st, l⟩) (x := ⟨3, f, ⟨#[]⟩⟩) hM2 hp (ht0.trans ht2))
    obtain ⟨ov, hB, _⟩ := hM1.ex
    have f0 := hB.frozen 0
    have c0 : w1.cell? ⟨m, 0, none⟩ = some (.int .i64 a) := hB.cell 0
    have hml1 := hB.lt
    clear hB hM1 ht0 hO1 hM2 ht2 hb1 HE HM HO HT0 HSW
    go_wp2_with fail
    refine HT.out.mono ?_
    intro e w5 hp
    have hq := HF.out e w5 hp
    obtain ⟨rfl, _⟩ := hp
    go_wp2
    go_ret
    exact hq
end Go.Proofs.YtmimadkepflmlaaGreatDoor
namespace Go.Proofs.YtmimadkepflmlaaGreatDoor
open Go.RowKit Go.Maps
set_option maxRecDepth 100000
set_option linter.unusedSimpArgs false
set_option linter.unusedSectionVars false
variable [Tab] [Fo]

/-- Within a string: all but the string lies as it lay when the string was begun. -/
def SAt (w : World) (base B m o ck : Nat) (s : Bs) : Prop :=
  ∃ w0 g, MAt w0 base m s.m (.pointer (some ⟨g, 0, none⟩)) ∧ OAt w0 base o ck s.st s.l ∧ w0.heap.size = g ∧ Tch base ssObj w0 w ∧ Qt.QAt w g s.m.q ∧ B ≤ g
def DAt (w : World) (base B m o ck : Nat) (s : Bs) : Prop := (s.m.a = 8 ∧ SAt w base B m o ck s) ∨ (s.m.a ≠ 8 ∧ ∃ qp, BAt w base m o ck s qp)
def DPo (w : World) (base B m o ck : Nat) (r : Br) (e : Ending) (w' : World) : Prop :=
  e = .returned (.int .i64 r.e) ∧ DAt w' base B m o ck r.b ∧ Tch base bObj w w'
theorem BPo.d {w w' : World} {base B m o ck : Nat} {qp : Value} {r : Br} {e : Ending} (h : BPo w base m o ck qp r e w') (ha : r.b.m.a ≠ 8) : DPo w base B m o ck r e w' := ⟨h.1, .inr ⟨ha, _, h.2.1⟩, h.2.2⟩

theorem set_both {B : Nat} {w w1 : World} (h : Below B w w1) (p : Addr) (u : Value) : Below B (w.setCell p u) (w1.setCell p u) := by
  refine ⟨h.os, h.tape, h.output, by simpa [World.setCell] using h.size, fun k hk => ?_⟩
  by_cases e : k = p.block
  · subst e
    have := h.block p.block hk
    simp [World.setCell, Array.getElem?_modify, this]
  · rw [Below.heap_setCell w1 p u k e, Below.heap_setCell w p u k e]
    exact h.block k hk
theorem qat_far {w : World} {g m i : Nat} {q : Qt.QS} (h : Qt.QAt w g q) (hm : m < g) (u : Value) : Qt.QAt (w.setCell ⟨m, i, none⟩ u) g q := by
  obtain ⟨d, n, ⟨v, hB, hR, h1, h2, h3⟩, hq⟩ := h
  refine ⟨d, n, ⟨v, hB.far (p := ⟨m, i, none⟩) (by simp; omega) u, ?_, h1, h2, by simpa [World.setCell] using h3⟩, hq⟩
  exact hR.kept_far (only_setCell (p := ⟨m, i, none⟩) (World.grownBy.refl w (some m)) (.inl rfl) u) (by omega)

set_option maxHeartbeats 4000000 in
theorem beginString_any (w : World) (base B m o ck : Nat) (s : Bs) (qp : Value) (k : Int) (h : BAt w base m o ck s qp) (hBw : B ≤ w.heap.size) :
    Calls Tryz.prog 134 #[.pointer (some ⟨m, 0, none⟩), .int .i64 k] w fun e w' => e = .returned (.tuple #[]) ∧ SAt w' base B m o ck (stringB s k).b ∧ Tch base bObj w w' := by
  obtain ⟨⟨a, op, ek, et, ev, rs, nm, q⟩, st, l⟩ := s
  obtain ⟨ov, hB, hR, _⟩ := h.mc.ex
  have hN := Qt.qnew_any w h.mc.lim
  have hml := hB.lt
  have HH := Lib.hid h
  clear h
  have HBB := Lib.hid hB
  clear hB hR
  go_enter Tryz.func134, Tryz.ntmps134
  go_wp2_with fail
  refine hN.mono ?_
  rintro e w1 ⟨rfl, hQ, hb1⟩
  have hB1 := HBB.out.below hb1 HBB.out.lt
  have d0 : w1.cell? ⟨m, 0, none⟩ = some (.int .i64 a) := hB1.cell 0
  have d2 : w1.cell? ⟨m, 2, none⟩ = some (.int .i64 ek) := hB1.cell 2
  have d3 : w1.cell? ⟨m, 3, none⟩ = some (.string et) := hB1.cell 3
  have d4 : w1.cell? ⟨m, 4, none⟩ = some (.string ev) := hB1.cell 4
  have d7 : w1.cell? ⟨m, 7, none⟩ = some qp := hB1.cell 7
  have f0 := hB1.frozen 0
  have f2 := hB1.frozen 2
  have f3 := hB1.frozen 3
  have f4 := hB1.frozen 4
  have f7 := hB1.frozen 7
  have hl1 := hB1.lt
  have HQ := Lib.hid hQ
  have HB1 := Lib.hid hb1
  have hl1g := hQ.lt
  clear hB1 hQ hb1
  go_wp2
  go_end0
  refine ⟨rfl, ?_, ?_⟩
  · have s1 := HH.out.mc.set 0 (.int .i64 8) (M' := ⟨8, op, ek, et, ev, rs, nm, q⟩) (qp' := qp) (fun ov => rfl) rfl
    have s2 := s1.set 2 (.int .i64 k) (M' := ⟨8, op, k, et, ev, rs, nm, q⟩) (qp' := qp) (fun ov => rfl) rfl
    have s3 := s2.set 3 (.string ⟨#[]⟩) (M' := ⟨8, op, k, ⟨#[]⟩, ev, rs, nm, q⟩) (qp' := qp) (fun ov => rfl) rfl
    have s4 := s3.set 4 (.string ⟨#[]⟩) (M' := ⟨8, op, k, ⟨#[]⟩, ⟨#[]⟩, rs, nm, q⟩) (qp' := qp) (fun ov => rfl) rfl
    have s5 := s4.set 7 (.pointer (some ⟨w.heap.size, 0, none⟩)) (M' := ⟨8, op, k, ⟨#[]⟩, ⟨#[]⟩, rs, nm, Qt.plainQ []⟩) (qp' := .pointer (some ⟨w.heap.size, 0, none⟩)) (fun ov => rfl) rfl
    have ht := ((((HH.out.mc.touch 0 (.int .i64 8)).trans (s1.touch 2 (.int .i64 k))).trans (s2.touch 3 (.string ⟨#[]⟩))).trans (s3.touch 4 (.string ⟨#[]⟩))).trans (s4.touch 7 (.pointer (some ⟨w.heap.size, 0, none⟩)))
    have hb := set_both (set_both (set_both (set_both (set_both HB1.out ⟨m, 0, none⟩ (.int .i64 8)) ⟨m, 2, none⟩ (.int .i64 k)) ⟨m, 3, none⟩ (.string ⟨#[]⟩)) ⟨m, 4, none⟩ (.string ⟨#[]⟩)) ⟨m, 7, none⟩ (.pointer (some ⟨w.heap.size, 0, none⟩))
    refine ⟨_, w.heap.size, s5, HH.out.out.of_m (ht.wide fun _ => mo_of), by simp [World.setCell], Tch.of_below ?_, ?_, hBw⟩
    · simpa [World.setCell] using hb
    · exact qat_far (qat_far (qat_far (qat_far (qat_far HQ.out hml _) hml _) hml _) hml _) hml _
  · have hM1 := HH.out.mc.below HB1.out
    have s1 := hM1.set 0 (.int .i64 8) (M' := ⟨8, op, ek, et, ev, rs, nm, q⟩) (qp' := qp) (fun ov => rfl) rfl
    have s2 := s1.set 2 (.int .i64 k) (M' := ⟨8, op, k, et, ev, rs, nm, q⟩) (qp' := qp) (fun ov => rfl) rfl
    have s3 := s2.set 3 (.string ⟨#[]⟩) (M' := ⟨8, op, k, ⟨#[]⟩, ev, rs, nm, q⟩) (qp' := qp) (fun ov => rfl) rfl
    have s4 := s3.set 4 (.string ⟨#[]⟩) (M' := ⟨8, op, k, ⟨#[]⟩, ⟨#[]⟩, rs, nm, q⟩) (qp' := qp) (fun ov => rfl) rfl
    have ht := ((((hM1.touch 0 (.int .i64 8)).trans (s1.touch 2 (.int .i64 k))).trans (s2.touch 3 (.string ⟨#[]⟩))).trans (s3.touch 4 (.string ⟨#[]⟩))).trans (s4.touch 7 (.pointer (some ⟨w.heap.size, 0, none⟩)))
    exact (Tch.of_below HB1.out).trans (ht.wide fun _ h => m_of_b (mo_of h))

set_option maxHeartbeats 4000000 in
theorem beginWord_any (w : World) (base m o ck : Nat) (s : Bs) (qp : Value) (k : Int) (t r : ByteArray) (h : BAt w base m o ck s qp) :
    Calls Tryz.prog 155 #[.pointer (some ⟨m, 0, none⟩), .agg #[.int .i64 k, .string t, .string ⟨#[]⟩], .string r] w fun e w' => e = .returned (.tuple #[]) ∧ BAt w' base m o ck (wordB s k t r).b qp ∧ Tch base bObj w w' := by
  obtain ⟨⟨a, op, ek, et, ev, rs, nm, q⟩, st, l⟩ := s
  obtain ⟨ov, hB, hR, _⟩ := h.mc.ex
  have hml := hB.lt
  have d0 : w.cell? ⟨m, 0, none⟩ = some (.int .i64 a) := hB.cell 0
  have d2 : w.cell? ⟨m, 2, none⟩ = some (.int .i64 ek) := hB.cell 2
  have d3 : w.cell? ⟨m, 3, none⟩ = some (.string et) := hB.cell 3
  have d4 : w.cell? ⟨m, 4, none⟩ = some (.string ev) := hB.cell 4
  have d5 : w.cell? ⟨m, 5, none⟩ = some (.string rs) := hB.cell 5
  have f0 := hB.frozen 0
  have f2 := hB.frozen 2
  have f3 := hB.frozen 3
  have f4 := hB.frozen 4
  have f5 := hB.frozen 5
  have HH := Lib.hid h
  clear h hB hR
  go_enter Tryz.func155, Tryz.ntmps155
  go_wp2
  go_region
  go_wp2
  go_end0
  have s1 := HH.out.mc.set 0 (.int .i64 6) (M' := ⟨6, op, ek, et, ev, rs, nm, q⟩) (qp' := qp) (fun ov => rfl) rfl
  have s2 := s1.set 2 (.int .i64 k) (M' := ⟨6, op, k, et, ev, rs, nm, q⟩) (qp' := qp) (fun ov => rfl) rfl
  have s3 := s2.set 3 (.string t) (M' := ⟨6, op, k, t, ev, rs, nm, q⟩) (qp' := qp) (fun ov => rfl) rfl
  have s4 := s3.set 4 (.string ⟨#[]⟩) (M' := ⟨6, op, k, t, ⟨#[]⟩, rs, nm, q⟩) (qp' := qp) (fun ov => rfl) rfl
  have s5 := s4.set 5 (.string r) (M' := ⟨6, op, k, t, ⟨#[]⟩, r, nm, q⟩) (qp' := qp) (fun ov => rfl) rfl
  have ht := ((((HH.out.mc.touch 0 (.int .i64 6)).trans (s1.touch 2 (.int .i64 k))).trans (s2.touch 3 (.string t))).trans (s3.touch 4 (.string ⟨#[]⟩))).trans (s4.touch 5 (.string r))
  have hO := HH.out.out.of_m (ht.wide fun _ => mo_of)
  generalize ((((w.setCell ⟨m, 0, none⟩ (.int .i64 6)).setCell ⟨m, 2, none⟩ (.int .i64 k)).setCell ⟨m, 3, none⟩ (.string t)).setCell ⟨m, 4, none⟩ (.string ⟨#[]⟩)).setCell ⟨m, 5, none⟩ (.string r) = W at *
  have al : Below W.heap.size W (W.alloc (.cells #[.int .i64 k, .string t, .string ⟨#[]⟩] 36)).drew := below_drew ((Below.refl _ _).alloc (Nat.le_refl _) _)
  have h0 := Tch.of_below (base := base) (p := fun _ => False) al
  exact ⟨rfl, ⟨s5.below al, hO.tch h0 (fun _ _ _ _ => id) (fun _ _ => id)⟩, (ht.wide fun _ h => m_of_b (mo_of h)).trans (h0.wide fun _ h => h.elim)⟩
end Go.Proofs.YtmimadkepflmlaaGreatDoor

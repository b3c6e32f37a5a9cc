/-
  brace: a byte within a string; Step; End.
-/
import Derived.Test.YtmimadkepflmlaaGreatDoorBrZ31
namespace Go.Proofs.YtmimadkepflmlaaGreatDoor
open Go.RowKit Go.Maps
set_option maxRecDepth 100000
set_option linter.unusedSimpArgs false
set_option linter.unusedSectionVars false
variable [Tab] [Fo]

/-- What a step leaves of what it does not know. -/
abbrev Fr (base B : Nat) (w w' : World) : Prop := FrG bObj base B w w'
section
variable {base B m o ck : Nat} {w w' w'' : World}
theorem Fr.of_tch (h : Tch base bObj w w') (hb : base ≤ w.heap.size) : Fr base B w w' := FrG.of_tch h hb
theorem Fr.of_q {g : Nat} (h : Tch g Qt.qObj w w') (hb : base ≤ g) (hB : B ≤ g) (hg : g ≤ w.heap.size) : Fr base B w w' := FrG.of_q h hb hB hg
theorem tch_low {p : Obj → Prop} {w0 : World} (h : Tch base p w0 w) (hb : Below w0.heap.size w w') : Tch base p w0 w' :=
  ⟨hb.os.trans h.os, hb.tape.trans h.tape, hb.output.trans h.output, Nat.le_trans h.size hb.size, fun k o ho hc => (hb.block k (Array.getElem?_eq_some_iff.1 ho).1).trans (h.block k o ho hc)⟩
theorem MAt.of_ss {M : Mc} {qp : Value} (h : MAt w base m M qp) (ht : Tch base ssObj w w') : MAt w' base m M qp :=
  h.tch ht (fun cs t fr h hc => by simp only [ssObj] at hc; rcases h with rfl | rfl <;> exact absurd hc (by decide))
end
def SPo (w : World) (base B m o ck : Nat) (r : Br) (e : Ending) (w' : World) : Prop :=
  e = .returned (.int .i64 r.e) ∧ DAt w' base B m o ck r.b ∧ Fr base B w w'
theorem DPo.s {w w' : World} {base B m o ck : Nat} {r : Br} {e : Ending} (h : DPo w base B m o ck r e w') (hb : base ≤ w.heap.size) : SPo w base B m o ck r e w' := ⟨h.1, h.2.1, Fr.of_tch h.2.2 hb⟩

set_option maxHeartbeats 8000000 in
theorem char_any (w : World) (base B m o ck : Nat) (s : Bs) (b : UInt8) (ha : s.m.a = 8) (h : SAt w base B m o ck s) (hqi : Qt.QInv s.m.q) (hg : Good s.st) (hl : s.l.length ≤ 1000000) (hw : SW base w) :
    Calls Tryz.prog 137 #[.pointer (some ⟨m, 0, none⟩), .int .u8 (b.toNat : Int), .pointer (some ⟨o, 0, none⟩)] w (SPo w base B m o ck (charB s b)) := by
  obtain ⟨⟨a, op, ek, et, ev, rs, nm, q⟩, st, l⟩ := s
  simp only at ha hqi hg hl
  subst ha
  obtain ⟨w0, g, hM0, hO0, hg0, ht, hQ, hBg⟩ := h
  simp only at hQ
  have hbg : base ≤ g := by have := hM0.bm; have := hM0.lt; omega
  have hmg : m < g := by have := hM0.lt; omega
  have hMw := hM0.of_ss ht
  obtain ⟨ov, hB, hR, _⟩ := hMw.ex
  have c7 : w.cell? ⟨m, 7, none⟩ = some (.pointer (some ⟨g, 0, none⟩)) := hB.cell 7
  have hml := hB.lt
  have hb255 : (b.toNat : Int) ≤ 255 := by have := b.toNat_lt; omega
  have hS := Qt.qstep_any w g q (b.toNat : Int) (by omega) hb255 hQ hqi
  have hqr := Qt.qInv_step (b := (b.toNat : Int)) hqi
  unfold charB
  simp only
  generalize Qt.qStep q (b.toNat : Int) = r at *
  unfold Qt.StepEnd Qt.Stepd at hS
  have HS := Lib.hid hS
  have HM0 := Lib.hid hM0
  have HO0 := Lib.hid hO0
  have HT := Lib.hid ht
  have HG := Lib.hid hg0
  have hgw : g ≤ w.heap.size := Nat.le_of_lt hQ.lt
  have hkeep : ∀ w1, Qt.QAt w1 g r.q → Tch g Qt.qObj w w1 → SAt w1 base B m o ck ⟨⟨8, op, ek, et, ev, rs, nm, r.q⟩, st, l⟩ ∧ Fr base B w w1 := fun w1 hQ1 hb1 =>
    ⟨⟨w0, g, ⟨HM0.out.ex, HM0.out.bm, HM0.out.nf, HM0.out.lim⟩, HO0.out, HG.out, tch_low HT.out (by rw [HG.out]; exact hb1.below hgw), hQ1, hBg⟩, Fr.of_q hb1 hbg hBg hgw⟩
  have HK := Lib.hid hkeep
  clear hS hM0 hO0 ht hg0 hMw hB hR hQ hkeep
  by_cases he : r.e = 0
  case neg =>
    rw [if_pos (.inl he)]
    have z1 : (r.e == 0) = false := by rw [beq_eq_false_iff_ne]; exact he
    have z2 : (r.e != 0) = true := by simp [bne, z1]
    clear he
    go_enter Tryz.func137, Tryz.ntmps137
    go_wp2_with fail
    refine HS.out.mono ?_
    rintro e w1 ⟨rfl, hQ1, hb1⟩
    obtain ⟨k1, k2⟩ := HK.out w1 hQ1 hb1
    have HF : Hid (SPo w base B m o ck ⟨⟨⟨8, op, ek, et, ev, rs, nm, r.q⟩, st, l⟩, r.e⟩ (.returned (.int .i64 r.e)) w1) := Lib.hid ⟨rfl, .inl ⟨rfl, k1⟩, k2⟩
    clear hQ1 hb1 k1 k2
    go_wp2
    go_ret
    exact HF.out
  case pos =>
    by_cases hd : r.done = false
    case pos =>
      rw [if_pos (.inr hd)]
      rw [he, hd] at HS
      rw [he]
      clear he hd
      go_enter Tryz.func137, Tryz.ntmps137
      go_wp2_with fail
      refine HS.out.mono ?_
      rintro e w1 ⟨rfl, hQ1, hb1⟩
      obtain ⟨k1, k2⟩ := HK.out w1 hQ1 hb1
      have HF : Hid (SPo w base B m o ck ⟨⟨⟨8, op, ek, et, ev, rs, nm, r.q⟩, st, l⟩, 0⟩ (.returned (.int .i64 0)) w1) := Lib.hid ⟨rfl, .inl ⟨rfl, k1⟩, k2⟩
      clear hQ1 hb1 k1 k2
      go_wp2
      go_ret
      exact HF.out
    case neg =>
      have hdt : r.done = true := by cases h : r.done; exact absurd h hd; rfl
      rw [if_neg (by simp [he, hdt])]
      rw [he, hdt] at HS
      clear he hd hdt HK
      have hq48 : r.q.xs.length ≤ 48 := hqr.1
      by_cases h8 : ek = 8
      case pos =>
        subst h8
        rw [if_pos rfl]
        go_enter Tryz.func137, Tryz.ntmps137
        go_wp2_with fail
        refine HS.out.mono ?_
        rintro e w1 ⟨rfl, hQ1, hb1⟩
        have hlow := tch_low HT.out (show Below w0.heap.size w w1 by rw [HG.out]; exact hb1.below hgw)
        have hM1 := HM0.out.of_ss hlow
        have hO1 := HO0.out.of_ss hlow
        have hFr := Fr.of_q (base := base) (B := B) hb1 hbg hBg hgw
        have hw1 := hw.below ((hb1.below hgw).mono hbg)
        obtain ⟨ov, hB, hR, _⟩ := hM1.ex
        have d0 : w1.cell? ⟨m, 0, none⟩ = some (.int .i64 8) := hB.cell 0
        have d2 : w1.cell? ⟨m, 2, none⟩ = some (.int .i64 8) := hB.cell 2
        have d3 : w1.cell? ⟨m, 3, none⟩ = some (.string et) := hB.cell 3
        have d4 : w1.cell? ⟨m, 4, none⟩ = some (.string ev) := hB.cell 4
        have d7 : w1.cell? ⟨m, 7, none⟩ = some (.pointer (some ⟨g, 0, none⟩)) := hB.cell 7
        have f0 := hB.frozen 0
        have f3 := hB.frozen 3
        have ml := hB.lt
        have hbw1 : base ≤ w1.heap.size := by have := hM1.bm; omega
        obtain ⟨dd, nn, hraw, _⟩ := qat_far (qat_far hQ1 hmg (.int .i64 5)) hmg (.int .i64 4)
        have HTx := Lib.hid (Qt.text_any _ g r.q.xs r.q.st dd nn (show Qt.QRaw ((w1.setCell ⟨m, 0, none⟩ (.int .i64 5)).setCell ⟨m, 0, none⟩ (.int .i64 4)) g r.q.xs r.q.st dd nn from hraw))
        have s1 := hM1.set 0 (.int .i64 5) (M' := ⟨5, op, 8, et, ev, rs, nm, r.q⟩) (qp' := .pointer (some ⟨g, 0, none⟩)) (fun ov => rfl) rfl
        have t1 := (hM1.touch 0 (.int .i64 5)).wide fun _ => mo_of
        have s2 := s1.set 0 (.int .i64 4) (M' := ⟨4, op, 8, et, ev, rs, nm, r.q⟩) (qp' := .pointer (some ⟨g, 0, none⟩)) (fun ov => rfl) rfl
        have t2 := t1.trans ((s1.touch 0 (.int .i64 4)).wide fun _ => mo_of)
        have s3 := s2.set 3 (.string ⟨r.q.xs.toArray⟩) (M' := ⟨4, op, 8, ⟨r.q.xs.toArray⟩, ev, rs, nm, r.q⟩) (qp' := .pointer (some ⟨g, 0, none⟩)) (fun ov => rfl) rfl
        have t3 := t2.trans ((s2.touch 3 (.string ⟨r.q.xs.toArray⟩)).wide fun _ => mo_of)
        have hO3 := hO1.of_m t3
        have hxs : (⟨r.q.xs.toArray⟩ : ByteArray).size ≤ 48 := by
          show r.q.xs.toArray.size ≤ 48
          rw [List.size_toArray]
          exact hq48
        have HTe := Lib.hid (tell_any _ base o ck st l ⟨8, ⟨r.q.xs.toArray⟩, ev⟩ hO3 hg (hw1.tch t3 hbw1).std (by simp only; omega) hl (Nat.le_trans hbw1 t3.size))
        have HF := Lib.hid (fun e w' (hp : TellPost _ base o ck st l ⟨8, ⟨r.q.xs.toArray⟩, ev⟩ e w') => (show SPo w base B m o ck (tellB ⟨4, op, 8, ⟨r.q.xs.toArray⟩, ev, rs, nm, r.q⟩ st l ⟨8, ⟨r.q.xs.toArray⟩, ev⟩) e w' from by
          have h1 := told (s := ⟨⟨8, op, 8, et, ev, rs, nm, q⟩, st, l⟩) (x := ⟨8, ⟨r.q.xs.toArray⟩, ev⟩) s3 hp t3
          exact ⟨h1.1, .inr ⟨by simp [tellB], _, h1.2.1⟩, hFr.trans (Fr.of_tch h1.2.2 hbw1)⟩))
        clear hraw hQ1 hb1 hlow hM1 hO1 hFr hB hR s1 t1 s2 t2 s3 t3 hO3 hxs HS HM0 HO0 HT
        go_wp2_with fail
        refine HTx.out.mono ?_
        rintro e w' ⟨rfl, rfl⟩
        go_wp2_with fail
        refine HTe.out.mono ?_
        intro e w5 hp
        have hq := HF.out e w5 hp
        obtain ⟨rfl, _⟩ := hp
        go_wp2
        go_ret
        exact hq
      case neg =>
        rw [if_neg h8]
        have z8 : (ek == 8) = false := by rw [beq_eq_false_iff_ne]; exact h8
        clear h8
        go_enter Tryz.func137, Tryz.ntmps137
        go_wp2_with fail
        refine HS.out.mono ?_
        rintro e w1 ⟨rfl, hQ1, hb1⟩
        have hlow := tch_low HT.out (show Below w0.heap.size w w1 by rw [HG.out]; exact hb1.below hgw)
        have hM1 := HM0.out.of_ss hlow
        have hO1 := HO0.out.of_ss hlow
        have hFr := Fr.of_q (base := base) (B := B) hb1 hbg hBg hgw
        have hw1 := hw.below ((hb1.below hgw).mono hbg)
        obtain ⟨ov, hB, hR, _⟩ := hM1.ex
        have d0 : w1.cell? ⟨m, 0, none⟩ = some (.int .i64 8) := hB.cell 0
        have d2 : w1.cell? ⟨m, 2, none⟩ = some (.int .i64 ek) := hB.cell 2
        have d3 : w1.cell? ⟨m, 3, none⟩ = some (.string et) := hB.cell 3
        have d4 : w1.cell? ⟨m, 4, none⟩ = some (.string ev) := hB.cell 4
        have d7 : w1.cell? ⟨m, 7, none⟩ = some (.pointer (some ⟨g, 0, none⟩)) := hB.cell 7
        have f0 := hB.frozen 0
        have f3 := hB.frozen 3
        have ml := hB.lt
        have hbw1 : base ≤ w1.heap.size := by have := hM1.bm; omega
        obtain ⟨dd, nn, hraw, _⟩ := qat_far hQ1 hmg (.int .i64 5)
        have HTx := Lib.hid (Qt.text_any _ g r.q.xs r.q.st dd nn (show Qt.QRaw (w1.setCell ⟨m, 0, none⟩ (.int .i64 5)) g r.q.xs r.q.st dd nn from hraw))
        have s1 := hM1.set 0 (.int .i64 5) (M' := ⟨5, op, ek, et, ev, rs, nm, r.q⟩) (qp' := .pointer (some ⟨g, 0, none⟩)) (fun ov => rfl) rfl
        have t1 := (hM1.touch 0 (.int .i64 5)).wide fun _ => mo_of
        have s2 := s1
        have t2 := t1
        have s3 := s2.set 3 (.string ⟨r.q.xs.toArray⟩) (M' := ⟨5, op, ek, ⟨r.q.xs.toArray⟩, ev, rs, nm, r.q⟩) (qp' := .pointer (some ⟨g, 0, none⟩)) (fun ov => rfl) rfl
        have t3 := t2.trans ((s2.touch 3 (.string ⟨r.q.xs.toArray⟩)).wide fun _ => mo_of)
        have hO3 := hO1.of_m t3
        have hxs : (⟨r.q.xs.toArray⟩ : ByteArray).size ≤ 48 := by
          show r.q.xs.toArray.size ≤ 48
          rw [List.size_toArray]
          exact hq48
        have HTe := Lib.hid (tell_any _ base o ck st l ⟨ek, ⟨r.q.xs.toArray⟩, ev⟩ hO3 hg (hw1.tch t3 hbw1).std (by simp only; omega) hl (Nat.le_trans hbw1 t3.size))
        have HF := Lib.hid (fun e w' (hp : TellPost _ base o ck st l ⟨ek, ⟨r.q.xs.toArray⟩, ev⟩ e w') => (show SPo w base B m o ck (tellB ⟨5, op, ek, ⟨r.q.xs.toArray⟩, ev, rs, nm, r.q⟩ st l ⟨ek, ⟨r.q.xs.toArray⟩, ev⟩) e w' from by
          have h1 := told (s := ⟨⟨8, op, ek, et, ev, rs, nm, q⟩, st, l⟩) (x := ⟨ek, ⟨r.q.xs.toArray⟩, ev⟩) s3 hp t3
          exact ⟨h1.1, .inr ⟨by simp [tellB], _, h1.2.1⟩, hFr.trans (Fr.of_tch h1.2.2 hbw1)⟩))
        clear hraw hQ1 hb1 hlow hM1 hO1 hFr hB hR s1 t1 s2 t2 s3 t3 hO3 hxs HS HM0 HO0 HT
        go_wp2_with fail
        refine HTx.out.mono ?_
        rintro e w' ⟨rfl, rfl⟩
        go_wp2_with fail
        refine HTe.out.mono ?_
        intro e w5 hp
        have hq := HF.out e w5 hp
        obtain ⟨rfl, _⟩ := hp
        go_wp2
        go_ret
        exact hq
end Go.Proofs.YtmimadkepflmlaaGreatDoor

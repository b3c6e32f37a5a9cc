/-
  brace: mark, a byte outside of words and strings, Step and End.
  brace: a byte within a string; Step; End.
-/
import Derived.Test.YthhhmgkkklopfaaGreatDoorBrZ29
namespace Go.Proofs.YthhhmgkkklopfaaGreatDoor
open Go.RowKit Go.Maps
set_option maxRecDepth 100000
set_option linter.unusedSimpArgs false

theorem dpo_here {w : World} {base B m o ck : Nat} {s : Bs} {qp : Value} (h : BAt w base m o ck s qp) (ha : s.m.a ≠ 8) (e : Int) : DPo w base B m o ck ⟨s, e⟩ (.returned (.int .i64 e)) w := ⟨rfl, dd_of_b h ha, Tch.refl _ _ _⟩
theorem ub_t {b : UInt8} {n : Nat} (h : b.toNat = n) : ((b.toNat : Int) == (n : Int)) = true := by rw [h]; simp
theorem ub_f {b : UInt8} {n : Nat} (h : ¬ b.toNat = n) : ((b.toNat : Int) == (n : Int)) = false := by rw [beq_eq_false_iff_ne]; omega

set_option maxHeartbeats 16000000 in
theorem mark_any (w : World) (base B m o ck : Nat) (s : Bs) (qp : Value) (b : UInt8) (h : BAt w base m o ck s qp) (hBw : B ≤ w.heap.size) (h5 : 0 ≤ s.m.a ∧ s.m.a ≤ 5) (hne : s.m.a = 1 ∨ s.m.a = 2 → s.m.op ≠ []) (hop : s.m.op.length ≤ 100000) (hg : Good s.st) (hl : s.l.length ≤ 1000000) (hw : SW base w) (hb : base ≤ w.heap.size) :
    Calls Tryz.prog 135 #[.pointer (some ⟨m, 0, none⟩), .int .u8 (b.toNat : Int), .pointer (some ⟨o, 0, none⟩)] w (DPo w base B m o ck (markB s b)) := by
  obtain ⟨A, cp, c1, c0, f0, hml⟩ := h.open
  have hVal := fun ha => value_any w base B m o ck s qp b h hBw ha hop hg hl hw hb
  have hBeh := fun ha => behind_any w base B m o ck s qp b h ha hop hg hl hw hb
  have hFin := fun hn => finish_any w base m o ck s qp h hn hg hl hw hb
  have hStr := beginString_any w base B m o ck s qp 8 h hBw
  have hHere := fun ha e => dpo_here (B := B) h ha e
  have hSet := h.seta 0
  obtain ⟨⟨a, op, ek, et, ev, rs, nm, q⟩, st, l⟩ := s
  simp only at h5 hne c0 c1 hVal hBeh hFin hHere hSet
  unfold markB
  simp only
  have ha : a = 0 ∨ a = 1 ∨ a = 2 ∨ a = 3 ∨ a = 4 ∨ a = 5 := by omega
  clear h5 h hop hg hl hw
  rcases ha with rfl | rfl | rfl | rfl | rfl | rfl
  · rw [if_neg (by simp), if_neg (by simp), if_neg (by simp), if_pos (by simp)]
    have HC := Lib.hid (hVal (by decide))
    clear hHere hVal hBeh hFin hStr hSet hne
    go_enter Tryz.func135, Tryz.ntmps135
    go_wp2_with fail
    refine HC.out.mono ?_
    intro e w5 hp
    have HF := Lib.hid hp
    obtain ⟨rfl, _⟩ := hp
    go_wp2
    go_ret
    exact HF.out
  · by_cases hbv : b.toNat = 93
    · have z := ub_t hbv
      rw [if_neg (by simp), if_pos (by simp [hbv])]
      clear hbv
      have HC := Lib.hid (hFin (hne (by decide)))
      clear hHere hVal hBeh hFin hStr hSet hne
      go_enter Tryz.func135, Tryz.ntmps135
      go_wp2_with fail
      refine HC.out.mono ?_
      intro e w5 hp
      have HF := Lib.hid (hp.d (B := B) (by simp [finishB, tellB]))
      obtain ⟨rfl, _⟩ := hp
      go_wp2
      go_ret
      exact HF.out
    · have z := ub_f hbv
      rw [if_neg (by simp), if_neg (by simp [hbv]), if_neg (by simp), if_pos (by simp)]
      clear hbv
      have HC := Lib.hid (hVal (by decide))
      clear hHere hVal hBeh hFin hStr hSet hne
      go_enter Tryz.func135, Tryz.ntmps135
      go_wp2_with fail
      refine HC.out.mono ?_
      intro e w5 hp
      have HF := Lib.hid hp
      obtain ⟨rfl, _⟩ := hp
      go_wp2
      go_ret
      exact HF.out
  · by_cases hbv : b.toNat = 125
    · have z := ub_t hbv
      rw [if_neg (by simp), if_pos (by simp [hbv])]
      clear hbv
      have HC := Lib.hid (hFin (hne (by decide)))
      clear hHere hVal hBeh hFin hStr hSet hne
      go_enter Tryz.func135, Tryz.ntmps135
      go_wp2_with fail
      refine HC.out.mono ?_
      intro e w5 hp
      have HF := Lib.hid (hp.d (B := B) (by simp [finishB, tellB]))
      obtain ⟨rfl, _⟩ := hp
      go_wp2
      go_ret
      exact HF.out
    · have z := ub_f hbv
      by_cases h34 : b.toNat = 34
      · have z2 := ub_t h34
        rw [if_neg (by simp), if_neg (by simp [hbv]), if_pos (by simp [h34])]
        clear hbv h34
        have HC := Lib.hid hStr
        clear hHere hVal hBeh hFin hStr hSet hne
        go_enter Tryz.func135, Tryz.ntmps135
        go_wp2_with fail
        refine HC.out.mono ?_
        rintro e w5 ⟨rfl, hs5, ht5⟩
        have HF : Hid (DPo w base B m o ck (stringB _ 8) (.returned (.int .i64 0)) w5) := Lib.hid ⟨rfl, .inl ⟨rfl, hs5⟩, ht5⟩
        clear hs5 ht5
        go_wp2
        go_ret
        exact HF.out
      · have z2 := ub_f h34
        rw [if_neg (by simp), if_neg (by simp [hbv]), if_neg (by simp [h34]), if_neg (by simp), if_neg (by simp)]
        clear hbv h34
        have HF := Lib.hid (hHere (by decide) 2)
        clear hHere hVal hBeh hFin hStr hSet hne
        go_enter Tryz.func135, Tryz.ntmps135
        go_wp2
        go_ret
        exact HF.out
  · by_cases h34 : b.toNat = 34
    · have z2 := ub_t h34
      rw [if_neg (by simp), if_neg (by simp), if_pos (by simp [h34])]
      clear h34
      have HC := Lib.hid hStr
      clear hHere hVal hBeh hFin hStr hSet hne
      go_enter Tryz.func135, Tryz.ntmps135
      go_wp2_with fail
      refine HC.out.mono ?_
      rintro e w5 ⟨rfl, hs5, ht5⟩
      have HF : Hid (DPo w base B m o ck (stringB _ 8) (.returned (.int .i64 0)) w5) := Lib.hid ⟨rfl, .inl ⟨rfl, hs5⟩, ht5⟩
      clear hs5 ht5
      go_wp2
      go_ret
      exact HF.out
    · have z2 := ub_f h34
      rw [if_neg (by simp), if_neg (by simp), if_neg (by simp [h34]), if_neg (by simp), if_neg (by simp)]
      clear h34
      have HF := Lib.hid (hHere (by decide) 2)
      clear hHere hVal hBeh hFin hStr hSet hne
      go_enter Tryz.func135, Tryz.ntmps135
      go_wp2
      go_ret
      exact HF.out
  · by_cases hbv : b.toNat = 58
    · have z := ub_t hbv
      rw [if_pos (by simp [hbv])]
      clear hbv
      have HF : Hid (DPo w base B m o ck ⟨⟨⟨0, op, ek, et, ev, rs, nm, q⟩, st, l⟩, 0⟩ (.returned (.int .i64 0)) (w.setCell ⟨m, 0, none⟩ (.int .i64 0))) := Lib.hid ⟨rfl, dd_of_b hSet.1 (by simp), hSet.2⟩
      clear hHere hVal hBeh hFin hStr hSet hne
      go_enter Tryz.func135, Tryz.ntmps135
      go_wp2
      go_ret
      exact HF.out
    · have z := ub_f hbv
      rw [if_neg (by simp [hbv]), if_neg (by simp), if_neg (by simp), if_neg (by simp), if_neg (by simp)]
      clear hbv
      have HF := Lib.hid (hHere (by decide) 2)
      clear hHere hVal hBeh hFin hStr hSet hne
      go_enter Tryz.func135, Tryz.ntmps135
      go_wp2
      go_ret
      exact HF.out
  · rw [if_neg (by simp), if_neg (by simp), if_neg (by simp), if_neg (by simp), if_pos (by simp)]
    have HC := Lib.hid (hBeh (by decide))
    clear hHere hVal hBeh hFin hStr hSet hne
    go_enter Tryz.func135, Tryz.ntmps135
    go_wp2_with fail
    refine HC.out.mono ?_
    intro e w5 hp
    have HF := Lib.hid hp
    obtain ⟨rfl, _⟩ := hp
    go_wp2
    go_ret
    exact HF.out
end Go.Proofs.YthhhmgkkklopfaaGreatDoor
namespace Go.Proofs.YthhhmgkkklopfaaGreatDoor
open Go.RowKit Go.Maps
set_option maxRecDepth 100000
set_option linter.unusedSimpArgs false

/-- What a step leaves of what it does not know. -/
structure Fr (base B : Nat) (w w' : World) : Prop where
  low : Below base w w'
  keep : ∀ k o, w.heap[k]? = some o → k < B → ¬ bObj o → w'.heap[k]? = some o
section
variable {base B m o ck : Nat} {w w' w'' : World}
theorem Fr.of_tch (h : Tch base bObj w w') (hb : base ≤ w.heap.size) : Fr base B w w' := ⟨h.below hb, fun k o ho _ hn => h.block k o ho (.inr hn)⟩
theorem Fr.of_below {g : Nat} (h : Below g w w') (hb : base ≤ g) (hB : B ≤ g) : Fr base B w w' := ⟨h.mono hb, fun k o ho hk _ => (h.block k (by omega)).trans ho⟩
theorem Fr.trans (h : Fr base B w w') (k : Fr base B w' w'') : Fr base B w w'' := ⟨h.low.trans k.low, fun i o ho hi hn => k.keep i o (h.keep i o ho hi hn) hi hn⟩
theorem tch_low {p : Obj → Prop} {w0 : World} (h : Tch base p w0 w) (hb : Below w0.heap.size w w') : Tch base p w0 w' :=
  ⟨hb.os.trans h.os, hb.tape.trans h.tape, hb.output.trans h.output, Nat.le_trans h.size hb.size, fun k o ho hc => (hb.block k (Array.getElem?_eq_some_iff.1 ho).1).trans (h.block k o ho hc)⟩
theorem MAt.of_ss {M : Mc} {qp : Value} (h : MAt w base m M qp) (ht : Tch base ssObj w w') : MAt w' base m M qp :=
  h.tch ht (fun cs t fr h hc => by simp only [ssObj] at hc; rcases h with rfl | rfl <;> exact absurd hc (by decide))
theorem OAt.of_ss {st : List Pt} {l : List Ev} (h : OAt w base o ck st l) (ht : Tch base ssObj w w') : OAt w' base o ck st l :=
  h.tch ht (fun cs t fr h hc => by simp only [ssObj] at hc; rcases h with rfl | rfl | rfl | rfl <;> exact absurd hc (by decide)) (fun _ _ hc => hc)
end
def SPo (w : World) (base B m o ck : Nat) (r : Br) (e : Ending) (w' : World) : Prop :=
  e = .returned (.int .i64 r.e) ∧ DAt w' base B m o ck r.b ∧ Fr base B w w'
theorem DPo.s {w w' : World} {base B m o ck : Nat} {r : Br} {e : Ending} (h : DPo w base B m o ck r e w') (hb : base ≤ w.heap.size) : SPo w base B m o ck r e w' := ⟨h.1, h.2.1, Fr.of_tch h.2.2 hb⟩

set_option maxHeartbeats 8000000 in
theorem char_any (w : World) (base B m o ck : Nat) (s : Bs) (b : UInt8) (ha : s.m.a = 8) (h : SAt w base B m o ck s) (hqi : Qt.QInv s.m.q) (hg : Good s.st) (hl : s.l.length ≤ 1000000) (hw : SW base w) :
    Calls Tryz.prog 131 #[.pointer (some ⟨m, 0, none⟩), .int .u8 (b.toNat : Int), .pointer (some ⟨o, 0, none⟩)] w (SPo w base B m o ck (charB s b)) := by
  obtain ⟨⟨a, op, ek, et, ev, rs, nm, q⟩, st, l⟩ := s
  simp only at ha hqi hg hl
  subst ha
  obtain ⟨w0, g, hM0, hO0, hg0, ht, hQ, hBg⟩ := h
  simp only at hQ
  have hbg : base ≤ g := by have := hM0.bm; have := hM0.lt; omega
  have hmg : m < g := by have := hM0.lt; omega
  have hMw := hM0.of_ss ht
  obtain ⟨ov, hB, hR⟩ := hMw.ex
  have c7 : w.cell? ⟨m, 7, none⟩ = some (.pointer (some ⟨g, 0, none⟩)) := hB.cell 7
  have hml := hB.lt
  have hb255 : (b.toNat : Int) ≤ 255 := by have := b.toNat_lt; omega
  have hS := Qt.qstep_any w g q (b.toNat : Int) (by omega) hb255 hQ hqi
  have hqr := Qt.qInv_step (b := (b.toNat : Int)) hqi
  unfold charB
  simp only
  generalize Qt.qStep q (b.toNat : Int) = r at *
  unfold Qt.StepEnd Qt.Stepd at hS
  have HS := Lib.hid hS
  have HM0 := Lib.hid hM0
  have HO0 := Lib.hid hO0
  have HT := Lib.hid ht
  have HG := Lib.hid hg0
  have hkeep : ∀ w1, Qt.QAt w1 g r.q → Below g w w1 → SAt w1 base B m o ck ⟨⟨8, op, ek, et, ev, rs, nm, r.q⟩, st, l⟩ ∧ Fr base B w w1 := fun w1 hQ1 hb1 =>
    ⟨⟨w0, g, ⟨HM0.out.ex, HM0.out.bm⟩, HO0.out, HG.out, tch_low HT.out (by rw [HG.out]; exact hb1), hQ1, hBg⟩, Fr.of_below hb1 hbg hBg⟩
  have HK := Lib.hid hkeep
  clear hS hM0 hO0 ht hg0 hMw hB hR hQ hkeep
  by_cases he : r.e = 0
  case neg =>
    rw [if_pos (.inl he)]
    have z1 : (r.e == 0) = false := by rw [beq_eq_false_iff_ne]; exact he
    have z2 : (r.e != 0) = true := by simp [bne, z1]
    clear he
    go_enter Tryz.func131, Tryz.ntmps131
    go_wp2_with fail
    refine HS.out.mono ?_
    rintro e w1 ⟨rfl, hQ1, hb1⟩
    obtain ⟨k1, k2⟩ := HK.out w1 hQ1 hb1
    have HF : Hid (SPo w base B m o ck ⟨⟨⟨8, op, ek, et, ev, rs, nm, r.q⟩, st, l⟩, r.e⟩ (.returned (.int .i64 r.e)) w1) := Lib.hid ⟨rfl, .inl ⟨rfl, k1⟩, k2⟩
    clear hQ1 hb1 k1 k2
    go_wp2
    go_ret
    exact HF.out
  case pos =>
    by_cases hd : r.done = false
    case pos =>
      rw [if_pos (.inr hd)]
      rw [he, hd] at HS
      rw [he]
      clear he hd
      go_enter Tryz.func131, Tryz.ntmps131
      go_wp2_with fail
      refine HS.out.mono ?_
      rintro e w1 ⟨rfl, hQ1, hb1⟩
      obtain ⟨k1, k2⟩ := HK.out w1 hQ1 hb1
      have HF : Hid (SPo w base B m o ck ⟨⟨⟨8, op, ek, et, ev, rs, nm, r.q⟩, st, l⟩, 0⟩ (.returned (.int .i64 0)) w1) := Lib.hid ⟨rfl, .inl ⟨rfl, k1⟩, k2⟩
      clear hQ1 hb1 k1 k2
      go_wp2
      go_ret
      exact HF.out
    case neg =>
      have hdt : r.done = true := by cases h : r.done; exact absurd h hd; rfl
      rw [if_neg (by simp [he, hdt])]
      rw [he, hdt] at HS
      clear he hd hdt HK
      have hq48 : r.q.xs.length ≤ 48 := hqr.1
      by_cases h8 : ek = 8
      case pos =>
        subst h8
        rw [if_pos rfl]
        go_enter Tryz.func131, Tryz.ntmps131
        go_wp2_with fail
        refine HS.out.mono ?_
        rintro e w1 ⟨rfl, hQ1, hb1⟩
        have hlow := tch_low HT.out (show Below w0.heap.size w w1 by rw [HG.out]; exact hb1)
        have hM1 := HM0.out.of_ss hlow
        have hO1 := HO0.out.of_ss hlow
        have hFr := Fr.of_below (base := base) (B := B) hb1 hbg hBg
        have hw1 := hw.below (hb1.mono hbg)
        obtain ⟨ov, hB, hR⟩ := hM1.ex
        have d0 : w1.cell? ⟨m, 0, none⟩ = some (.int .i64 8) := hB.cell 0
        have d2 : w1.cell? ⟨m, 2, none⟩ = some (.int .i64 8) := hB.cell 2
        have d3 : w1.cell? ⟨m, 3, none⟩ = some (.string et) := hB.cell 3
        have d4 : w1.cell? ⟨m, 4, none⟩ = some (.string ev) := hB.cell 4
        have d7 : w1.cell? ⟨m, 7, none⟩ = some (.pointer (some ⟨g, 0, none⟩)) := hB.cell 7
        have f0 := hB.frozen 0
        have f3 := hB.frozen 3
        have ml := hB.lt
        have hbw1 : base ≤ w1.heap.size := by have := hM1.bm; omega
        obtain ⟨dd, nn, hraw, _⟩ := qat_far (qat_far hQ1 hmg (.int .i64 5)) hmg (.int .i64 4)
        have HTx := Lib.hid (Qt.text_any _ g r.q.xs r.q.st dd nn (show Qt.QRaw ((w1.setCell ⟨m, 0, none⟩ (.int .i64 5)).setCell ⟨m, 0, none⟩ (.int .i64 4)) g r.q.xs r.q.st dd nn from hraw))
        have s1 := hM1.set 0 (.int .i64 5) (M' := ⟨5, op, 8, et, ev, rs, nm, r.q⟩) (qp' := .pointer (some ⟨g, 0, none⟩)) (fun ov => rfl) rfl
        have t1 := (hM1.touch 0 (.int .i64 5)).wide fun _ => mo_of
        have s2 := s1.set 0 (.int .i64 4) (M' := ⟨4, op, 8, et, ev, rs, nm, r.q⟩) (qp' := .pointer (some ⟨g, 0, none⟩)) (fun ov => rfl) rfl
        have t2 := t1.trans ((s1.touch 0 (.int .i64 4)).wide fun _ => mo_of)
        have s3 := s2.set 3 (.string ⟨r.q.xs.toArray⟩) (M' := ⟨4, op, 8, ⟨r.q.xs.toArray⟩, ev, rs, nm, r.q⟩) (qp' := .pointer (some ⟨g, 0, none⟩)) (fun ov => rfl) rfl
        have t3 := t2.trans ((s2.touch 3 (.string ⟨r.q.xs.toArray⟩)).wide fun _ => mo_of)
        have hO3 := hO1.of_m t3
        have hxs : (⟨r.q.xs.toArray⟩ : ByteArray).size ≤ 48 := by
          show r.q.xs.toArray.size ≤ 48
          rw [List.size_toArray]
          exact hq48
        have HTe := Lib.hid (tell_any _ base o ck st l ⟨8, ⟨r.q.xs.toArray⟩, ev⟩ hO3 hg (hw1.tch t3 hbw1).std (by simp only; omega) hl (Nat.le_trans hbw1 t3.size))
        have HF := Lib.hid (fun e w' (hp : TellPost _ base o ck st l ⟨8, ⟨r.q.xs.toArray⟩, ev⟩ e w') => (show SPo w base B m o ck (tellB ⟨4, op, 8, ⟨r.q.xs.toArray⟩, ev, rs, nm, r.q⟩ st l ⟨8, ⟨r.q.xs.toArray⟩, ev⟩) e w' from by
          have h1 := told (s := ⟨⟨8, op, 8, et, ev, rs, nm, q⟩, st, l⟩) (x := ⟨8, ⟨r.q.xs.toArray⟩, ev⟩) s3 hp t3
          exact ⟨h1.1, .inr ⟨by simp [tellB], _, h1.2.1⟩, hFr.trans (Fr.of_tch h1.2.2 hbw1)⟩))
        clear hraw hQ1 hb1 hlow hM1 hO1 hFr hB hR s1 t1 s2 t2 s3 t3 hO3 hxs HS HM0 HO0 HT
        go_wp2_with fail
        refine HTx.out.mono ?_
        rintro e w' ⟨rfl, rfl⟩
        go_wp2_with fail
        refine HTe.out.mono ?_
        intro e w5 hp
        have hq := HF.out e w5 hp
        obtain ⟨rfl, _⟩ := hp
        go_wp2
        go_ret
        exact hq
      case neg =>
        rw [if_neg h8]
        have z8 : (ek == 8) = false := by rw [beq_eq_false_iff_ne]; exact h8
        clear h8
        go_enter Tryz.func131, Tryz.ntmps131
        go_wp2_with fail
        refine HS.out.mono ?_
        rintro e w1 ⟨rfl, hQ1, hb1⟩
        have hlow := tch_low HT.out (show Below w0.heap.size w w1 by rw [HG.out]; exact hb1)
        have hM1 := HM0.out.of_ss hlow
        have hO1 := HO0.out.of_ss hlow
        have hFr := Fr.of_below (base := base) (B := B) hb1 hbg hBg
        have hw1 := hw.below (hb1.mono hbg)
        obtain ⟨ov, hB, hR⟩ := hM1.ex
        have d0 : w1.cell? ⟨m, 0, none⟩ = some (.int .i64 8) := hB.cell 0
        have d2 : w1.cell? ⟨m, 2, none⟩ = some (.int .i64 ek) := hB.cell 2
        have d3 : w1.cell? ⟨m, 3, none⟩ = some (.string et) := hB.cell 3
        have d4 : w1.cell? ⟨m, 4, none⟩ = some (.string ev) := hB.cell 4
        have d7 : w1.cell? ⟨m, 7, none⟩ = some (.pointer (some ⟨g, 0, none⟩)) := hB.cell 7
        have f0 := hB.frozen 0
        have f3 := hB.frozen 3
        have ml := hB.lt
        have hbw1 : base ≤ w1.heap.size := by have := hM1.bm; omega
        obtain ⟨dd, nn, hraw, _⟩ := qat_far hQ1 hmg (.int .i64 5)
        have HTx := Lib.hid (Qt.text_any _ g r.q.xs r.q.st dd nn (show Qt.QRaw (w1.setCell ⟨m, 0, none⟩ (.int .i64 5)) g r.q.xs r.q.st dd nn from hraw))
        have s1 := hM1.set 0 (.int .i64 5) (M' := ⟨5, op, ek, et, ev, rs, nm, r.q⟩) (qp' := .pointer (some ⟨g, 0, none⟩)) (fun ov => rfl) rfl
        have t1 := (hM1.touch 0 (.int .i64 5)).wide fun _ => mo_of
        have s2 := s1
        have t2 := t1
        have s3 := s2.set 3 (.string ⟨r.q.xs.toArray⟩) (M' := ⟨5, op, ek, ⟨r.q.xs.toArray⟩, ev, rs, nm, r.q⟩) (qp' := .pointer (some ⟨g, 0, none⟩)) (fun ov => rfl) rfl
        have t3 := t2.trans ((s2.touch 3 (.string ⟨r.q.xs.toArray⟩)).wide fun _ => mo_of)
        have hO3 := hO1.of_m t3
        have hxs : (⟨r.q.xs.toArray⟩ : ByteArray).size ≤ 48 := by
          show r.q.xs.toArray.size ≤ 48
          rw [List.size_toArray]
          exact hq48
        have HTe := Lib.hid (tell_any _ base o ck st l ⟨ek, ⟨r.q.xs.toArray⟩, ev⟩ hO3 hg (hw1.tch t3 hbw1).std (by simp only; omega) hl (Nat.le_trans hbw1 t3.size))
        have HF := Lib.hid (fun e w' (hp : TellPost _ base o ck st l ⟨ek, ⟨r.q.xs.toArray⟩, ev⟩ e w') => (show SPo w base B m o ck (tellB ⟨5, op, ek, ⟨r.q.xs.toArray⟩, ev, rs, nm, r.q⟩ st l ⟨ek, ⟨r.q.xs.toArray⟩, ev⟩) e w' from by
          have h1 := told (s := ⟨⟨8, op, ek, et, ev, rs, nm, q⟩, st, l⟩) (x := ⟨ek, ⟨r.q.xs.toArray⟩, ev⟩) s3 hp t3
          exact ⟨h1.1, .inr ⟨by simp [tellB], _, h1.2.1⟩, hFr.trans (Fr.of_tch h1.2.2 hbw1)⟩))
        clear hraw hQ1 hb1 hlow hM1 hO1 hFr hB hR s1 t1 s2 t2 s3 t3 hO3 hxs HS HM0 HO0 HT
        go_wp2_with fail
        refine HTx.out.mono ?_
        rintro e w' ⟨rfl, rfl⟩
        go_wp2_with fail
        refine HTe.out.mono ?_
        intro e w5 hp
        have hq := HF.out e w5 hp
        obtain ⟨rfl, _⟩ := hp
        go_wp2
        go_ret
        exact hq
end Go.Proofs.YthhhmgkkklopfaaGreatDoor

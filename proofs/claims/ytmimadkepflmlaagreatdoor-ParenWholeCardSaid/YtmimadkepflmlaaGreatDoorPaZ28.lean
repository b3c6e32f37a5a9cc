/-
  paren: the byte behind a #.
-/
import Derived.Test.YtmimadkepflmlaaGreatDoorPaZ27
namespace Go.Proofs.YtmimadkepflmlaaGreatDoor
open Go.RowKit Go.Maps
set_option maxRecDepth 100000
set_option linter.unusedSimpArgs false
set_option linter.unusedVariables false
set_option linter.unusedSectionVars false
set_option linter.unusedSectionVars false
variable [Tab] [Fo]

theorem PPo.from_ {w0 w w' : World} {base b2 U m o ck : Nat} {r : Pr} {e : Ending} (h : PPo w base b2 U m o ck r e w') (ht : Tch base pObj w0 w) : PPo w0 base b2 U m o ck r e w' := ⟨h.1, h.2.1, ht.trans h.2.2⟩
theorem pub_t {b : UInt8} {n : Nat} (h : b.toNat = n) : ((b.toNat : Int) == (n : Int)) = true := by rw [h]; simp
theorem pub_f {b : UInt8} {n : Nat} (h : ¬ b.toNat = n) : ((b.toNat : Int) == (n : Int)) = false := by rw [beq_eq_false_iff_ne]; omega
theorem beginString_any (w : World) (base b2 U m o ck : Nat) (s : Ps) (qp av : Value) (A : Nat → Prop) (h : PX w base b2 U m o ck s qp av A) (hw : SW base w) (hk : kindI (topI s.m.op)) (hd : 0 ≤ s.m.du ∧ s.m.du ≤ 7) (hne : s.m.op ≠ []) :
    Calls Tryz.prog 174 #[.pointer (some ⟨m, 0, none⟩)] w (PPo w base b2 U m o ck (stringP s)) := by
  cases hu : usesP (topI s.m.op) s.m.du with
  | none => exact beginString_no w base b2 U m o ck s qp av A h hw hk hd hne hu
  | some p => exact beginString_yes w base b2 U m o ck s qp av A h hw hk hd hne p.1 p.2 hu
def markedQ (s : Ps) (b : UInt8) : Pr :=
  if b.toNat = 60 then elemP s else if topI s.m.op = 10 then ⟨s, 2⟩
  else if b.toNat = 40 then innerP s 7 else if b.toNat = 110 then scalarP s ⟨1, ⟨#[]⟩, ⟨#[]⟩⟩
  else if b.toNat = 116 then scalarP s ⟨2, tBy, ⟨#[]⟩⟩ else if b.toNat = 102 then scalarP s ⟨2, fBy, ⟨#[]⟩⟩ else ⟨s, 2⟩

set_option maxHeartbeats 16000000 in
theorem marked_any (w : World) (base b2 U m o ck : Nat) (s : Ps) (qp av : Value) (A : Nat → Prop) (b : UInt8) (h : PX w base b2 U m o ck s qp av A) (hne : s.m.op ≠ []) (hop : s.m.op.length ≤ 100000) (hg : Good s.st) (hl : s.l.length ≤ 1000000) (hw : SW base w) :
    Calls Tryz.prog 166 #[.pointer (some ⟨m, 0, none⟩), .int .u8 (b.toNat : Int), .pointer (some ⟨o, 0, none⟩)] w (PPo w base b2 U m o ck (markedP s b)) := by
  have hb : base ≤ w.heap.size := Nat.le_trans h.b2.1 h.b2.2
  obtain ⟨_, c0, _⟩ := h.mc.cells
  have f0 := h.mc.frz 0
  have hml := h.mc.lt
  have hM1 := h.mc.set 0 (.int .i64 0) (M' := { s.m with wi := 0 }) (fun ov => rfl) rfl
  have t1 := h.mc.touch 0 (.int .i64 0)
  have hP1 := h.pm (t1.wide fun _ => pm_of) hM1 rfl (fun h => absurd h (by simp))
  have hw1 := hw.tch t1 hb
  have hb1 := Nat.le_trans hb t1.size
  have HT := Lib.hid (t1.wide (q := pObj) fun _ => p_mo)
  rw [show markedP s b = markedQ { s with m := { s.m with wi := 0 } } b from rfl]
  obtain ⟨s1, hs1⟩ : ∃ s1 : Ps, { s with m := { s.m with wi := 0 } } = s1 := ⟨_, rfl⟩
  have hne1 : s1.m.op ≠ [] := by rw [← hs1]; exact hne
  have hop1 : s1.m.op.length ≤ 100000 := by rw [← hs1]; exact hop
  have hg1 : Good s1.st := by rw [← hs1]; exact hg
  have hl1 : s1.l.length ≤ 1000000 := by rw [← hs1]; exact hl
  rw [hs1] at hP1 ⊢
  obtain ⟨W1, hW1⟩ : ∃ W1, w.setCell ⟨m, 0, none⟩ (.int .i64 0) = W1 := ⟨_, rfl⟩
  rw [hW1] at hP1 hw1 hb1 HT
  have HI := Lib.hid (inner_any W1 base m s1.m _ qp av hP1.mc hne1)
  have HE := Lib.hid (openElem_any W1 base b2 U m o ck s1 qp av A hP1 hop1)
  have HB := Lib.hid (fun W2 (h2 : Below W1.heap.size W1 W2) => hP1.below h2)
  have HSW := Lib.hid (fun W2 (h2 : Below W1.heap.size W1 W2) => hw1.below (h2.mono hb1))
  clear h hM1 t1 hP1 hw1 hw hne hop hg hl hs1 hb1 hb
  unfold markedQ
  by_cases h1 : b.toNat = 60
  · rw [if_pos h1]
    have z1 := pub_t h1
    have HTT := HT
    clear h1 HI HB HSW HT
    go_enter Tryz.func166, Tryz.ntmps166
    go_wp2_with fail
    refine HE.out.mono ?_
    intro e w5 hp
    have HF := Lib.hid (hp.from_ HTT.out)
    have he := hp.1
    clear hp
    subst he
    go_wp2
    go_ret
    exact HF.out
  rw [if_neg h1]
  have z1 := pub_f h1
  clear h1
  by_cases hk : topI s1.m.op = 10
  · rw [if_pos hk]
    rw [hk] at HI
    clear hk
    go_enter Tryz.func166, Tryz.ntmps166
    go_wp2_with fail
    refine HI.out.mono ?_
    rintro e W2 ⟨rfl, n, hn⟩
    have hb2 : Below W1.heap.size W1 W2 := by rw [hn]; exact below_drewN (Below.refl _ _) n
    clear hn
    have hP2 := HB.out W2 hb2
    have hw2 := HSW.out W2 hb2
    have HTT := Lib.hid (HT.out.trans (Tch.of_below (base := base) (p := pObj) hb2))
    have HF : Hid (PPo w base b2 U m o ck ⟨s1, 2⟩ (.returned (.int .i64 2)) W2) := Lib.hid ⟨rfl, ⟨_, _, _, hP2⟩, HTT.out⟩
    clear hP2 hw2 hb2 HI HB HSW HE HT
    go_wp2
    go_ret
    exact HF.out
  rw [if_neg hk]
  have zk : (topI s1.m.op == 10) = false := by rw [beq_eq_false_iff_ne]; exact hk
  clear hk
  by_cases h40 : b.toNat = 40
  · rw [if_pos h40]
    have z40 := pub_t h40
    clear h40
    go_enter Tryz.func166, Tryz.ntmps166
    go_wp2_with fail
    refine HI.out.mono ?_
    rintro e W2 ⟨rfl, n, hn⟩
    have hb2 : Below W1.heap.size W1 W2 := by rw [hn]; exact below_drewN (Below.refl _ _) n
    clear hn
    have hP2 := HB.out W2 hb2
    have hw2 := HSW.out W2 hb2
    have HTT := Lib.hid (HT.out.trans (Tch.of_below (base := base) (p := pObj) hb2))
    have HC := Lib.hid (openInner_any W2 base b2 U m o ck s1 qp av A 7 hP2 hop1 hg1 hw2 hl1)
    clear hP2 hw2 hb2 HI HB HSW HE HT
    go_wp2_with fail
    refine HC.out.mono ?_
    intro e w5 hp
    have HF := Lib.hid (hp.from_ HTT.out)
    have he := hp.1
    clear hp
    subst he
    go_wp2
    go_ret
    exact HF.out
  rw [if_neg h40]
  have z40 := pub_f h40
  clear h40
  by_cases h110 : b.toNat = 110
  · rw [if_pos h110]
    have z110 := pub_t h110
    clear h110
    go_enter Tryz.func166, Tryz.ntmps166
    go_wp2_with fail
    refine HI.out.mono ?_
    rintro e W2 ⟨rfl, n, hn⟩
    have hb2 : Below W1.heap.size W1 W2 := by rw [hn]; exact below_drewN (Below.refl _ _) n
    clear hn
    have hP2 := HB.out W2 hb2
    have hw2 := HSW.out W2 hb2
    have HTT := Lib.hid (HT.out.trans (Tch.of_below (base := base) (p := pObj) hb2))
    have HC := Lib.hid (scalar_any W2 base b2 U m o ck s1 qp av A ⟨1, ⟨#[]⟩, ⟨#[]⟩⟩ hP2 hne1 hg1 hw2 (by decide) hl1)
    clear hP2 hw2 hb2 HI HB HSW HE HT
    go_wp2_with fail
    refine HC.out.mono ?_
    intro e w5 hp
    have HF := Lib.hid (hp.from_ HTT.out)
    have he := hp.1
    clear hp
    subst he
    go_wp2
    go_ret
    exact HF.out
  rw [if_neg h110]
  have z110 := pub_f h110
  clear h110
  by_cases h116 : b.toNat = 116
  · rw [if_pos h116]
    have z116 := pub_t h116
    clear h116
    go_enter Tryz.func166, Tryz.ntmps166
    go_wp2_with fail
    refine HI.out.mono ?_
    rintro e W2 ⟨rfl, n, hn⟩
    have hb2 : Below W1.heap.size W1 W2 := by rw [hn]; exact below_drewN (Below.refl _ _) n
    clear hn
    have hP2 := HB.out W2 hb2
    have hw2 := HSW.out W2 hb2
    have HTT := Lib.hid (HT.out.trans (Tch.of_below (base := base) (p := pObj) hb2))
    have HC := Lib.hid (scalar_any W2 base b2 U m o ck s1 qp av A ⟨2, tBy, ⟨#[]⟩⟩ hP2 hne1 hg1 hw2 (by decide) hl1)
    clear hP2 hw2 hb2 HI HB HSW HE HT
    go_wp2_with fail
    refine HC.out.mono ?_
    intro e w5 hp
    have HF := Lib.hid (hp.from_ HTT.out)
    have he := hp.1
    clear hp
    subst he
    go_wp2
    go_ret
    exact HF.out
  rw [if_neg h116]
  have z116 := pub_f h116
  clear h116
  by_cases h102 : b.toNat = 102
  · rw [if_pos h102]
    have z102 := pub_t h102
    clear h102
    go_enter Tryz.func166, Tryz.ntmps166
    go_wp2_with fail
    refine HI.out.mono ?_
    rintro e W2 ⟨rfl, n, hn⟩
    have hb2 : Below W1.heap.size W1 W2 := by rw [hn]; exact below_drewN (Below.refl _ _) n
    clear hn
    have hP2 := HB.out W2 hb2
    have hw2 := HSW.out W2 hb2
    have HTT := Lib.hid (HT.out.trans (Tch.of_below (base := base) (p := pObj) hb2))
    have HC := Lib.hid (scalar_any W2 base b2 U m o ck s1 qp av A ⟨2, fBy, ⟨#[]⟩⟩ hP2 hne1 hg1 hw2 (by decide) hl1)
    clear hP2 hw2 hb2 HI HB HSW HE HT
    go_wp2_with fail
    refine HC.out.mono ?_
    intro e w5 hp
    have HF := Lib.hid (hp.from_ HTT.out)
    have he := hp.1
    clear hp
    subst he
    go_wp2
    go_ret
    exact HF.out
  rw [if_neg h102]
  have z102 := pub_f h102
  clear h102
  go_enter Tryz.func166, Tryz.ntmps166
  go_wp2_with fail
  refine HI.out.mono ?_
  rintro e W2 ⟨rfl, n, hn⟩
  have hb2 : Below W1.heap.size W1 W2 := by rw [hn]; exact below_drewN (Below.refl _ _) n
  clear hn
  have hP2 := HB.out W2 hb2
  have hw2 := HSW.out W2 hb2
  have HTT := Lib.hid (HT.out.trans (Tch.of_below (base := base) (p := pObj) hb2))
  have HF : Hid (PPo w base b2 U m o ck ⟨s1, 2⟩ (.returned (.int .i64 2)) W2) := Lib.hid ⟨rfl, ⟨_, _, _, hP2⟩, HTT.out⟩
  clear hP2 hw2 hb2 HI HB HSW HE HT
  go_wp2
  go_ret
  exact HF.out
end Go.Proofs.YtmimadkepflmlaaGreatDoor

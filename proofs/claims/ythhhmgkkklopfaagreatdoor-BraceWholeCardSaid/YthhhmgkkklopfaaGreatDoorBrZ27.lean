/-
  brace: what a byte does outside of words, numbers and strings.
-/
import Derived.Test.YthhhmgkkklopfaaGreatDoorBrZ26
import Derived.IntWalk
namespace Go.Proofs.YthhhmgkkklopfaaGreatDoor
open Go.RowKit Go.Maps
set_option maxRecDepth 100000
set_option linter.unusedSimpArgs false

def bObj (o : Obj) : Prop := tObj o ∨ mObj o
structure BAt (w : World) (base m o ck : Nat) (s : Bs) (qp : Value) : Prop where
  mc : MAt w base m s.m qp
  out : OAt w base o ck s.st s.l
def BPo (w : World) (base m o ck : Nat) (qp : Value) (r : Br) (e : Ending) (w' : World) : Prop :=
  e = .returned (.int .i64 r.e) ∧ BAt w' base m o ck r.b qp ∧ Tch base bObj w w'
section
variable {w w' : World} {base m o ck : Nat} {s : Bs} {qp : Value}
theorem t_of_b {o : Obj} (h : tObj o) : bObj o := .inl h
theorem m_of_b {o : Obj} (h : mObj o) : bObj o := .inr h
theorem OAt.tch {st : List Pt} {l : List Ev} {p : Obj → Prop} (h : OAt w base o ck st l) (ht : Tch base p w w') (h1 : ∀ cs t fr, t = 58 ∨ t = 55 ∨ t = 48 ∨ t = 36 → ¬ p (.cells cs t fr)) (h2 : ∀ es c, ¬ p (.map es c)) : OAt w' base o ck st l := by
  obtain ⟨⟨lv, hB, hR⟩, hC, hb⟩ := h
  exact ⟨⟨lv, hB.tch ht (.inr (h1 _ _ _ (.inr (.inr (.inl rfl))))), row_tch hR ht (fun _ _ => h1 _ _ _ (.inr (.inr (.inr rfl))))⟩, hC.tch ht (fun cs t fr h => h1 cs t fr (by rcases h with h | h; exact .inl h; exact .inr (.inl h))) h2, hb⟩
theorem OAt.of_m {st : List Pt} {l : List Ev} (h : OAt w base o ck st l) (ht : Tch base mObj w w') : OAt w' base o ck st l :=
  h.tch ht (fun cs t fr h hc => by simp only [mObj] at hc; rcases h with rfl | rfl | rfl | rfl <;> exact absurd hc (by decide)) (fun _ _ hc => hc)
theorem MAt.of_t {M : Mc} (h : MAt w base m M qp) (ht : Tch base tObj w w') : MAt w' base m M qp :=
  h.tch ht (fun cs t fr h hc => by simp only [tObj] at hc; rcases h with rfl | rfl <;> exact absurd hc (by decide))
/-- Told, behind what the machine turned. -/
theorem told {M : Mc} {x : Ev} {e : Ending} (hM : MAt w base m M qp) (h : TellPost w base o ck s.st s.l x e w') {w0 : World} (h0 : Tch base mObj w0 w) : BPo w0 base m o ck qp (tellB M s.st s.l x) e w' :=
  ⟨h.1, ⟨hM.of_t h.2.2, h.2.1⟩, (h0.wide fun _ => m_of_b).trans (h.2.2.wide fun _ => t_of_b)⟩
theorem MAt.setop {M : Mc} {ov ov' : Value} {op' : List UInt8} (hB : Blk w m 39 (mCells M ov qp)) (hb : base ≤ m) (hR : ORow w base 5 ov' (op'.map bV)) : MAt (w.setCell ⟨m, 1, none⟩ ov') base m { M with op := op' } qp := by
  have ht : Tch base mOnly w (w.setCell ⟨m, 1, none⟩ ov') := (Tch.refl _ _ _).set hB hb (show mOnly (.cells _ _ _) from rfl) 1 ov'
  exact ⟨⟨ov', hB.set_ 1 ov', row_tch hR ht (fun _ _ => by simp only [mOnly]; decide)⟩, hb⟩
theorem bare_size (k : Int) : (bare k).t.size ≤ 140737488355328 := Nat.zero_le _
end

/-- The variables of the library, below base. -/
def SW (base : Nat) (w : World) : Prop := ∃ w0, Nm.StdW w0 ∧ w0.heap.size ≤ base ∧ Below w0.heap.size w0 w
theorem SW.std {base : Nat} {w : World} (h : SW base w) : Nm.StdW w := by obtain ⟨w0, h1, _, h3⟩ := h; exact h1.below h3
theorem SW.below {base : Nat} {w w' : World} (h : SW base w) (hb : Below base w w') : SW base w' := by
  obtain ⟨w0, h1, h2, h3⟩ := h
  exact ⟨w0, h1, h2, h3.trans (hb.mono h2)⟩
theorem SW.tch {base : Nat} {w w' : World} {p : Obj → Prop} (h : SW base w) (ht : Tch base p w w') (hb : base ≤ w.heap.size) : SW base w' := h.below (ht.below hb)

set_option maxHeartbeats 4000000 in
theorem finish_any (w : World) (base m o ck : Nat) (s : Bs) (qp : Value) (h : BAt w base m o ck s qp) (hne : s.m.op ≠ []) (hg : Good s.st) (hl : s.l.length ≤ 1000000) (hw : SW base w) (hb : base ≤ w.heap.size) :
    Calls Tryz.prog 139 #[.pointer (some ⟨m, 0, none⟩), .pointer (some ⟨o, 0, none⟩)] w (BPo w base m o ck qp (finishB s)) := by
  have hC := closing_any w base m s.m qp h.mc hne
  obtain ⟨ov, hB, hR⟩ := h.mc.ex
  rcases hR.form with ⟨_, h0⟩ | ⟨g, cap, rfl, hg', hgl, hlc, hcm⟩
  · exact absurd (by simpa using h0) hne
  rw [List.length_map] at hlc hB hR
  have hcm2 : cap ≤ 9223372036854775807 := by simpa [maxLen] using hcm
  obtain ⟨n, hn⟩ : ∃ n, s.m.op.length = n + 1 := ⟨s.m.op.length - 1, by have := List.length_pos_iff.2 hne; omega⟩
  have h1 : w.ownsRow base 5 1 (.slice (some ⟨g, 0, none⟩) (n + 1) cap) (n + 1) (s.m.op.map bV) := by
    have h := hR; unfold ORow at h; rw [List.length_map, hn] at h; exact h
  have h2 := rowN_cut h1 (Nat.le_succ n)
  have h3 : ORow w base 5 (.slice (some ⟨g, 0, none⟩) n cap) (s.m.op.dropLast.map bV) := by
    unfold ORow
    rw [List.dropLast_eq_take, List.length_map, List.length_take, hn]
    rw [Nat.mul_one, ← List.map_take] at h2
    rw [Nat.add_sub_cancel, Nat.min_eq_left (Nat.le_succ n)]
    exact h2
  rw [hn] at hB hlc
  have c1 : w.cell? ⟨m, 1, none⟩ = some (.slice (some ⟨g, 0, none⟩) (n + 1) cap) := hB.cell 1
  have hdd : Below w.heap.size w w.drew.drew := below_drew (below_drew (Below.refl _ _))
  have hB2 := hB.below hdd hB.lt
  have hR2 : ORow w.drew.drew base 5 (.slice (some ⟨g, 0, none⟩) n cap) (s.m.op.dropLast.map bV) := h3
  have hM2 := MAt.setop (M := s.m) hB2 h.mc.bm hR2
  have hM3 := hM2.set 0 (.int .i64 5) (M' := { s.m with op := s.m.op.dropLast, a := 5 }) (qp' := qp) (fun ov => rfl) rfl
  have f1 := hB.frozen 1
  have f0 := hB.frozen 0
  have d0 := hB.cell 0
  have hlt := hB.lt
  have ht : Tch base mOnly w ((w.drew.drew.setCell ⟨m, 1, none⟩ (.slice (some ⟨g, 0, none⟩) n cap)).setCell ⟨m, 0, none⟩ (.int .i64 5)) :=
    ((Tch.of_below hdd).trans ((Tch.refl _ _ _).set hB2 h.mc.bm (show mOnly (.cells _ _ _) from rfl) 1 _)).trans (hM2.touch 0 _)
  have ht2 := ht.wide fun _ => mo_of
  have hO := h.out.of_m ht2
  have hbw : Below base w ((w.drew.drew.setCell ⟨m, 1, none⟩ (.slice (some ⟨g, 0, none⟩) n cap)).setCell ⟨m, 0, none⟩ (.int .i64 5)) := ht.below hb
  have hT := fun k => tell_any _ base o ck s.st s.l (bare k) hO hg (hw.below hbw).std (bare_size k) hl (Nat.le_trans hb hbw.size)
  have HT := Lib.hid hT
  have HF := Lib.hid (fun k e w' (hp : TellPost _ base o ck s.st s.l (bare k) e w') => told (x := bare k) hM3 hp ht2)
  unfold finishB
  have hcl : ∀ b : Bool, ((topB s.m.op).toNat = 125) = (b = true) → True := fun _ _ => trivial
  by_cases h125 : (topB s.m.op).toNat = 125
  case pos =>
    rw [if_pos h125]
    rw [h125] at hC
    clear h125 hT hO hM2 hM3 hB hB2 hR hR2 h1 h2 h3 hne hg hl hcl hbw ht ht2 hdd hw
    go_enter Tryz.func139, Tryz.ntmps139
    go_wp2_with fail
    refine hC.mono ?_
    rintro e w1 ⟨rfl, rfl⟩
    go_wp2
    go_region
    go_wp2_with fail
    refine (HT.out 9).mono ?_
    intro e w5 hp
    have hq := HF.out 9 e w5 hp
    obtain ⟨rfl, _⟩ := hp
    go_wp2
    go_ret
    exact hq
  case neg =>
    rw [if_neg h125]
    have hcl2 : ((((topB s.m.op).toNat : Nat) : Int) == 125) = false := by rw [beq_eq_false_iff_ne]; omega
    clear h125 hT hO hM2 hM3 hB hB2 hR hR2 h1 h2 h3 hne hg hl hcl hbw ht ht2 hdd hw
    generalize (topB s.m.op).toNat = tb at *
    go_enter Tryz.func139, Tryz.ntmps139
    go_wp2_with fail
    refine hC.mono ?_
    rintro e w1 ⟨rfl, rfl⟩
    go_wp2
    go_region
    go_wp2_with fail
    refine (HT.out 6).mono ?_
    intro e w5 hp
    have hq := HF.out 6 e w5 hp
    obtain ⟨rfl, _⟩ := hp
    go_wp2
    go_ret
    exact hq

def uOnly : Obj → Prop
  | .cells _ t _ => t = 5
  | _ => False
theorem u_of_m {o : Obj} (h : uOnly o) : mObj o := by cases o <;> simp only [uOnly, mObj] at h ⊢; exact .inr h

theorem op_shape {w : World} {base : Nat} {v u : Value} {l : List UInt8} (h : ORow w base 5 v (l.map bV ++ [u])) : ∃ A c, v = .slice A (l.length + 1) c := by
  obtain ⟨A, c, e⟩ := h.shape
  exact ⟨A, c, by rw [e]; simp⟩

set_option maxHeartbeats 4000000 in
theorem begin_any (w : World) (base m o ck : Nat) (s : Bs) (qp : Value) (k : Int) (c : UInt8) (a : Int) (h : BAt w base m o ck s qp) (hop : s.m.op.length ≤ 100000) (hg : Good s.st) (hl : s.l.length ≤ 1000000) (hw : SW base w) (hb : base ≤ w.heap.size) :
    Calls Tryz.prog 147 #[.pointer (some ⟨m, 0, none⟩), .int .i64 k, .int .u8 (c.toNat : Int), .int .i64 a, .pointer (some ⟨o, 0, none⟩)] w (BPo w base m o ck qp (beginB s k c a)) := by
  obtain ⟨ov, hB, hR⟩ := h.mc.ex
  have c1 : w.cell? ⟨m, 1, none⟩ = some ov := hB.cell 1
  have h63 : (s.m.op.map bV).length + 1 ≤ maxLen := by simp only [maxLen, List.length_map]; omega
  have h1b : ((s.m.op.map bV).length + 1) * 1 ≤ 140737488355328 := by simp only [List.length_map]; omega
  have hbm := h.mc.bm
  have hout := h.out
  have H : Hid (∀ (A : Option Addr) (n cap : Nat) (w1 : World), ORow w1 base 5 (.slice A n cap) (s.m.op.map bV ++ [.int .u8 (c.toNat : Int)]) → w.grownBy w1 ov.ownBlock →
      w1.frozen? ⟨m, 1, none⟩ = false ∧ w1.cell? ⟨m, 1, none⟩ = some ov ∧ w1.frozen? ⟨m, 0, none⟩ = false ∧ w1.cell? ⟨m, 0, none⟩ = some (.int .i64 s.m.a) ∧ m < w1.heap.size ∧
      (∀ W, W = (w1.setCell ⟨m, 1, none⟩ (.slice A n cap)).setCell ⟨m, 0, none⟩ (.int .i64 a) → MAt W base m { s.m with op := s.m.op ++ [c], a := a } qp ∧ Tch base mObj w W ∧ Calls Tryz.prog 136 #[.pointer (some ⟨o, 0, none⟩), .agg #[.int .i64 k, .string ⟨#[]⟩, .string ⟨#[]⟩]] W (TellPost W base o ck s.st s.l (bare k)))) := by
    refine Lib.hid fun A n cap w1 hown hgr => ?_
    have htu : Tch base uOnly w w1 := Tch.of_row hR hgr (Nat.le_refl _) (fun cur => rfl)
    have hB1 := hB.tch htu (.inr (by simp only [uOnly]; decide))
    have hown' : ORow w1 base 5 (.slice A n cap) ((s.m.op ++ [c]).map bV) := by rw [List.map_append]; exact hown
    refine ⟨hB1.frozen 1, hB1.cell 1, hB1.frozen 0, hB1.cell 0, hB1.lt, fun W e => ?_⟩
    subst e
    have hM1 := MAt.setop (M := s.m) hB1 hbm hown'
    have hM2 := hM1.set 0 (.int .i64 a) (M' := { s.m with op := s.m.op ++ [c], a := a }) (qp' := qp) (fun ov => rfl) rfl
    have ht1 : Tch base mOnly w1 (w1.setCell ⟨m, 1, none⟩ (.slice A n cap)) := (Tch.refl _ _ _).set hB1 hbm (show mOnly (.cells _ _ _) from rfl) 1 _
    have ht : Tch base mObj w ((w1.setCell ⟨m, 1, none⟩ (.slice A n cap)).setCell ⟨m, 0, none⟩ (.int .i64 a)) := ((htu.wide fun _ => u_of_m).trans (ht1.wide fun _ => mo_of)).trans ((hM1.touch 0 _).wide fun _ => mo_of)
    exact ⟨hM2, ht, tell_any _ base o ck s.st s.l (bare k) (hout.of_m ht) hg (hw.tch ht hb).std (bare_size k) hl (Nat.le_trans hb ht.size)⟩
  unfold beginB
  clear hB hbm hout hg hl hw h
  go_enter Tryz.func147, Tryz.ntmps147
  go_wp2_with (first
    | (at_builtin; refine wp_app1 rfl _ _ 22 rfl base 5 (.int .u8 0) 1 Tryz.underlying22 Tryz.info5 rfl ov (s.m.op.map bV) (.int .u8 (c.toNat : Int)) rfl (by exact hR) rfl 1 rfl h63 h1b hb ?_; intro v1 w1 hown1 hg1 _; obtain ⟨A1, cp1, rfl⟩ := op_shape hown1; obtain ⟨f1, d1, f0, d0, dl, HN⟩ := H.out _ _ _ w1 hown1 hg1; clear H hown1 hg1 hR c1))
  refine (HN _ rfl).2.2.mono ?_
  intro e w5 hp
  have hq := told (x := bare k) (HN _ rfl).1 hp (HN _ rfl).2.1
  obtain ⟨rfl, _⟩ := hp
  clear HN
  go_wp2
  go_ret
  exact hq
end Go.Proofs.YthhhmgkkklopfaaGreatDoor

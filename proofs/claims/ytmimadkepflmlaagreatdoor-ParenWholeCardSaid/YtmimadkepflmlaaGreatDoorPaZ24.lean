/-
  paren: the machine with all that it holds: the events that wait, the Check of the attributes' names, the open string.
-/
import Derived.Test.YtmimadkepflmlaaGreatDoorPaZ23
namespace Go.Proofs.YtmimadkepflmlaaGreatDoor
open Go.RowKit Go.Maps
set_option maxRecDepth 100000
set_option linter.unusedSimpArgs false
set_option linter.unusedVariables false
set_option linter.unusedSectionVars false
variable [Tab]
/-- More foreign blocks. -/
@[reducible] def Fo.plus (fo : Fo) (A : Nat → Prop) (n : Nat) (h : ∀ k, A k → k < n) : Fo :=
  ⟨fun k => fo.F k ∨ A k, max fo.lim n, fun k hk => hk.elim (fun h1 => Nat.lt_of_lt_of_le (fo.ok k h1) (Nat.le_max_left _ _)) (fun h2 => Nat.lt_of_lt_of_le (h k h2) (Nat.le_max_right _ _))⟩
/-- The blocks of a Check. -/
def inC (g rb : Nat) (qs : List PQ) (k : Nat) : Prop := k = g ∨ k = rb ∨ ∃ q ∈ qs, q.m = some k
theorem tch_weak (f1 f2 : Fo) (hF : ∀ k, f2.F k → f1.F k) {c : Nat} {p : Obj → Prop} {w w' : World} (h : @Tch f1 c p w w') : @Tch f2 c p w w' := by
  obtain ⟨h1, h2, h3, h4, h5⟩ := h
  exact @Tch.mk f2 c p w w' h1 h2 h3 h4 (fun k o' ho hc => h5 k o' ho (hc.imp id (Or.imp id (hF k))))
variable [fo : Fo]
/-- The Check of the attributes' names: none yet, or one at the blocks A. -/
def AttAt (w : World) (base : Nat) (A : Nat → Prop) (av : Value) (sa : List Pt) : Prop :=
  (av = .pointer none ∧ sa = [] ∧ ∀ k, ¬ A k) ∨ ∃ g rb cap qs, av = .pointer (some ⟨g, 0, none⟩) ∧ CRep w base g rb cap qs ∧ ptsOf qs = sa ∧ ∀ k, A k ↔ inC g rb qs k
def OutA (fo : Fo) (w : World) (base o ck : Nat) (st : List Pt) (l : List Ev) (A : Nat → Prop) : Prop :=
  ∃ n h, @OAt (Fo.plus fo A n h) w base o ck st l
structure PX (w : World) (base b2 U m o ck : Nat) (s : Ps) (qp av : Value) (A : Nat → Prop) : Prop where
  mc : PmAt w base m s.m (.map (some U)) qp av
  us : UsesAt w base b2 U
  att : AttAt w b2 A av s.m.sa
  out : OutA fo w b2 o ck s.st s.l A
  b2 : base ≤ b2 ∧ b2 ≤ w.heap.size
  qa : s.m.wi = 4 → ∃ g, qp = .pointer (some ⟨g, 0, none⟩) ∧ Qt.QAt w g s.m.q ∧ base ≤ g
/-- What the machine's calls may turn. -/
def pObj (o : Obj) : Prop := tObj o ∨ pmObj o ∨ Qt.qObj o
theorem p_t {o : Obj} (h : tObj o) : pObj o := .inl h
theorem p_m {o : Obj} (h : pmObj o) : pObj o := .inr (.inl h)
theorem p_mo {o : Obj} (h : pmOnly o) : pObj o := .inr (.inl (pm_of h))
theorem p_q {o : Obj} (h : Qt.qObj o) : pObj o := .inr (.inr h)
section
variable {w w' : World} {base b2 U m o ck : Nat} {s : Ps} {qp av : Value} {A : Nat → Prop}
/-- A Check's blocks lie as they lay. -/
theorem CRep.same {g rb cap : Nat} {qs : List PQ} (h : CRep w b2 g rb cap qs) (hs : w.heap.size ≤ w'.heap.size) (hk : ∀ k o', inC g rb qs k → w.heap[k]? = some o' → w'.heap[k]? = some o') : CRep w' b2 g rb cap qs := by
  refine ⟨h.hg, hk g _ (.inl rfl) h.blk, ?_, h.maps.keep fun q hq b hqb hbm => ?_, h.nf.1, h.nf.2.1, Nat.le_trans h.nf.2.2 hs⟩
  · refine ⟨h.row.1, ?_⟩
    rcases h.row.2 with ⟨hv, _⟩ | ⟨r, c, cur, hv, hg, hh, q⟩
    · cases hv
    · refine .inr ⟨r, c, cur, hv, hg, ?_, q⟩
      injection hv with e1
      injection e1 with e1
      injection e1 with e1
      subst e1
      exact hk _ _ (.inr (.inl rfl)) hh
  · obtain ⟨es, c, hb⟩ := hbm
    rw [hk b _ (.inr (.inr ⟨q, hq, hqb⟩)) hb, hb]
theorem CRep.kinds {g rb cap : Nat} {qs : List PQ} (h : CRep w b2 g rb cap qs) {k : Nat} {o' : Obj} (hi : inC g rb qs k) (ho : w.heap[k]? = some o') : (∃ cs t fr, o' = .cells cs t fr ∧ (t = 62 ∨ t = 59)) ∨ ∃ es c, o' = .map es c := by
  rcases hi with rfl | rfl | ⟨q, hq, hqb⟩
  · have hb := h.blk
    unfold Blk at hb
    rw [hb] at ho
    injection ho with ho
    exact .inl ⟨_, _, _, ho.symm, .inl rfl⟩
  · obtain ⟨cur, hc⟩ := h.row_obj
    rw [hc] at ho
    injection ho with ho
    exact .inl ⟨_, _, _, ho.symm, .inr rfl⟩
  · have hm : ∀ {l : List PQ}, MapsOk w b2 l → ∀ q ∈ l, q.m = some k → ∃ es c, w.heap[k]? = some (.map es c) := by
      intro l
      induction l with
      | nil => intro _ q hq; cases hq
      | cons p r ih =>
        intro hM q hq hqb
        rcases List.mem_cons.1 hq with rfl | hq
        · have hk := hM.2.1
          rw [hqb] at hk
          exact SetAt.obj hk
        · exact ih hM.2.2 q hq hqb
    obtain ⟨es, c, hb⟩ := hm h.maps q hq hqb
    rw [hb] at ho
    injection ho with ho
    exact .inr ⟨es, c, ho.symm⟩
theorem CRep.tchX {p : Obj → Prop} {g rb cap c : Nat} {qs : List PQ} (h : CRep w b2 g rb cap qs) (ht : Tch c p w w') (h1 : ∀ cs t fr, t = 62 ∨ t = 59 → ¬ p (.cells cs t fr)) (h2 : ∀ es c, ¬ p (.map es c)) : CRep w' b2 g rb cap qs :=
  h.same ht.size fun k o' hi ho => ht.block k o' ho (.inr (.inl (by
    rcases h.kinds hi ho with ⟨cs, t, fr, rfl, hh⟩ | ⟨es, c', rfl⟩
    · exact h1 _ _ _ hh
    · exact h2 _ _)))
theorem AttAt.tch {p : Obj → Prop} {b : Nat} {sa : List Pt} (h : AttAt w b A av sa) {c : Nat} (ht : Tch c p w w') (h1 : ∀ cs t fr, t = 62 ∨ t = 59 → ¬ p (.cells cs t fr)) (h2 : ∀ es c, ¬ p (.map es c)) : AttAt w' b A av sa := by
  rcases h with h | ⟨g, rb, cap, qs, e, hr, hp, hA⟩
  · exact .inl h
  · exact .inr ⟨g, rb, cap, qs, e, hr.tchX ht h1 h2, hp, hA⟩
theorem UsesAt.tch {p : Obj → Prop} {c : Nat} (h : UsesAt w base b2 U) (ht : Tch c p w w') (h2 : ∀ es c, ¬ p (.map es c)) : UsesAt w' base b2 U := by
  obtain ⟨b0, b5, b7, b10, k0, k1, k2, k3, k4, r⟩ := h.ex
  have hk : ∀ b : Nat, (∃ es c, w.heap[b]? = some (Obj.map es c)) → w'.heap[b]? = w.heap[b]? := by
    rintro b ⟨es, c, hb⟩
    rw [ht.block b _ hb (.inr (.inl (h2 _ _))), hb]
  have ho : ∀ {n f}, OMn w U n f → ∃ es c, w.heap[U]? = some (Obj.map es c) := fun ⟨D, ⟨es, c, hb, _⟩, _⟩ => ⟨es, c, hb⟩
  have hu : ∀ {b n f}, UMn w b n f → ∃ es c, w.heap[b]? = some (Obj.map es c) := fun ⟨D, ⟨es, c, hb, _⟩, _⟩ => ⟨es, c, hb⟩
  exact ⟨b0, b5, b7, b10, k0.keep (hk _ (ho k0)), k1.keep (hk _ (hu k1)), k2.keep (hk _ (hu k2)), k3.keep (hk _ (hu k3)), k4.keep (hk _ (hu k4)), r⟩
theorem qat_tch {p : Obj → Prop} {c g : Nat} {q : Qt.QS} (h : Qt.QAt w g q) (ht : Tch c p w w') (hp : ∀ cs t fr, t = 196 ∨ t = 5 → ¬ p (.cells cs t fr)) : Qt.QAt w' g q := by
  obtain ⟨d, n, ⟨v, hB, hR, h1, h2, h3⟩, hq⟩ := h
  exact ⟨d, n, ⟨v, hB.tch ht (.inr (hp _ _ _ (.inl rfl))), row_tch hR ht (fun _ _ => hp _ _ _ (.inr rfl)), h1, h2, Nat.le_trans h3 ht.size⟩, hq⟩
theorem OAt.keepX {b : Nat} {st : List Pt} {l : List Ev} (h : OAt w b o ck st l) (hs : w.heap.size ≤ w'.heap.size)
    (kc : ∀ (k : Nat) cs t fr, w.heap[k]? = some (Obj.cells cs t fr) → (t = 62 ∨ t = 59 ∨ t = 52 ∨ t = 36) → w'.heap[k]? = some (Obj.cells cs t fr))
    (km : ∀ (k : Nat) es c, w.heap[k]? = some (Obj.map es c) → w'.heap[k]? = some (Obj.map es c)) : OAt w' b o ck st l := by
  have hr : ∀ {e size n v xs}, w.ownsRow b e size v n xs → (e = 59 ∨ e = 36) → w'.ownsRow b e size v n xs := fun {e size n v xs} h he => by
    refine ⟨h.1, ?_⟩
    rcases h.2 with hn | ⟨g, cap, cur, hv, hg, hh, q⟩
    · exact .inl hn
    · exact .inr ⟨g, cap, cur, hv, hg, kc _ _ _ _ hh (by rcases he with rfl | rfl; exact .inr (.inl rfl); exact .inr (.inr (.inr rfl))), q⟩
  obtain ⟨⟨lv, hB, hR, hf⟩, hC, hb, ho⟩ := h
  obtain ⟨rb, cap, qs, hq, hC⟩ := hC
  refine ⟨⟨lv, kc _ _ _ _ hB (.inr (.inr (.inl rfl))), hr hR (.inr rfl), hf⟩, ⟨rb, cap, qs, hq, ?_⟩, hb, ho⟩
  refine hC.same hs fun k o' hi hoo => ?_
  rcases hC.kinds hi hoo with ⟨cs, t, fr, rfl, hh⟩ | ⟨es, c', rfl⟩
  · exact kc _ _ _ _ hoo (by rcases hh with hh | hh; exact .inl hh; exact .inr (.inl hh))
  · exact km _ _ _ hoo
theorem OutA.tch {p : Obj → Prop} {b c : Nat} {st : List Pt} {l : List Ev} (h : OutA fo w b o ck st l A) (ht : Tch c p w w') (h1 : ∀ cs t fr, t = 62 ∨ t = 59 ∨ t = 52 ∨ t = 36 → ¬ p (.cells cs t fr)) (h2 : ∀ es c, ¬ p (.map es c)) : OutA fo w' b o ck st l A := by
  obtain ⟨n, hn, h⟩ := h
  exact ⟨n, hn, @OAt.keepX _ (Fo.plus fo A n hn) _ _ _ _ _ _ _ h ht.size (fun k cs t fr hk ht1 => ht.block k _ hk (.inr (.inl (h1 cs t fr ht1)))) (fun k es c' hk => ht.block k _ hk (.inr (.inl (h2 _ _))))⟩
/-- The machine's own cells have turned. -/
theorem PX.pm (h : PX w base b2 U m o ck s qp av A) {M' : Pm} (ht : Tch base pmObj w w') (hM : PmAt w' base m M' (.map (some U)) qp av) (hs : M'.sa = s.m.sa) (hw : M'.wi = 4 → s.m.wi = 4 ∧ M'.q = s.m.q) : PX w' base b2 U m o ck { s with m := M' } qp av A := by
  have n1 : ∀ cs t fr, t = 62 ∨ t = 59 ∨ t = 52 ∨ t = 36 → ¬ pmObj (.cells cs t fr) := fun cs t fr h hc => by
    simp only [pmObj] at hc
    rcases h with rfl | rfl | rfl | rfl <;> exact absurd hc (by decide)
  have n2 : ∀ es c, ¬ pmObj (.map es c) := fun _ _ hc => hc
  refine ⟨hM, h.us.tch ht n2, ?_, h.out.tch ht n1 n2, ⟨h.b2.1, Nat.le_trans h.b2.2 ht.size⟩, fun hw4 => ?_⟩
  · show AttAt w' b2 A av M'.sa
    rw [hs]
    exact h.att.tch ht (fun cs t fr hh => n1 cs t fr (hh.imp id .inl)) n2
  · obtain ⟨h4, hq⟩ := hw hw4
    obtain ⟨g, e, hQ, hg⟩ := h.qa h4
    refine ⟨g, e, ?_, hg⟩
    show Qt.QAt w' g M'.q
    rw [hq]
    exact qat_tch hQ ht (fun cs t fr hh hc => by simp only [pmObj] at hc; rcases hh with rfl | rfl <;> exact absurd hc (by decide))
/-- Nothing that lay has turned. -/
theorem PX.below (h : PX w base b2 U m o ck s qp av A) (hb : Below w.heap.size w w') : PX w' base b2 U m o ck s qp av A :=
  h.pm (Tch.of_below hb) (h.mc.below hb) rfl (fun h => ⟨h, rfl⟩)
theorem AttAt.same {sa : List Pt} (h : AttAt w b2 A av sa) (hs : w.heap.size ≤ w'.heap.size) (hk : ∀ k o', A k → w.heap[k]? = some o' → w'.heap[k]? = some o') : AttAt w' b2 A av sa := by
  rcases h with h | ⟨g, rb, cap, qs, e, hr, hp, hA⟩
  · exact .inl h
  · exact .inr ⟨g, rb, cap, qs, e, hr.same hs (fun k o' hi ho => hk k o' ((hA k).2 hi) ho), hp, hA⟩
end
/-- What telling an event leaves. -/
def TPost (w : World) (base b2 U m o ck : Nat) (s : Ps) (qp av : Value) (A : Nat → Prop) (x : Ev) (e : Ending) (w' : World) : Prop :=
  e = .returned (.int .i64 (stepE s.st x)) ∧ PX w' base b2 U m o ck ⟨s.m, stepS s.st x, tellL s.st s.l x⟩ qp av A ∧ Tch base tObj w w'
theorem PX.tell {w : World} {base b2 U m o ck : Nat} {s : Ps} {qp av : Value} {A : Nat → Prop} (h : PX w base b2 U m o ck s qp av A) (x : Ev) (hg : Good s.st) (hw : SW base w) (hs : x.t.size ≤ 140737488355328) (hl : s.l.length ≤ 1000000) :
    Calls Tryz.prog 143 #[.pointer (some ⟨o, 0, none⟩), .agg #[.int .i64 x.k, .string x.t, .string x.v]] w (TPost w base b2 U m o ck s qp av A x) := by
  obtain ⟨n, hn, hO⟩ := h.out
  refine (@tell_any _ (Fo.plus fo A n hn) w b2 o ck s.st s.l x hO hg hw.std hs hl h.b2.2).mono ?_
  rintro e w' ⟨rfl, hO', ht⟩
  have ht0 : Tch b2 tObj w w' := tch_weak (Fo.plus fo A n hn) fo (fun k hk => .inl hk) ht
  have hblk : ∀ k o', A k → w.heap[k]? = some o' → w'.heap[k]? = some o' := by
    obtain ⟨_, _, _, _, hb⟩ := ht
    exact fun k o' hA ho => hb k o' ho (.inr (.inr (.inr hA)))
  have htb : Tch base tObj w w' := Tch.of_up ht0 h.b2.1
  refine ⟨rfl, ⟨?_, h.us.low (ht0.below h.b2.2), ?_, ⟨n, hn, hO'⟩, ⟨h.b2.1, Nat.le_trans h.b2.2 ht0.size⟩, fun h4 => ?_⟩, htb⟩
  · exact h.mc.tch htb (fun cs t fr hh hc => by simp only [tObj] at hc; rcases hh with rfl | rfl <;> exact absurd hc (by decide))
  · exact h.att.same ht0.size hblk
  · obtain ⟨g, e, hQ, hg⟩ := h.qa h4
    exact ⟨g, e, qat_tch hQ htb (fun cs t fr hh hc => by simp only [tObj] at hc; rcases hh with rfl | rfl <;> exact absurd hc (by decide)), hg⟩
/-- What a call of the machine leaves. -/
def PPo (w : World) (base b2 U m o ck : Nat) (r : Pr) (e : Ending) (w' : World) : Prop :=
  e = .returned (.int .i64 r.e) ∧ (∃ qp av A, PX w' base b2 U m o ck r.b qp av A) ∧ Tch base pObj w w'
theorem TPost.p {w w0 w' : World} {base b2 U m o ck : Nat} {s : Ps} {qp av : Value} {A : Nat → Prop} {x : Ev} {e : Ending} (h : TPost w base b2 U m o ck s qp av A x e w') (ht : Tch base pObj w0 w) : PPo w0 base b2 U m o ck (tellP s.m s.st s.l x) e w' :=
  ⟨h.1, ⟨_, _, _, h.2.1⟩, ht.trans (h.2.2.wide fun _ => p_t)⟩
end Go.Proofs.YtmimadkepflmlaaGreatDoor

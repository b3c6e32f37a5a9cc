/-
  outline: what reads alone: keyAndColon, knownWord.
  A region that draws its order: an operation that is taken first, where the operations that S is not asked behind wait for it, by way of others.
  outline: what holds between the steps of a line; fields.
  outline: the Anchors' calls while a line is read; reference.
-/
import Derived.Test.YtalkjgijmceifaaGreatDoorOwA30
import Derived.Test.YtalkjgijmceifaaGreatDoorOwA11
namespace Go.Proofs.YtalkjgijmceifaaGreatDoor
open Go.RowKit Go.Maps
set_option maxRecDepth 100000
set_option linter.unusedSimpArgs false
set_option linter.unusedVariables false
set_option linter.unusedSectionVars false
variable [Tab] [Fo]

section
variable {L p : Nat} {o : LO} {S : List UInt8} {a : Nat} {w : World}
set_option maxHeartbeats 2000000 in
theorem kc_any (h : LAt w L o S a) (hS : S.length ≤ 1000) (ha : a ≤ S.length) (hfl : Fo.lim ≤ w.heap.size) :
    Calls Tryz.prog 185 #[rV L p] w (Pu (I0 L o S w) (F0 L o S w) (kcO S a)) := by
  obtain ⟨g, W, hg, hW, hB, al, hlt⟩ := box_new w #[.pointer (some ⟨L, 0, none⟩), .pointer (some ⟨p, 0, none⟩)] 221
  have hgL : g ≠ L := by have := Blk.lt h; omega
  have hi : I0 L o S W a W := i0_refl (Blk.below h al (Blk.lt h)) ha
  have HU := Lib.hid (lnf_below (L := L) al)
  obtain ⟨R, hR⟩ : ∃ R, kcO S a = R := ⟨_, rfl⟩
  rw [hR]
  unfold kcO at hR
  have HR := Lib.hid hR
  have b0 : W.cell? ⟨g, 0, none⟩ = some (.pointer (some ⟨L, 0, none⟩)) := hB.cell 0
  have b1 : W.cell? ⟨g, 1, none⟩ = some (.pointer (some ⟨p, 0, none⟩)) := hB.cell 1
  have HB := Lib.hid (And.intro hB hgL)
  have HFL : Hid (Fo.lim ≤ w.heap.size → Fo.lim ≤ W.heap.size) := Lib.hid (fun h => Nat.le_trans h al.size)
  have HI := Lib.hid hi
  unfold rV
  clear h al hi hB hR hgL
  go_enter Tryz.func185, Tryz.ntmps185
  have hK := keyo_any (p := p) HI.out.1 hS HI.out.2.1 (HFL.out hfl)
  unfold rV at hK
  have HK := Lib.hid hK
  clear hK hfl
  go_wp2_with fail
  refine HK.out.mono ?_
  rintro e w1 (⟨t, a1, hr, rfl, h1⟩ | ⟨hr, k, rfl, hF⟩)
  case inr => exact ⟨rfl, pu_up HU.out (.inr ⟨by rw [← HR.out, hr]; rfl, k, rfl, hF⟩)⟩
  obtain ⟨k1, k2, k3⟩ := keyo_fa hr
  rw [hr] at HR
  have HBw1 := (h1.2.2.blk HB.out.1 HB.out.2)
  have b0 : w1.cell? ⟨g, 0, none⟩ = some (.pointer (some ⟨L, 0, none⟩)) := HBw1.cell 0
  have b1 : w1.cell? ⟨g, 1, none⟩ = some (.pointer (some ⟨p, 0, none⟩)) := HBw1.cell 1
  have hl_w1 : g < w1.heap.size := HBw1.lt
  clear HBw1
  have l1 : w1.cell? ⟨L, 1, none⟩ = some (.int .i64 (a1 : Int)) := Blk.cell h1.1 1
  have f1 := Blk.frozen h1.1 1
  have hLl := Blk.lt h1.1
  obtain ⟨a3, ha3⟩ : ∃ a3 : Nat, (a1 : Int) + 1 = a3 := ⟨a1 + 1, rfl⟩
  have hn3 : a1 + 1 = a3 := by omega
  have hi3 := i0_next h1 k2
  rw [hn3] at hi3
  have hb3 : a3 ≤ 1000 := by omega
  have HR2 : Hid (colonO S a3 = R) := Lib.hid (by rw [← hn3]; exact HR.out)
  have HG := Lib.hid (And.intro hi3 (i0_refl hi3.1 hi3.2.1))
  have HB3 := hi3.2.2.blk HB.out.1 HB.out.2
  have b0' : (w1.setCell ⟨L, 1, none⟩ (.int .i64 (a3 : Int))).cell? ⟨g, 0, none⟩ = some (.pointer (some ⟨L, 0, none⟩)) := HB3.cell 0
  have b1' : (w1.setCell ⟨L, 1, none⟩ (.int .i64 (a3 : Int))).cell? ⟨g, 1, none⟩ = some (.pointer (some ⟨p, 0, none⟩)) := HB3.cell 1
  have hE := colon_any (p := p) hi3.1 hS hi3.2.1
  rw [HR2.out] at hE
  unfold rV at hE
  have HE := Lib.hid hE
  clear hE h1 hr HR hi3 HK HI HB3 hn3 k1 k2 k3
  go_wp2_with fail
  refine HE.out.mono ?_
  rintro e w2 (⟨a2, hr, rfl, h2⟩ | ⟨hr, k, rfl, hF⟩)
  case inr => exact ⟨rfl, pu_up (HU.out.trans HG.out.1.2.2) (.inr ⟨hr, k, rfl, hF⟩)⟩
  have H9 := Lib.hid (And.intro hr h2)
  clear hr h2
  go_wp2
  go_end0
  exact pu_up (HU.out.trans HG.out.1.2.2) (.inl ⟨a2, H9.out.1, rfl, H9.out.2⟩)
set_option maxHeartbeats 2000000 in
theorem known_any (h : LAt w L o S a) (hS : S.length ≤ 1000) (ha : a ≤ S.length) :
    Calls Tryz.prog 194 #[rV L p] w (Pu (I0 L o S w) (F0 L o S w) (knownO S a)) := by
  obtain ⟨g, W, hg, hW, hB, al, hlt⟩ := box_new w #[.pointer (some ⟨L, 0, none⟩), .pointer (some ⟨p, 0, none⟩)] 221
  have hgL : g ≠ L := by have := Blk.lt h; omega
  have hi : I0 L o S W a W := i0_refl (Blk.below h al (Blk.lt h)) ha
  have HU := Lib.hid (lnf_below (L := L) al)
  obtain ⟨R, hR⟩ : ∃ R, knownO S a = R := ⟨_, rfl⟩
  rw [hR]
  unfold knownO at hR
  have HR := Lib.hid hR
  have b0 : W.cell? ⟨g, 0, none⟩ = some (.pointer (some ⟨L, 0, none⟩)) := hB.cell 0
  have b1 : W.cell? ⟨g, 1, none⟩ = some (.pointer (some ⟨p, 0, none⟩)) := hB.cell 1
  have HB := Lib.hid (And.intro hB hgL)
  have HFL : Hid (Fo.lim ≤ w.heap.size → Fo.lim ≤ W.heap.size) := Lib.hid (fun h => Nat.le_trans h al.size)
  have HI := Lib.hid hi
  unfold rV
  clear h al hi hB hR hgL
  go_enter Tryz.func194, Tryz.ntmps194
  have l0 : W.cell? ⟨L, 1, none⟩ = some (.int .i64 (a : Int)) := Blk.cell HI.out.1 1
  have hK := name_I (lnI0 W hS) HI.out
  have HK := Lib.hid hK
  clear hK
  go_wp2_with fail
  refine HK.out.mono ?_
  rintro e w1 (⟨t, a1, hr, rfl, h1⟩ | ⟨hr, k, rfl, hF⟩)
  case inr => exact ⟨rfl, pu_up HU.out (.inr ⟨by rw [← HR.out, hr]; rfl, k, rfl, hF⟩)⟩
  obtain ⟨k1, k2, k3⟩ := nam_fa hr
  rw [hr] at HR
  have HBw1 := (h1.2.2.blk HB.out.1 HB.out.2)
  have b0 : w1.cell? ⟨g, 0, none⟩ = some (.pointer (some ⟨L, 0, none⟩)) := HBw1.cell 0
  have b1 : w1.cell? ⟨g, 1, none⟩ = some (.pointer (some ⟨p, 0, none⟩)) := HBw1.cell 1
  have hl_w1 : g < w1.heap.size := HBw1.lt
  clear HBw1
  have l1 : w1.cell? ⟨L, 1, none⟩ = some (.int .i64 (a1 : Int)) := Blk.cell h1.1 1
  have f1 := Blk.frozen h1.1 1
  have hLl := Blk.lt h1.1
  obtain ⟨a3, ha3⟩ : ∃ a3 : Nat, (a1 : Int) + 1 = a3 := ⟨a1 + 1, rfl⟩
  have hn3 : a1 + 1 = a3 := by omega
  have hi3 := i0_next h1 k2
  rw [hn3] at hi3
  have hb3 : a3 ≤ 1000 := by omega
  have HR2 : Hid ((if t = ⟨nullL.toArray⟩ ∨ t = ⟨trueL.toArray⟩ ∨ t = ⟨falseL.toArray⟩ then some a else none) = R) := Lib.hid HR.out
  have HG := Lib.hid hi3
  have HB3 := hi3.2.2.blk HB.out.1 HB.out.2
  have b0' : (w1.setCell ⟨L, 1, none⟩ (.int .i64 (a3 : Int))).cell? ⟨g, 0, none⟩ = some (.pointer (some ⟨L, 0, none⟩)) := HB3.cell 0
  have m1 : (w1.setCell ⟨L, 1, none⟩ (.int .i64 (a3 : Int))).cell? ⟨L, 1, none⟩ = some (.int .i64 (a3 : Int)) := Blk.cell hi3.1 1
  have n1 := Blk.frozen hi3.1 1
  have hfin : ∀ w5, I0 L o S W a3 w5 → I0 L o S W a (w5.setCell ⟨L, 1, none⟩ (.int .i64 (a : Int))) := fun w5 h5 => ⟨h5.1.go a, ha, h5.2.2.trans (grown_at (World.grownBy.refl w5 _) _)⟩
  have HF := Lib.hid hfin
  have HFa := Lib.hid (fail_I (lnI0 W hS) 2 (by decide) hi3)
  clear h1 hr HR hi3 HK HI HB3 hn3 k1 k2 k3 hfin
  have hq : ∀ l : List UInt8, (t.toList == l) = true ↔ t = ⟨l.toArray⟩ := fun l => by
    rw [beq_iff_eq, ByteArray.toList_eq]
    constructor
    · intro e; rw [← e]
    · intro e; rw [e]
  have HQ := Lib.hid hq
  have fin1 : (t = ⟨nullL.toArray⟩ ∨ t = ⟨trueL.toArray⟩ ∨ t = ⟨falseL.toArray⟩) → Hid (some a = R) := fun h => Lib.hid (by rw [← HR2.out, if_pos h])
  have fin2 : ¬ (t = ⟨nullL.toArray⟩ ∨ t = ⟨trueL.toArray⟩ ∨ t = ⟨falseL.toArray⟩) → Hid (R = none) := fun h => Lib.hid (by rw [← HR2.out, if_neg h])
  have HF1 := Lib.hid fin1
  have HF2 := Lib.hid fin2
  clear hq fin1 fin2 HR2
  cases c1 : (t.toList == [110, 117, 108, 108]) with
  | true =>
    have HR3 := HF1.out (.inl ((HQ.out _).1 c1))
    clear HF1 HF2 HQ
    go_wp2
    go_end0
    exact pu_up HU.out (.inl ⟨a, HR3.out.symm, rfl, HF.out _ HG.out⟩)
  | false =>
    cases c2 : (t.toList == [116, 114, 117, 101]) with
    | true =>
      have HR3 := HF1.out (.inr (.inl ((HQ.out _).1 c2)))
      clear HF1 HF2 HQ
      go_wp2
      go_end0
      exact pu_up HU.out (.inl ⟨a, HR3.out.symm, rfl, HF.out _ HG.out⟩)
    | false =>
      cases c3 : (t.toList == [102, 97, 108, 115, 101]) with
      | true =>
        have HR3 := HF1.out (.inr (.inr ((HQ.out _).1 c3)))
        clear HF1 HF2 HQ
        go_wp2
        go_end0
        exact pu_up HU.out (.inl ⟨a, HR3.out.symm, rfl, HF.out _ HG.out⟩)
      | false =>
        have HR3 := HF2.out (fun h => by
          rcases h with h | h | h
          · have := (HQ.out [110, 117, 108, 108]).2 h; rw [c1] at this; cases this
          · have := (HQ.out [116, 114, 117, 101]).2 h; rw [c2] at this; cases this
          · have := (HQ.out [102, 97, 108, 115, 101]).2 h; rw [c3] at this; cases this)
        clear HF1 HF2 HQ
        go_wp2_with fail
        refine HFa.out.mono ?_
        rintro e w5 ⟨rfl, h5⟩
        exact ⟨rfl, pu_up HU.out (.inr ⟨HR3.out, 2, rfl, h5⟩)⟩
end
end Go.Proofs.YtalkjgijmceifaaGreatDoor
namespace Go.Proofs.YtalkjgijmceifaaGreatDoor
open Go Go.RowKit
set_option linter.unusedSectionVars false
variable [Fo]

section
variable {P : Program} {ops : Array Oper} {Q : Exit → Act → World → Prop} {md : Region.Mode} {S : World → Prop} {Es : List Nat}
/-- E waits for i, by way of others. -/
def waitsT (md : Region.Mode) (ops : Array Oper) (i : Nat) : Nat → Nat → Bool
  | 0, _ => false
  | n + 1, E => match ops[E]? with | some o => o.after.any fun e => Region.binds md e && (decide (e.on = i) || waitsT md ops i n e.on) | none => false
/-- What is listed waits for what is listed alone. -/
def Closed (md : Region.Mode) (ops : Array Oper) (listed : Array Bool) : Prop := ∀ (k : Nat) (o : Oper), ops[k]? = some o → listed.getD k false = true → ∀ e ∈ o.after, Region.binds md e = true → listed.getD e.on false = true
def closedB (md : Region.Mode) (ops : Array Oper) (listed : Array Bool) : Bool := (List.range ops.size).all fun k => !listed.getD k false || (match ops[k]? with | some o => o.after.all fun e => !Region.binds md e || listed.getD e.on false | none => true)
theorem closed_of {listed : Array Bool} (h : closedB md ops listed = true) : Closed md ops listed := by
  intro k o ho hl e he hb
  have hk : k < ops.size := (Array.getElem?_eq_some_iff.1 ho).1
  have h1 := List.all_eq_true.1 h k (List.mem_range.2 hk)
  rw [hl, ho] at h1
  simp only [Bool.not_true, Bool.false_or] at h1
  have h2 := Array.all_eq_true'.1 h1 e he
  rw [hb] at h2
  simpa using h2
theorem waits_listed {i : Nat} {listed : Array Bool} (hc : Closed md ops listed) : ∀ (n E : Nat) (o : Oper), ops[E]? = some o → (∀ e ∈ o.after, Region.binds md e = true → listed.getD e.on false = true) → waitsT md ops i n E = true → listed.getD i false = true
  | 0, _, _, _, _, h => by cases h
  | n + 1, E, o, ho, hall, h => by
    unfold waitsT at h
    rw [ho] at h
    simp only [Array.any_eq_true, Bool.and_eq_true, Bool.or_eq_true, decide_eq_true_iff] at h
    obtain ⟨q, hq, hb, h⟩ := h
    have hl := hall _ (Array.getElem_mem hq) hb
    rcases h with h | h
    · rw [← h]; exact hl
    · cases ho2 : ops[o.after[q].on]? with
      | none =>
        cases n with
        | zero => cases h
        | succ n => unfold waitsT at h; rw [ho2] at h; cases h
      | some o2 => exact waits_listed hc n _ o2 ho2 (hc _ _ ho2 hl) h
theorem unlisted {listed : Array Bool} {i : Nat} (h : listed.getD i true = false) : ¬ listed.getD i false = true := by
  intro h2
  rcases Nat.lt_or_ge i listed.size with h' | h'
  · simp [h'] at h h2; rw [h] at h2; cases h2
  · simp [Array.getElem?_eq_none h'] at h
theorem closed_set {listed : Array Bool} {j : Nat} (hc : Closed md ops listed) (hj : j ∈ Region.ready md ops listed) : Closed md ops (listed.setIfInBounds j true) := by
  intro k o ho hl e he hb
  by_cases hjk : j = k
  · subst hjk
    obtain ⟨_, o', ho', hall⟩ := mem_ready.1 hj
    rw [ho] at ho'
    injection ho' with ho'
    subst ho'
    exact getD_set_true (hall e he hb)
  · rw [getD_set_ne false hjk] at hl
    exact getD_set_true (hc k o ho hl e he hb)
theorem g_firstT {i : Nat} {oi : Oper} {v : Value} (nW : Nat) (hi : ops[i]? = some oi) (hsel : ∀ (j : Nat) (o : Oper) cs b, ops[j]? = some o → o.op ≠ .select cs b) (hE : (Es.all fun E => waitsT md ops i nW E) = true)
    (hQ : ∀ c a w, Q (.panic c) (a.put oi.dst v) w → Q (.panic c) a w) :
    ∀ (fuel : Nat) (listed : Array Bool) (a : Act) (w : World),
      (∀ j oj, ops[j]? = some oj → j ≠ i → listed.getD j true = false → (∀ e ∈ oj.after, Region.binds md e = true → e.on ≠ i) → oi.apart ops oj = true) →
      i ∈ Region.ready md ops listed → Closed md ops listed → YieldsIf P ops S oi v a → S w →
      wpAnyG P md ops Q Es S fuel (listed.setIfInBounds i true) (a.put oi.dst v) w → wpAnyG P md ops Q Es S (fuel + 1) listed a w := by
  intro fuel
  induction fuel with
  | zero =>
    intro listed a w _ hr _ hy hS H
    refine ⟨fun h => (by rw [h] at hr; cases hr), fun j hj => ?_⟩
    by_cases hji : j = i
    · subst hji; exact hy.wpOp hi hS ⟨fun _ => hS, H⟩
    · have := ready_mono hj hji
      rw [H.1] at this
      cases this
  | succ fuel ih =>
    intro listed a w hfree hr hcl hy hS H
    refine ⟨fun h => (by rw [h] at hr; cases hr), fun j hj => ?_⟩
    by_cases hji : j = i
    · subst hji; exact hy.wpOp hi hS ⟨fun _ => hS, H⟩
    · have h1 := H.2 j (ready_mono hj hji)
      obtain ⟨hjun, oj, hoj, hall⟩ := mem_ready.1 hj
      have hiun := unlisted (mem_ready.1 hr).1
      have hnot : ∀ e ∈ oj.after, Region.binds md e = true → e.on ≠ i := fun e he hb heq => hiun (heq ▸ hall e he hb)
      have hjE : j ∉ Es := by
        intro hm
        exact hiun (waits_listed hcl nW j oj hoj hall (List.all_eq_true.1 hE j hm))
      have h2 := wpOp_putIf hoj (hfree j oj hoj hji hjun hnot) (fun cs b => hsel i oi cs b hi) (fun cs b => hsel j oj cs b hoj) hQ hy h1
      have hfree' : ∀ k ok, ops[k]? = some ok → k ≠ i → (listed.setIfInBounds j true).getD k true = false →
          (∀ e ∈ ok.after, Region.binds md e = true → e.on ≠ i) → oi.apart ops ok = true := fun k ok hk hki hun hno => by
        refine hfree k ok hk hki ?_ hno
        by_cases hjk : j = k
        · subst hjk; exact hjun
        · rw [getD_set_ne true hjk] at hun; exact hun
      refine wpOp_mono (fun a' w' h3 => ⟨fun _ => h3.2.1 hjE, ih (listed.setIfInBounds j true) a' w' hfree' (ready_mono hr (Ne.symm hji)) (closed_set hcl hj) h3.1 (h3.2.1 hjE) ?_⟩) h2
      rw [Array.setIfInBounds_comm _ _ hji]
      exact h3.2.2
theorem g_takeT {i : Nat} {oi : Oper} {v : Value} {fuel : Nat} {listed : Array Bool} {a : Act} {w : World} (nW : Nat) (hi : ops[i]? = some oi)
    (hs : Region.noSelect ops = true) (hE : (Es.all fun E => waitsT md ops i nW E) = true) (hf : Region.free md ops listed i = true) (hr : (Region.ready md ops listed).contains i = true) (hc : closedB md ops listed = true)
    (hQ : ∀ c a w, Q (.panic c) (a.put oi.dst v) w → Q (.panic c) a w) (hy : YieldsIf P ops S oi v a) (hS : S w)
    (h : wpAnyG P md ops Q Es S fuel (listed.setIfInBounds i true) (a.put oi.dst v) w) : wpAnyG P md ops Q Es S (fuel + 1) listed a w :=
  g_firstT nW hi (Region.noSelect_spec hs) hE hQ fuel listed a w (Region.free_spec hi hf) (by simpa using hr) (closed_of hc) hy hS h
end
end Go.Proofs.YtalkjgijmceifaaGreatDoor
namespace Go.Proofs.YtalkjgijmceifaaGreatDoor
open Go.RowKit Go.Maps
set_option maxRecDepth 100000
set_option linter.unusedSimpArgs false
set_option linter.unusedVariables false
set_option linter.unusedSectionVars false
variable [Tab] [Fo]

/-- What holds between the steps, and what was turned since. -/
def OI (base L p o ck an g : Nat) (S : List UInt8) (q : Obj → Prop) (w0 : World) (x : Ox) (a : Nat) (w : World) : Prop := OlI base L p o ck an g S x a w ∧ Tch base q w0 w
def OF (base L p o ck an g : Nat) (S : List UInt8) (q : Obj → Prop) (w0 : World) (k : Int) (w : World) : Prop := k ≠ 0 ∧ OlX base L p o ck an g S w ∧ Tch base q w0 w
theorem ox_ol (q : Obj) (h : oxObj q) : olObj q := .inl h
theorem tA_ol (q : Obj) (h : tA q) : olObj q := .inl (.inl h)
theorem ln_ol (q : Obj) (h : lnOo q) : olObj q := .inl (.inr h)
theorem ol_box (cs : Array Value) (t : TypeId) (fr : Nat × Nat) (h : t = 221 ∨ t = 39 ∨ t = 94 ∨ t = 5 ∨ t = 51 ∨ t = 101 ∨ t = 25) : ¬ olObj (.cells cs t fr) := by
  rintro ((hc | hc) | hc)
  · exact tA_no cs t fr (by rcases h with rfl | rfl | rfl | rfl | rfl | rfl | rfl <;> simp) hc
  · simp only [lnOo] at hc
    rcases h with rfl | rfl | rfl | rfl | rfl | rfl | rfl <;> exact absurd hc (by decide)
  · simp only [opO] at hc
    rcases h with rfl | rfl | rfl | rfl | rfl | rfl | rfl <;> exact absurd hc (by decide)
section
variable {base L p o ck an g : Nat} {S : List UInt8} {x : Ox} {a : Nat} {w w' w0 W : World} {q : Obj → Prop}
theorem oT (hS : S.length ≤ 1000) (hq : ∀ r, oxObj r → q r) : LnT olM base L (oL o g) S (OI base L p o ck an g S q w0) (OF base L p o ck an g S q w0) where
  rd := fun x => ⟨hS, fun h => ⟨h.1.ln, h.1.al⟩, fun h hl ha hf => ⟨h.1.go hl ha hf, h.2.trans ((h.1.line_tch hf).wide fun r hr => hq r (.inr hr))⟩, fun k h hk => ⟨hk, h.1.loose, h.2⟩⟩
  tell := fun {x a w} ev h hl hs => (ol_tell ev h.1 (Nat.le_trans (Nat.le_add_right _ _) hl) hs).mono fun e w' hp => by
    obtain ⟨hp, ht⟩ := hp
    have ht' := h.2.trans (ht.wide fun r hr => hq r (.inl hr))
    rcases hp with ⟨x', h1, h2, h3⟩ | ⟨h1, k, h2, h3, h4⟩
    · exact .inl ⟨a, x', by show (tellO x ev).map _ = _; rw [h1]; rfl, h2, h3, ht'⟩
    · exact .inr ⟨by show (tellO x ev).map _ = _; rw [h1]; rfl, k, h3, h2, h4, ht'⟩
  std := fun h => ⟨h.1.std, h.1.pl.1, h.1.pl.2.1, h.1.lim'⟩
theorem oi_up (ht : Tch base q w0 W) (h : OI base L p o ck an g S q W x a w) : OI base L p o ck an g S q w0 x a w := ⟨h.1, ht.trans h.2⟩
theorem oi_refl (h : OlI base L p o ck an g S x a w) : OI base L p o ck an g S q w x a w := ⟨h, Tch.refl _ _ _⟩
theorem of_up {k : Int} (ht : Tch base q w0 W) (h : OF base L p o ck an g S q W k w) : OF base L p o ck an g S q w0 k w := ⟨h.1, h.2.1, ht.trans h.2.2⟩
theorem poq_up (ht : Tch base q w0 W) {r : Option (Nat × Ox)} {e : Ending} (h : Pq (OI base L p o ck an g S q W) (OF base L p o ck an g S q W) r e w') : Pq (OI base L p o ck an g S q w0) (OF base L p o ck an g S q w0) r e w' := by
  rcases h with ⟨a', x', h1, h2, h3⟩ | ⟨h1, k, h2, h3⟩
  · exact .inl ⟨a', x', h1, h2, oi_up ht h3⟩
  · exact .inr ⟨h1, k, h2, of_up ht h3⟩
/-- What reads alone. -/
theorem ps_OI (h : OlI base L p o ck an g S x a w) {r : Option (ByteArray × Nat)} {e : Ending} (hp : Ps (I0 L (oL o g) S w) (F0 L (oL o g) S w) r e w') : Ps (OI base L p o ck an g S olObj w x) (OF base L p o ck an g S olObj w) r e w' := by
  rcases hp with ⟨t, a', h1, h2, h3⟩ | ⟨h1, k, h2, h3, b, h4⟩
  · exact .inl ⟨t, a', h1, h2, h.go h3.1 h3.2.1 h3.2.2, (h.line_tch h3.2.2).wide ln_ol⟩
  · exact .inr ⟨h1, k, h2, h3, (h.go h4.1 h4.2.1 h4.2.2).loose, (h.line_tch h4.2.2).wide ln_ol⟩
theorem pu_OI (h : OlI base L p o ck an g S x a w) {r : Option Nat} {e : Ending} (hp : Pu (I0 L (oL o g) S w) (F0 L (oL o g) S w) r e w') : Pu (OI base L p o ck an g S olObj w x) (OF base L p o ck an g S olObj w) r e w' := by
  rcases hp with ⟨a', h1, h2, h3⟩ | ⟨h1, k, h2, h3, b, h4⟩
  · exact .inl ⟨a', h1, h2, h.go h3.1 h3.2.1 h3.2.2, (h.line_tch h3.2.2).wide ln_ol⟩
  · exact .inr ⟨h1, k, h2, h3, (h.go h4.1 h4.2.1 h4.2.2).loose, (h.line_tch h4.2.2).wide ln_ol⟩
/-- A box of the reading, made at the head of a call. -/
theorem rboxO (h : OlI base L p o ck an g S x a w) : ∃ b W, w.heap.size = b ∧ w.alloc (.cells #[.pointer (some ⟨L, 0, none⟩), .pointer (some ⟨p, 0, none⟩)] 221) = W ∧ Blk W b 221 #[.pointer (some ⟨L, 0, none⟩), .pointer (some ⟨p, 0, none⟩)] ∧ b < W.heap.size ∧ OlI base L p o ck an g S x a W ∧ Tch base q w W := by
  obtain ⟨b, W, hg, hW, hB, al, hlt⟩ := box_new w #[.pointer (some ⟨L, 0, none⟩), .pointer (some ⟨p, 0, none⟩)] 221
  exact ⟨b, W, hg, hW, hB, hlt, h.belowO al, Tch.of_below al⟩
theorem ob_tch {b : Nat} {cs : Array Value} (hB : Blk w b 221 cs) (ht : Tch base olObj w w') : Blk w' b 221 cs := hB.tch ht (.inr (ol_box _ _ _ (.inl rfl)))
theorem ob_cells {b : Nat} (hB : Blk w b 221 #[.pointer (some ⟨L, 0, none⟩), .pointer (some ⟨p, 0, none⟩)]) : w.cell? ⟨b, 0, none⟩ = some (.pointer (some ⟨L, 0, none⟩)) ∧ w.cell? ⟨b, 1, none⟩ = some (.pointer (some ⟨p, 0, none⟩)) ∧ b < w.heap.size := ⟨hB.cell 0, hB.cell 1, hB.lt⟩
theorem oi_drew (h : OI base L p o ck an g S q W x a w) : OI base L p o ck an g S q W x a w.drew := ⟨h.1.belowO (below_drew (Below.refl _ _)), h.2.trans (Tch.of_below (below_drew (Below.refl _ _)))⟩
theorem oi_below (h : OI base L p o ck an g S q W x a w) (hb : Below w.heap.size w w') : OI base L p o ck an g S q W x a w' := ⟨h.1.belowO hb, h.2.trans (Tch.of_below hb)⟩
theorem tells_fa : ∀ (l : List Ev) {x y : Ox}, tellsO l x = some y → lenO y = lenO x + l.length ∧ depO y = depO x + dSum l ∧ y.bk = x.bk ∧ y.lk = x.lk ∧ y.en = x.en
  | [], x, y, h => by cases h; exact ⟨rfl, by simp [dSum], rfl, rfl, rfl⟩
  | e :: r, x, y, h => by
    rw [tellsO] at h
    cases ht : tellO x e with
    | none => rw [ht] at h; cases h
    | some z =>
      rw [ht] at h
      obtain ⟨k1, k2, k3, k4, k5, _⟩ := tellO_len ht
      obtain ⟨j1, j2, j3, j4, j5⟩ := tells_fa r (show tellsO r z = some y from h)
      refine ⟨by rw [j1, k1, List.length_cons]; omega, by rw [j2, k2]; simp only [dSum]; omega, by rw [j3, k3], by rw [j4, k4], by rw [j5, k5]⟩
theorem colon_fa {a' : Nat} (h : colonO S a = some a') : a < a' ∧ a' ≤ S.length := by
  obtain ⟨h1, h2⟩ := eatB_some h
  have := le_blk S a
  exact ⟨by omega, by omega⟩
theorem getM_told {s : Am} {n : List UInt8} (h : getE s n = 0) : (getM s n).told = s.told + (getL s n).length ∧ s.told + (getL s n).length ≤ 40 := by
  have h1 : (getM s n).told = s.told + (getL s n).length := by unfold getM; rw [if_pos h]
  refine ⟨h1, ?_⟩
  unfold getL
  rw [if_pos h]
  unfold getE at h
  split at h
  · cases h
  · rename_i l hl
    rw [hl]
    split at h
    · cases h
    · split at h
      · cases h
      · rename_i hh
        simpa using hh
theorem ref_fa : Fa olM S (refO S) := by
  intro a x a' x' h
  unfold refO at h
  cases hn : nameP S (a + 1) with
  | none => rw [hn] at h; cases h
  | some q =>
    obtain ⟨t, a2⟩ := q
    rw [hn] at h
    obtain ⟨k1, k2, k3⟩ := nam_fa hn
    have h' : (if getE x.am t.data.toList = 0 ∧ dSum (getL x.am t.data.toList) = 0 then (tellsO (getL x.am t.data.toList) { x with am := getM x.am t.data.toList }).map fun y => (a2 + 1, y) else none) = some (a', x') := h
    split at h'
    · rename_i hc
      cases ht : tellsO (getL x.am t.data.toList) { x with am := getM x.am t.data.toList } with
      | none => rw [ht] at h'; cases h'
      | some y =>
        rw [ht] at h'
        have e : (a2 + 1, y) = (a', x') := Option.some.inj h'
        injection e with e1 e2
        subst e1 e2
        obtain ⟨j1, j2, _⟩ := tells_fa _ ht
        obtain ⟨m1, m2⟩ := getM_told hc.1
        refine ⟨by omega, by omega, ?_, ?_⟩
        · show lenO y ≤ lenO x + _
          have : lenO { x with am := getM x.am t.data.toList } + (getL x.am t.data.toList).length = lenO x := by
            unfold lenO
            simp only [m1]
            omega
          omega
        · show depO y = depO x
          rw [j2, hc.2]
          show depO x + 0 = _
          omega
    · cases h'
theorem field_fa {v : Nat → Ox → Option (Nat × Ox)} (hv : Fa olM S v) : Fa olM S (fieldO S v) := by
  intro a x a' x' h
  unfold fieldO at h
  cases hk : quoP S a with
  | none => rw [hk] at h; cases h
  | some q =>
    obtain ⟨t, a1⟩ := q
    rw [hk] at h
    have h1 := quo_fa hk
    have h' : ((lastM olM a1 x (evT 8 t)).bind fun p => (colonO S p.1).bind fun a2 => v (blk S a2) p.2) = some (a', x') := h
    cases hl : lastM olM a1 x (evT 8 t) with
    | none => rw [hl] at h'; cases h'
    | some q2 =>
      obtain ⟨a2, x2⟩ := q2
      rw [hl] at h'
      obtain ⟨j1, j2, j3⟩ := last_fa hl
      have h2 : ((colonO S a2).bind fun a3 => v (blk S a3) x2) = some (a', x') := h'
      cases hc : colonO S a2 with
      | none => rw [hc] at h2; cases h2
      | some a3 =>
        rw [hc] at h2
        obtain ⟨c1, c2⟩ := colon_fa hc
        obtain ⟨k1, k2, k3, k4⟩ := hv _ _ _ _ (show v (blk S a3) x2 = some (a', x') from h2)
        have := le_blk S a3
        refine ⟨by omega, k2, by omega, ?_⟩
        rw [k4, j3]
        show _ + dK 8 = _
        rw [dK_8]
        omega
theorem valueO_fa {v : Nat → Ox → Option (Nat × Ox)} (hv : Fa olM S v) : Fa olM S (valueO S v) := by
  intro a x a' x' h
  unfold valueO at h
  split at h
  · exact ref_fa _ _ _ _ h
  · split at h
    · cases hw : wordP S nullL a with
      | none => rw [hw] at h; cases h
      | some a1 =>
        rw [hw] at h
        obtain ⟨j1, j2, j3⟩ := last_fa (show lastM olM a1 x (evB 1) = some (a', x') from h)
        have h1 := word_fa nullL _ _ hw
        refine ⟨by omega, by omega, by omega, ?_⟩
        rw [j3]
        show _ + dK 1 = _
        rw [show dK 1 = 0 from rfl]
        omega
    · exact value_fa hv (field_fa hv) _ _ _ _ h
theorem valO_fa : ∀ n, Fa olM S (valO S n)
  | 0 => fun _ _ _ _ h => by cases h
  | n + 1 => valueO_fa (valO_fa n)
/-- What a value's call does, with so much fuel. -/
def ValO (base L p o ck an g : Nat) (S : List UInt8) (n : Nat) : Prop := ∀ (x : Ox) (a : Nat) (w : World), S.length - a < n → OkL olM S a x → OlI base L p o ck an g S x a w →
  Calls Tryz.prog 199 #[rV L p] w (Pq (OI base L p o ck an g S olObj w) (OF base L p o ck an g S olObj w) (valO S n a x))
set_option maxHeartbeats 4000000 in
theorem field_O {n : Nat} (hval : ValO base L p o ck an g S n) (hn : S.length - a < n + 1) (hok : OkL olM S a x) (h : OlI base L p o ck an g S x a w) :
    Calls Tryz.prog 210 #[rV L p] w (Pq (OI base L p o ck an g S olObj w) (OF base L p o ck an g S olObj w) (fieldO S (valO S n) a x)) := by
  obtain ⟨b, W, hg, hW, hB, hlt, hi, hT⟩ := rboxO (q := olObj) h
  have HU := Lib.hid (Tch.trans hT (Tch.of_below (below_drew (Below.refl W.heap.size W))))
  have hBd : Blk W.drew b 221 #[.pointer (some ⟨L, 0, none⟩), .pointer (some ⟨p, 0, none⟩)] := hB
  have HB := Lib.hid hBd
  have hid := hi.belowO (below_drew (Below.refl _ _))
  obtain ⟨R, hR⟩ : ∃ R, fieldO S (valO S n) a x = R := ⟨_, rfl⟩
  rw [hR]
  unfold fieldO at hR
  have HR := Lib.hid hR
  have HOk := Lib.hid hok
  have h160 := hi.s9
  have HK := Lib.hid (quoted_I ((oT (p := p) (ck := ck) (an := an) (q := olObj) (w0 := W.drew) (by omega) ox_ol).rd x) (oi_refl hid) hid.lim')
  have HI := Lib.hid hid
  have b0 : W.drew.cell? ⟨b, 0, none⟩ = some (.pointer (some ⟨L, 0, none⟩)) := hBd.cell 0
  have b1 : W.drew.cell? ⟨b, 1, none⟩ = some (.pointer (some ⟨p, 0, none⟩)) := hBd.cell 1
  have HV := Lib.hid hval
  unfold rV
  clear h hT hB hBd hi hid hR hok hval
  go_enter Tryz.func210, Tryz.ntmps210
  go_wp2
  refine region_gp [] (S := (fun W => W.cell? ⟨b, 0, none⟩ = some (.pointer (some ⟨L, 0, none⟩)) ∧ W.cell? ⟨b, 1, none⟩ = some (.pointer (some ⟨p, 0, none⟩)))) (fun c w' => Pq (OI base L p o ck an g S olObj w) (OF base L p o ck an g S olObj w) R (.panicked c) w') (by kernel_rfl) ⟨b0, b1⟩ (fun c a' w' hd hR => ⟨hd, hR⟩) (fun hH => ?_)
  refine g_take (i := 0) (v := .pointer (some ⟨b, 0, none⟩)) (by rfl) (by kernel_rfl) (by kernel_rfl) (by kernel_rfl) (by kernel_rfl) (fun _ _ _ h => pan_put h) (Or.inl ⟨by kernel_rfl, fun W hS => (by obtain ⟨q1, q2⟩ := hS; go_simp)⟩) hH ?_
  simp only [Act.put, List.setIfInBounds_toArray, List.set_cons_zero, List.set_cons_succ]
  refine g_take (i := 1) (v := .pointer (some ⟨L, 0, none⟩)) (by rfl) (by kernel_rfl) (by kernel_rfl) (by kernel_rfl) (by kernel_rfl) (fun _ _ _ h => pan_put h) (Or.inl ⟨by kernel_rfl, fun W hS => (by obtain ⟨q1, q2⟩ := hS; go_simp)⟩) hH ?_
  simp only [Act.put, List.setIfInBounds_toArray, List.set_cons_zero, List.set_cons_succ]
  refine g_take (i := 2) (v := .pointer (some ⟨b, 0, none⟩)) (by rfl) (by kernel_rfl) (by kernel_rfl) (by kernel_rfl) (by kernel_rfl) (fun _ _ _ h => pan_put h) (Or.inl ⟨by kernel_rfl, fun W hS => (by obtain ⟨q1, q2⟩ := hS; go_simp)⟩) hH ?_
  simp only [Act.put, List.setIfInBounds_toArray, List.set_cons_zero, List.set_cons_succ]
  refine g_take (i := 3) (v := .pointer (some ⟨L, 0, none⟩)) (by rfl) (by kernel_rfl) (by kernel_rfl) (by kernel_rfl) (by kernel_rfl) (fun _ _ _ h => pan_put h) (Or.inl ⟨by kernel_rfl, fun W hS => (by obtain ⟨q1, q2⟩ := hS; go_simp)⟩) hH ?_
  simp only [Act.put, List.setIfInBounds_toArray, List.set_cons_zero, List.set_cons_succ]
  refine g_one (i := 4) (by kernel_rfl) (by rfl) (fun K hK => ?_)
  go_simp
  refine HK.out.mono ?_
  rintro e w1 (⟨t, a1, hr, rfl, h1⟩ | ⟨hr, k, rfl, hF⟩)
  case inr => exact .inr ⟨_, rfl, poq_up HU.out (.inr ⟨by rw [← HR.out, hr]; rfl, k, rfl, hF⟩), rfl⟩
  have k1 := quo_fa hr
  have k3 := quo_sz hr
  rw [hr] at HR
  have HR1 : Hid (((lastM olM a1 x (evT 8 t)).bind fun p => (colonO S p.1).bind fun a2 => valO S n (blk S a2) p.2) = R) := Lib.hid HR.out
  have hB1 := ob_tch HB.out h1.2
  have c0 : w1.cell? ⟨b, 0, none⟩ = some (.pointer (some ⟨L, 0, none⟩)) := hB1.cell 0
  have c1 : w1.cell? ⟨b, 1, none⟩ = some (.pointer (some ⟨p, 0, none⟩)) := hB1.cell 1
  have HB1 := Lib.hid hB1
  have HT1 := Lib.hid (HU.out.trans h1.2)
  have hlx : lenO x ≤ 900000 := by have := HOk.out; unfold OkL at this; exact Nat.le_trans (Nat.le_add_right _ _) this
  have HL := Lib.hid (last_T (oT (p := p) (ck := ck) (an := an) (q := olObj) (w0 := w1) (by omega) ox_ol) (evT 8 t) (oi_refl h1.1) hlx k3 k1.2)
  clear hB1 h1 hr HR HK hH b0 b1
  refine hK.out _ _ (fun _ => ⟨c0, c1⟩) (fun _ => ?_)
  clear hK K
  refine g_one (i := 5) (by kernel_rfl) (by rfl) (fun K hK => ?_)
  go_simp
  refine hK.out _ _ (fun _ => ⟨c0, c1⟩) (fun _ => ?_)
  clear hK K
  refine g_one (i := 6) (by kernel_rfl) (by rfl) (fun K hK => ?_)
  go_simp
  refine HL.out.mono ?_
  rintro e w2 (⟨a2, x2, hr, rfl, h2⟩ | ⟨hr, k, rfl, hF⟩)
  case inr => exact .inr ⟨_, rfl, poq_up HT1.out (.inr ⟨by rw [← HR1.out, hr]; rfl, k, rfl, hF⟩), rfl⟩
  obtain ⟨j1, j2, _⟩ := last_fa hr
  rw [hr] at HR1
  have HR2 : Hid (((colonO S a2).bind fun a3 => valO S n (blk S a3) x2) = R) := Lib.hid HR1.out
  have hB2 := ob_tch HB1.out h2.2
  have HB2 := Lib.hid hB2
  have HT2 := Lib.hid (HT1.out.trans h2.2)
  have e0 : w2.cell? ⟨b, 0, none⟩ = some (.pointer (some ⟨L, 0, none⟩)) := hB2.cell 0
  have e1 : w2.cell? ⟨b, 1, none⟩ = some (.pointer (some ⟨p, 0, none⟩)) := hB2.cell 1
  have hgl2 := hB2.lt
  have hCo := colon_any (p := p) h2.1.ln (by omega) h2.1.al
  unfold rV at hCo
  have HCo := Lib.hid hCo
  have H2 := Lib.hid h2.1
  have hok2 : OkL olM S a2 x2 := by have := HOk.out; unfold OkL at *; have e1 : lenO x2 = lenO x + 1 := j2; show lenO x2 + _ ≤ _; have e2 : lenO x + 2 * (S.length - a) ≤ 900000 := this; omega
  have HOk2 := Lib.hid hok2
  clear hr h2 hB2 HL HR1 j2 hok2 HB1 hCo
  refine hK.out _ _ (fun _ => ⟨e0, e1⟩) (fun _ => ?_)
  clear hK K c0 c1
  refine g_done (by kernel_rfl) (.inl ⟨by first | rfl | trivial, ?_⟩) _
  go_wp2_with fail
  refine HCo.out.mono ?_
  intro e w3 hp
  rcases pu_OI H2.out hp with ⟨a3, hr, rfl, h3⟩ | ⟨hr, k, rfl, hF⟩
  case inr => exact ⟨rfl, poq_up HT2.out (.inr ⟨by rw [← HR2.out, hr]; rfl, k, rfl, hF⟩)⟩
  obtain ⟨l1, l2⟩ := colon_fa hr
  rw [hr] at HR2
  have HR3 : Hid (valO S n (blk S a3) x2 = R) := Lib.hid HR2.out
  have HT3 := Lib.hid (HT2.out.trans h3.2)
  have hB3 := ob_tch HB2.out h3.2
  have HB3 := Lib.hid hB3
  have HBk := Lib.hid (blanks_I ((oT (p := p) (ck := ck) (an := an) (q := olObj) (w0 := w3) (by omega) ox_ol).rd x2) (oi_refl h3.1))
  obtain ⟨d0, d1, hgl3⟩ := ob_cells hB3
  clear hp hr h3 hB3 HCo HR2 H2 e0 e1
  go_wp2_with fail
  refine HBk.out.mono ?_
  rintro e w4 ⟨rfl, h4⟩
  have hle := le_blk S a3
  have hv := HV.out x2 (blk S a3) w4 (by omega) (okL_mono (by omega) HOk2.out) h4.1
  rw [HR3.out] at hv
  unfold rV at hv
  have HVv := Lib.hid hv
  have HT4 := Lib.hid (HT3.out.trans h4.2)
  obtain ⟨d0, d1, hgl4⟩ := ob_cells (ob_tch HB3.out h4.2)
  clear hv h4 HBk HR3 HV
  go_wp2_with fail
  refine HVv.out.mono ?_
  rintro e w5 (⟨a5, x5, hr, rfl, h5⟩ | ⟨hr, k, rfl, hF⟩)
  case inr => exact ⟨rfl, poq_up HT4.out (.inr ⟨hr, k, rfl, hF⟩)⟩
  have H5 := Lib.hid (And.intro hr h5)
  clear hr h5 HVv
  go_wp2
  go_end0
  exact poq_up HT4.out (.inl ⟨a5, x5, H5.out.1, rfl, H5.out.2⟩)
end
end Go.Proofs.YtalkjgijmceifaaGreatDoor
namespace Go.Proofs.YtalkjgijmceifaaGreatDoor
open Go.RowKit Go.Maps
set_option maxRecDepth 100000
set_option linter.unusedSimpArgs false
set_option linter.unusedVariables false
set_option linter.unusedSectionVars false
set_option linter.unusedSectionVars false
variable [Tab] [Fo]

theorem aK_tA (q : Obj) (h : aK q) : tA q := .inr h
section
variable {base L p o ck an g : Nat} {S : List UInt8} {x : Ox} {a : Nat} {w w' w0 w1 W : World} {q : Obj → Prop}
/-- Behind a call of the Anchors. -/
theorem OlI.call (h : OlI base L p o ck an g S x a w) {s' : Am} {T : Nat → Prop} (hO : OA w' base o ck an x.st x.l s' T) (ht : Tch base aK w w') (hI : AInv s') : OlI base L p o ck an g S { x with am := s' } a w' := by
  have hT := ht.wide aK_tA
  exact ⟨Blk.tch h.ln hT (.inr (tA_no _ _ _ (by simp))), h.al, h.s9, h.oth.tch hT (.inr (tA_no _ _ _ (by simp))), h.blk_tch hT (fun cs t fr hh => tA_no _ _ _ (by rcases hh with rfl | rfl <;> simp)), ⟨T, hO⟩, h.std.tch hT h.pl.1, h.pl' hT.size, ⟨h.tk.ok, h.tk.run, h.tk.sz, h.tk.good, hI⟩, h.bn, h.lb⟩
theorem ol_open (n : ByteArray) (h : OlI base L p o ck an g S x a w) (hn : n.size ≤ 1000) :
    Calls Tryz.prog 198 #[.pointer (some ⟨an, 0, none⟩), .string n] w fun e w' => e = .returned (.int .i64 (openE x.am n.data.toList)) ∧ OI base L p o ck an g S olObj w { x with am := openM x.am n.data.toList } a w' := by
  obtain ⟨T, hT⟩ := h.oa
  refine (aopen_any w T an x.am n hT.an h.tk.an (by omega)).mono ?_
  rintro e w' ⟨rfl, hA, ht⟩
  obtain ⟨hO, hK⟩ := hT.call hA ht h.pl.1
  exact ⟨rfl, h.call hO hK (ainv_open h.tk.an _), hK.wide fun r hr => tA_ol r (aK_tA r hr)⟩
theorem OlI.unsince [fo : Fo] {hl : fo.lim ≤ w1.heap.size} (h : @OlI _ (Fo.since fo w w1 hl) base L p o ck an g S x a w') (hz : w1.heap.size ≤ w'.heap.size) : OlI base L p o ck an g S x a w' := by
  obtain ⟨h1, h2, h3, h4, ⟨bv, b1, b2, b3⟩, ⟨T, h6⟩, h7, h8, h9, h10, h11⟩ := h
  exact ⟨h1, h2, h3, h4, ⟨bv, b1, b2, fun k hk hc => b3 k hk (.inl hc)⟩, ⟨T, oa_unsince h6 hz⟩, h7, ⟨h8.1, h8.2.1, h8.2.2.1, Nat.le_trans hl hz, fun hc => h8.2.2.2.2.1 (.inl hc), fun hc => h8.2.2.2.2.2 (.inl hc)⟩, h9, h10, h11⟩
theorem OlX.unsince [fo : Fo] {hl : fo.lim ≤ w1.heap.size} (h : @OlX _ (Fo.since fo w w1 hl) base L p o ck an g S w') (hz : w1.heap.size ≤ w'.heap.size) : OlX base L p o ck an g S w' := by
  obtain ⟨h1, h3, ⟨st, l, s, T, h6, k⟩, h8⟩ := h
  exact ⟨h1, h3, ⟨st, l, s, T, oa_unsince h6 hz, k⟩, ⟨h8.1, h8.2.1, h8.2.2.1, Nat.le_trans hl hz, fun hc => h8.2.2.2.2.1 (.inl hc), fun hc => h8.2.2.2.2.2 (.inl hc)⟩⟩
theorem ol_get [fo : Fo] (n : ByteArray) (h : OlI base L p o ck an g S x a w) (hn : n.size ≤ 1000) :
    Calls Tryz.prog 216 #[.pointer (some ⟨an, 0, none⟩), .string n] w fun e w' => ∃ lv hl, e = .returned (.tuple #[lv, .int .i64 (getE x.am n.data.toList)]) ∧ ERow w' w.heap.size lv (getL x.am n.data.toList) ∧ @OlI _ (Fo.since fo w w' hl) base L p o ck an g S { x with am := getM x.am n.data.toList } a w' ∧ Tch base aK w w' := by
  obtain ⟨T, hT⟩ := h.oa
  refine (aget_any w T an x.am n hT.an h.tk.an (by omega)).mono ?_
  rintro e w' ⟨lv, rfl, hR, hA, ht⟩
  have hl : fo.lim ≤ w'.heap.size := Nat.le_trans hT.lim ht.size
  have hK := ts_tch ht hT.kd
  have hmin := aAt_min hA
  have hTA := hK.wide aK_tA
  have hLl := Blk.lt h.ln
  obtain ⟨bv, c1, c2, c3⟩ := h.blk
  have hpl := c1.lt
  have hO : @OA _ (Fo.since fo w w' hl) w' base o ck an x.st x.l (getM x.am n.data.toList) (aCut T w') := by
    refine @OA.mk _ (Fo.since fo w w' hl) w' base o ck an _ _ _ _ hmin (fun k hk => ⟨(hT.kd k hk.1).1, ?_, hk.2⟩) (Nat.le_refl _) ?_
    · rintro (h1 | h1)
      · exact (hT.kd k hk.1).2.1 h1
      · have := hT.an.1 k hk.1; omega
    · refine oat_mv (f1 := fo.pl T w.heap.size hT.lim hT.an.1) (f2 := Fo.pl (Fo.since fo w w' hl) (aCut T w') w'.heap.size (Nat.le_refl _) hmin.1) (fun k hk hc => ?_) rfl (fun k r hr _ hnn => ht.block k r hr (.inl fun hs => hnn (.inr hs))) (Nat.le_refl _) hT.out
      rcases hc with (h1 | h1) | h1
      · exact .inl h1
      · omega
      · exact .inr h1.1
  refine ⟨lv, hl, rfl, hR, ?_, hK⟩
  refine @OlI.mk _ (Fo.since fo w w' hl) base L p o ck an g S _ a w' (Blk.tch h.ln hTA (.inr (tA_no _ _ _ (by simp)))) h.al h.s9 (h.oth.tch hTA (.inr (tA_no _ _ _ (by simp)))) ⟨bv, c1.tch hTA (.inr (tA_no _ _ _ (by simp))), row_tch c2 hTA (fun _ _ => tA_no _ _ _ (by simp)), fun k hk hc => ?_⟩ ⟨_, hO⟩ (h.std.tch hTA h.pl.1) ⟨(h.pl' hTA.size).1, h.pl.2.1, h.pl.2.2.1, Nat.le_refl _, ?_, ?_⟩ ⟨h.tk.ok, h.tk.run, h.tk.sz, h.tk.good, ainv_get h.tk.an _⟩ h.bn h.lb
  · rcases hc with hc | hc
    · exact c3 k hk hc
    · have := (World.ownsRow.lt c2 k hk).2; omega
  · rintro (hc | hc)
    · exact h.pl.2.2.2.2.1 hc
    · omega
  · rintro (hc | hc)
    · exact h.pl.2.2.2.2.2 hc
    · omega
end
end Go.Proofs.YtalkjgijmceifaaGreatDoor

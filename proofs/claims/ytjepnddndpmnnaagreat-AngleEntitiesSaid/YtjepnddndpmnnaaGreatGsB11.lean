/-
  names: Cut and Join of the program, whole.
  events: which events are allowed (valid, normal, formed), and isValue.
  What a call turns, told by the kind of the objects: every block below a bound, and every block of another kind, lies as it lay.
-/
import Derived.Test.YtjepnddndpmnnaaGreatGsB10
import Derived.Test.YtjepnddndpmnnaaGreatGsB03
import Derived.Test.YtjepnddndpmnnaaGreatGsB08
import Derived.Test.YtjepnddndpmnnaaGreatGsB05
namespace Go.Proofs.YtjepnddndpmnnaaGreat
open Go.RowKit Go.Maps
set_option maxRecDepth 100000

theorem scut_any (s : ByteArray) (w : World) (hm : s.size ≤ 140737488355328) :
    Calls Tryz.prog 170 #[.string s, .string ⟨#[125]⟩] w fun e w' => e = CutAtEnd s.data.toList ∧ ∃ n, w' = w.drewN n := by
  unfold CutAtEnd
  go_enter Tryz.func170, Tryz.ntmps170
  go_wp2_with (go_at_call 174; refine (lcut_any s _ hm).mono ?_; unfold CutAtEnd; rintro e w' ⟨rfl, n, rfl⟩)
  go_ret3
  exact ⟨rfl, n, rfl⟩

def CutEnd (l : List UInt8) : Ending :=
  match cutL l with
  | none => .returned (.tuple #[.string ⟨#[]⟩, .string ⟨#[]⟩, .bool false])
  | some p => .returned (.tuple #[.string ⟨p.1.toArray⟩, .string ⟨p.2.toArray⟩, .bool true])
theorem cutEnd_none {l : List UInt8} (h : cutL l = none) : CutEnd l = .returned (.tuple #[.string ⟨#[]⟩, .string ⟨#[]⟩, .bool false]) := by unfold CutEnd; rw [h]
theorem cutEnd_some {l a b : List UInt8} (h : cutL l = some (a, b)) : CutEnd l = .returned (.tuple #[.string ⟨a.toArray⟩, .string ⟨b.toArray⟩, .bool true]) := by unfold CutEnd; rw [h]
theorem cutL_long {l : List UInt8} (h : 48 < l.length) : cutL l = none := by
  cases l with
  | nil => rfl
  | cons c t => simp only [cutL]; rw [if_pos (by simpa using h)]
theorem cutL_plain {l : List UInt8} (h : ¬ 48 < l.length) (hp : Lib.hasPrefix l [123] = false) : cutL l = if localL l = true then some ([], l) else none := by
  cases l with
  | nil => rfl
  | cons c t =>
    simp only [cutL]
    have hc : (c.toNat : Int) ≠ 123 := by
      intro hc
      have : c = 123 := UInt8.toNat_inj.1 (by rw [show (123 : UInt8).toNat = 123 from rfl]; omega)
      subst this
      cases hp
    rw [if_neg (by simpa using h), if_neg hc]
theorem prefix_cons {l : List UInt8} (hp : Lib.hasPrefix l [123] = true) : ∃ t, l = 123 :: t := by
  cases l with
  | nil => cases hp
  | cons c t =>
    refine ⟨t, ?_⟩
    simp [Lib.hasPrefix, List.isPrefixOf] at hp
    rw [← hp]
theorem cutL_brace {t : List UInt8} (h : ¬ 48 < t.length + 1) : cutL (123 :: t) = if spaceL (cutAt t).1 = true ∧ localL (cutAt t).2.1 = true then some ((cutAt t).1, (cutAt t).2.1) else none := by
  cases hd : t.dropWhile noEnd with
  | nil =>
    have e : cutAt t = (t, [], false) := by unfold cutAt; rw [hd]
    rw [e]
    simp only [cutL]
    rw [if_neg h, if_pos (by rfl), hd]
    simp [localL]
  | cons c b =>
    have e : cutAt t = (t.takeWhile noEnd, b, true) := by unfold cutAt; rw [hd]
    rw [e]
    simp only [cutL]
    rw [if_neg h, if_pos (by rfl), hd]
theorem cutAt_len (t : List UInt8) : (cutAt t).1.length ≤ t.length ∧ (cutAt t).2.1.length ≤ t.length := by
  unfold cutAt
  cases hd : t.dropWhile noEnd with
  | nil => simp
  | cons c b => have := parts_len hd; simp only; omega

set_option maxHeartbeats 1000000 in
theorem cut_any (s : ByteArray) (w : World) (hm : s.size ≤ 140737488355328) :
    Calls Tryz.prog 162 #[.string s] w fun e w' => e = CutEnd s.data.toList ∧ Below w.heap.size w w' := by
  have hl : s.data.toList.length = s.size := by simp
  by_cases h48 : 48 < s.size
  · rw [cutEnd_none (cutL_long (by omega))]
    clear hl
    go_enter Tryz.func162, Tryz.ntmps162
    go_wp2
    go_ret3
    exact ⟨rfl, Below.refl _ _⟩
  rcases Bool.eq_false_or_eq_true (Lib.hasPrefix s.data.toList [123]) with hp | hp
  · -- it begins with a brace
    obtain ⟨t, ht⟩ := prefix_cons hp
    have hE : CutEnd s.data.toList = CutEnd (123 :: t) := by rw [ht]
    rw [hE]
    have hcl := cutAt_len t
    have hb := cutL_brace (t := t) (by rw [ht] at hl; simp at hl; omega)
    have HP := Lib.hid hp
    have HT := Lib.hid (show Lib.trimPrefix s.data.toList [123] = t by rw [ht]; simp [Lib.trimPrefix, Lib.hasPrefix, List.isPrefixOf])
    have htl : t.length ≤ 48 := by rw [ht] at hl; simp at hl; omega
    clear hE ht hp hl
    have HA := Lib.hid (show CutAtEnd t = .returned (.tuple #[.string ⟨(cutAt t).1.toArray⟩, .string ⟨(cutAt t).2.1.toArray⟩, .bool (cutAt t).2.2]) from rfl)
    generalize (cutAt t).1 = A at *
    generalize (cutAt t).2.1 = B at *
    generalize (cutAt t).2.2 = F at *
    obtain ⟨hA, hB⟩ := hcl
    have HL : Hid ((⟨t.toArray⟩ : ByteArray).data.toList = t) := Lib.hid rfl
    have hsA : (⟨A.toArray⟩ : ByteArray).size ≤ 48 := by show A.toArray.size ≤ 48; simp; omega
    have hsB : (⟨B.toArray⟩ : ByteArray).size ≤ 48 := by show B.toArray.size ≤ 48; simp; omega
    have hsT : (⟨t.toArray⟩ : ByteArray).size ≤ 48 := by show t.toArray.size ≤ 48; simp; omega
    generalize hsa : (⟨A.toArray⟩ : ByteArray) = sa at *
    generalize hsb : (⟨B.toArray⟩ : ByteArray) = sb at *
    generalize hst : (⟨t.toArray⟩ : ByteArray) = st at *
    have ea : sa.data.toList = A := by rw [← hsa]
    have eb : sb.data.toList = B := by rw [← hsb]
    have HST := Lib.hid hst
    have hbel := Below.refl w.heap.size w
    rcases Bool.eq_false_or_eq_true (spaceL A) with hs | hs
    · have HS := Lib.hid (show spaceL sa.data.toList = true by rw [ea, hs])
      rcases Bool.eq_false_or_eq_true (localL B) with hf | hf
      · rw [if_pos ⟨hs, hf⟩] at hb
        rw [cutEnd_some hb, hsa, hsb]
        have HF := Lib.hid (show localL sb.data.toList = true by rw [eb, hf])
        clear hs hf hb ea eb hsa hsb hst
        go_enter Tryz.func162, Tryz.ntmps162
        go_wp2_with (first
          | (go_at_call 169; refine (Tryz.strings_CutPrefix s _ _).mono ?_; rintro e w' ⟨rfl, rfl⟩; rw [show (⟨#[123]⟩ : ByteArray).data.toList = [123] from rfl, HP.out, HT.out, HST.out])
          | (go_at_call 170; refine (scut_any _ _ (by omega)).mono ?_; rw [HL.out, HA.out]; rintro e w' ⟨rfl, n, rfl⟩; replace hbel := below_drewN hbel n)
          | (go_at_call 160; refine (space_any _ _ (by omega)).mono ?_; rintro e w' ⟨rfl, hb1⟩; rw [HS.out]; replace hbel := hbel.trans (hb1.mono hbel.size); clear hb1)
          | (go_at_call 134; refine (local_any _ _ (by omega)).mono ?_; rintro e w' ⟨rfl, rfl⟩; rw [HF.out])
          | (go_at_call 140; refine (clone_any _ _ (by omega)).mono ?_; rintro e w' ⟨rfl, hb1⟩; replace hbel := hbel.trans (hb1.mono hbel.size); clear hb1))
        go_ret3
        exact ⟨rfl, hbel⟩
      · rw [if_neg (by rw [hf]; simp)] at hb
        rw [cutEnd_none hb]
        have HF := Lib.hid (show localL sb.data.toList = false by rw [eb, hf])
        clear hs hf hb ea eb hsa hsb hst
        go_enter Tryz.func162, Tryz.ntmps162
        go_wp2_with (first
          | (go_at_call 169; refine (Tryz.strings_CutPrefix s _ _).mono ?_; rintro e w' ⟨rfl, rfl⟩; rw [show (⟨#[123]⟩ : ByteArray).data.toList = [123] from rfl, HP.out, HT.out, HST.out])
          | (go_at_call 170; refine (scut_any _ _ (by omega)).mono ?_; rw [HL.out, HA.out]; rintro e w' ⟨rfl, n, rfl⟩; replace hbel := below_drewN hbel n)
          | (go_at_call 160; refine (space_any _ _ (by omega)).mono ?_; rintro e w' ⟨rfl, hb1⟩; rw [HS.out]; replace hbel := hbel.trans (hb1.mono hbel.size); clear hb1)
          | (go_at_call 134; refine (local_any _ _ (by omega)).mono ?_; rintro e w' ⟨rfl, rfl⟩; rw [HF.out])
          | (go_at_call 140; refine (clone_any _ _ (by omega)).mono ?_; rintro e w' ⟨rfl, hb1⟩; replace hbel := hbel.trans (hb1.mono hbel.size); clear hb1))
        go_ret3
        exact ⟨rfl, hbel⟩
    · have HS := Lib.hid (show spaceL sa.data.toList = false by rw [ea, hs])
      rw [if_neg (by rw [hs]; simp)] at hb
      rw [cutEnd_none hb]
      have HF : True := trivial
      clear hs hb ea eb hsa hsb hst
      go_enter Tryz.func162, Tryz.ntmps162
      go_wp2_with (first
        | (go_at_call 169; refine (Tryz.strings_CutPrefix s _ _).mono ?_; rintro e w' ⟨rfl, rfl⟩; rw [show (⟨#[123]⟩ : ByteArray).data.toList = [123] from rfl, HP.out, HT.out, HST.out])
        | (go_at_call 170; refine (scut_any _ _ (by omega)).mono ?_; rw [HL.out, HA.out]; rintro e w' ⟨rfl, n, rfl⟩; replace hbel := below_drewN hbel n)
        | (go_at_call 160; refine (space_any _ _ (by omega)).mono ?_; rintro e w' ⟨rfl, hb1⟩; rw [HS.out]; replace hbel := hbel.trans (hb1.mono hbel.size); clear hb1))
      go_ret3
      exact ⟨rfl, hbel⟩
  · have hb := cutL_plain (l := s.data.toList) (by omega) hp
    have HP := Lib.hid hp
    have HT := Lib.hid (show Lib.trimPrefix s.data.toList [123] = s.data.toList by simp [Lib.trimPrefix, hp])
    have hbel := Below.refl w.heap.size w
    rcases Bool.eq_false_or_eq_true (localL s.data.toList) with hf | hf
    case' inl => rw [hf, if_pos rfl] at hb
    case' inl => rw [cutEnd_some hb]
    case' inr => rw [hf, if_neg (by simp)] at hb
    case' inr => rw [cutEnd_none hb]
    all_goals have HF := Lib.hid hf
    all_goals clear hf hb hp hl
    all_goals
      go_enter Tryz.func162, Tryz.ntmps162
      go_wp2_with (first
        | (go_at_call 169; refine (Tryz.strings_CutPrefix s _ _).mono ?_; rintro e w' ⟨rfl, rfl⟩; rw [show (⟨#[123]⟩ : ByteArray).data.toList = [123] from rfl, HP.out, HT.out, str_of])
        | (go_at_call 134; refine (local_any s _ hm).mono ?_; rintro e w' ⟨rfl, rfl⟩; rw [HF.out])
        | (go_at_call 140; refine (clone_any _ _ (by first | omega | (show (0 : Nat) ≤ _; omega))).mono ?_; rintro e w' ⟨rfl, hb1⟩; replace hbel := hbel.trans (hb1.mono hbel.size); clear hb1))
      go_ret3
      exact ⟨rfl, hbel⟩
end Go.Proofs.YtjepnddndpmnnaaGreat
namespace Go.Proofs.YtjepnddndpmnnaaGreat
open Go.RowKit
set_option maxRecDepth 100000
set_option linter.unusedSectionVars false
variable [Tab]

theorem evalid_any (s : ByteArray) (w : World) :
    Calls Tryz.prog 164 #[.string s] w fun e w' => e = .returned (.bool (validL s.data.toList)) ∧ Below w.heap.size w w' := by
  have hl : s.data.toList.length = s.size := by simp
  by_cases h48 : 48 < s.size
  · have hV : validL s.data.toList = false := by unfold validL; rw [hl, decide_eq_false (by omega)]; rfl
    rw [hV]
    clear hl hV
    have h48i : (48 : Int) < s.size := by omega
    go_enter Tryz.func164, Tryz.ntmps164
    go_wp2
    go_ret
    exact ⟨rfl, Below.refl _ _⟩
  · have hV : validL s.data.toList = (runesL s.data.toList).isSome := by unfold validL; rw [hl, decide_eq_true (by omega)]; rfl
    rw [hV]
    clear hl hV
    go_enter Tryz.func164, Tryz.ntmps164
    go_wp2_with (first
      | (go_at_call 172; refine (runes_any s _ (by omega)).mono ?_; rintro e w1 ⟨v, rfl, _, hb1⟩))
    go_ret
    exact ⟨rfl, hb1⟩

theorem isValue_any (k : Int) (w : World) :
    Calls Tryz.prog 165 #[.int .i64 k] w fun e w' => e = .returned (.bool (valueK k)) ∧ w' = w := by
  by_cases h : valueK k = true
  · have h2 := h
    unfold valueK at h2
    rw [decide_eq_true_iff] at h2
    rcases h2 with rfl | rfl | rfl | rfl | rfl | rfl | rfl
    all_goals
      go_enter Tryz.func165, Tryz.ntmps165
      go_wp2
      go_ret
      exact ⟨rfl, rfl⟩
  · rw [Bool.not_eq_true] at h
    rw [h]
    unfold valueK at h
    rw [decide_eq_false_iff_not] at h
    have d1 : (k == 1) = false := by rw [beq_eq_false_iff_ne]; omega
    have d2 : (k == 2) = false := by rw [beq_eq_false_iff_ne]; omega
    have d3 : (k == 3) = false := by rw [beq_eq_false_iff_ne]; omega
    have d4 : (k == 4) = false := by rw [beq_eq_false_iff_ne]; omega
    have d5 : (k == 5) = false := by rw [beq_eq_false_iff_ne]; omega
    have d7 : (k == 7) = false := by rw [beq_eq_false_iff_ne]; omega
    have d10 : (k == 10) = false := by rw [beq_eq_false_iff_ne]; omega
    clear h
    go_enter Tryz.func165, Tryz.ntmps165
    go_wp2
    go_ret
    exact ⟨rfl, rfl⟩

theorem read_norm (s : ByteArray) : normL s.data.toList = (decide (Nm.readC s.data.toList = 0) && decide (Nm.readS s.data.toList = s)) := by
  unfold normL
  cases h : Nm.readL s.data.toList with
  | none => rw [Nm.readC_none h]; rfl
  | some v =>
    rw [Nm.readC_some h, Nm.readS_some h]
    simp only [decide_true, Bool.true_and]
    rw [decide_eq_decide]
    constructor
    · intro e; rw [e]
    · intro e; have := congrArg (fun x : ByteArray => x.data.toList) e; simpa using this
theorem str_diff {x y : ByteArray} (h : ¬ x = y) : (x.toList == y.toList) = false ∧ ¬ x.toList = y.toList := by
  have h2 : ¬ x.toList = y.toList := by
    rw [Lib.toList_data, Lib.toList_data]
    intro e
    exact h (ByteArray.ext (by have := congrArg List.toArray e; simpa using this))
  exact ⟨by simpa using h2, h2⟩

theorem normal_any (s : ByteArray) (w : World) (hw : Nm.StdW w) (hs : s.size ≤ 140737488355328) :
    Calls Tryz.prog 163 #[.string s] w fun e w' => e = .returned (.bool (normL s.data.toList)) ∧ Below w.heap.size w w' := by
  rw [read_norm]
  have hR := Nm.read_any s w hw (by omega)
  generalize Nm.readC s.data.toList = c at *
  generalize Nm.readS s.data.toList = f at *
  by_cases hc : c = 0
  · subst hc
    by_cases hf : f = s
    · subst hf
      simp only [decide_true, Bool.true_and]
      go_enter Tryz.func163, Tryz.ntmps163
      go_wp2_with (first
        | (go_at_call 171; refine hR.mono ?_; rintro e w1 ⟨rfl, hb1⟩))
      go_ret
      exact ⟨rfl, hb1⟩
    · obtain ⟨n1, n2⟩ := str_diff hf
      rw [decide_eq_false hf, Bool.and_false]
      clear hf
      go_enter Tryz.func163, Tryz.ntmps163
      go_wp2_with (first
        | (go_at_call 171; refine hR.mono ?_; rintro e w1 ⟨rfl, hb1⟩))
      go_ret
      exact ⟨rfl, hb1⟩
  · have d : (c == 0) = false := by rw [beq_eq_false_iff_ne]; exact hc
    rw [decide_eq_false hc, Bool.false_and]
    clear hc
    go_enter Tryz.func163, Tryz.ntmps163
    go_wp2_with (first
      | (go_at_call 171; refine hR.mono ?_; rintro e w1 ⟨rfl, hb1⟩))
    go_ret
    exact ⟨rfl, hb1⟩

theorem cutEnd_ex (l : List UInt8) : ∃ a b : ByteArray, CutEnd l = .returned (.tuple #[.string a, .string b, .bool (fullL l)]) := by
  unfold fullL
  cases h : cutL l with
  | none => exact ⟨_, _, cutEnd_none h⟩
  | some p => exact ⟨_, _, cutEnd_some (a := p.1) (b := p.2) h⟩

theorem named_any (b : Nat) (t : ByteArray) (w : World) (hc : w.cell? ⟨b, 1, none⟩ = some (.string t)) (hs : t.size ≤ 140737488355328) :
    Calls Tryz.prog 161 #[.pointer (some ⟨b, 0, none⟩)] w fun e w' => e = .returned (.bool (fullL t.data.toList)) ∧ Below w.heap.size w w' := by
  obtain ⟨x, y, hE⟩ := cutEnd_ex t.data.toList
  have HE := Lib.hid hE
  generalize fullL t.data.toList = f at *
  clear hE
  go_enter Tryz.func161, Tryz.ntmps161
  go_wp2_with (first
    | (go_at_call 162; refine (cut_any t _ hs).mono ?_; rintro e w1 ⟨he, hb1⟩; rw [HE.out] at he; subst he))
  go_ret
  exact ⟨rfl, hb1⟩
end Go.Proofs.YtjepnddndpmnnaaGreat
namespace Go.Proofs.YtjepnddndpmnnaaGreat
open Go.RowKit

set_option linter.unusedSectionVars false
/-- Blocks that are not the object's own, though they lie above its base. -/
class Fo where
  F : Nat → Prop
  lim : Nat
  ok : ∀ k, F k → k < lim
  tk : Option Nat
/-- No such blocks. -/
@[reducible] def Fo.no : Fo := ⟨fun _ => False, 0, fun _ h => h.elim, none⟩
/-- The same foreign blocks; nothing was taken yet. -/
@[reducible] def Fo.nt (fo : Fo) : Fo := ⟨fo.F, fo.lim, fo.ok, none⟩
variable [Fo]
def NF (v : Value) : Prop := ∀ g, v.ownBlock = some g → ¬ Fo.F g
/-- The block of a row that was appended to: its own, or new. -/
def NB (w : World) (v v' : Value) : Prop := v'.ownBlock = v.ownBlock ∨ ∃ k, v'.ownBlock = some k ∧ w.heap.size ≤ k
theorem nf_new {k : Nat} (h : Fo.lim ≤ k) : ¬ Fo.F k := fun hc => by have := Fo.ok k hc; omega
theorem NF.nil {n c : Nat} : NF (.slice none n c) := fun g h => by cases h
theorem NF.nb {w : World} {v v' : Value} (h : NF v) (hb : NB w v v') (hl : Fo.lim ≤ w.heap.size) : NF v' := by
  rcases hb with e | ⟨k, e, hk⟩
  · intro g hg; exact h g (e ▸ hg)
  · intro g hg
    rw [e] at hg
    injection hg with hg
    subst hg
    exact nf_new (Nat.le_trans hl hk)
theorem NF.slice {g n c m d : Nat} (h : NF (.slice (some ⟨g, 0, none⟩) n c)) : NF (.slice (some ⟨g, 0, none⟩) m d) := h
structure Tch (base : Nat) (p : Obj → Prop) (w w' : World) : Prop where
  os : w'.os = w.os
  tape : w'.tape = w.tape
  output : w'.output = w.output
  size : w.heap.size ≤ w'.heap.size
  block : ∀ k o, w.heap[k]? = some o → (k < base ∨ ¬ p o ∨ Fo.F k) → w'.heap[k]? = some o

section
variable {base : Nat} {p : Obj → Prop} {w w' w'' : World}
theorem heap_some {k : Nat} (h : k < w.heap.size) : ∃ b, w.heap[k]? = some b := ⟨w.heap[k], Array.getElem?_eq_getElem h⟩
theorem Tch.refl (base : Nat) (p : Obj → Prop) (w : World) : Tch base p w w := ⟨rfl, rfl, rfl, Nat.le_refl _, fun _ _ h _ => h⟩
theorem Tch.trans (h : Tch base p w w') (k : Tch base p w' w'') : Tch base p w w'' :=
  ⟨k.os.trans h.os, k.tape.trans h.tape, k.output.trans h.output, Nat.le_trans h.size k.size, fun i o ho hc => k.block i o (h.block i o ho hc) hc⟩
theorem Tch.below (h : Tch base p w w') (hb : base ≤ w.heap.size) : Below base w w' :=
  ⟨h.os, h.tape, h.output, h.size, fun k hk => by
    obtain ⟨o, ho⟩ := heap_some (w := w) (Nat.lt_of_lt_of_le hk hb)
    rw [h.block k o ho (.inl hk), ho]⟩
theorem Tch.of_below (h : Below w.heap.size w w') : Tch base p w w' :=
  ⟨h.os, h.tape, h.output, h.size, fun k _ ho _ => (h.block k (Array.getElem?_eq_some_iff.1 ho).1).trans ho⟩
theorem Tch.of_grown {g : Nat} {o : Obj} (h : w.grownBy w' (some g)) (hg : base ≤ g) (hf : ¬ Fo.F g) (ho : w.heap[g]? = some o) (hp : p o) : Tch base p w w' :=
  ⟨h.os, h.tape, h.output, h.size, fun k o' ho' hc => by
    refine (h.block k (Array.getElem?_eq_some_iff.1 ho').1 ?_).trans ho'
    intro e
    injection e with e
    subst e
    rw [ho] at ho'
    injection ho' with ho'
    subst ho'
    rcases hc with hc | hc | hc
    · omega
    · exact hc hp
    · exact hf hc⟩
theorem Tch.of_grown_none (h : w.grownBy w' none) : Tch base p w w' :=
  ⟨h.os, h.tape, h.output, h.size, fun k o' ho' _ => (h.block k (Array.getElem?_eq_some_iff.1 ho').1 (by simp)).trans ho'⟩
theorem Tch.alloc (h : Tch base p w w') (o : Obj) : Tch base p w (w'.alloc o) := h.trans (Tch.of_below ((Below.refl _ _).alloc (Nat.le_refl _) _))
theorem Tch.drewN (h : Tch base p w w') (n : Nat) : Tch base p w (w'.drewN n) := ⟨h.os, h.tape, h.output, h.size, h.block⟩
theorem Tch.drew (h : Tch base p w w') : Tch base p w w'.drew := ⟨h.os, h.tape, h.output, h.size, h.block⟩
theorem Tch.set (h : Tch base p w w') {g : Nat} {t : TypeId} {cs : Array Value} (hk : Blk w' g t cs) (hg : base ≤ g) (hf : ¬ Fo.F g) (hp : p (.cells cs t (0, 0))) (i : Nat) (u : Value) : Tch base p w (w'.setCell ⟨g, i, none⟩ u) :=
  h.trans (Tch.of_grown (only_setCell (World.grownBy.refl w' (some g)) (.inl rfl) u) hg hf hk hp)
theorem Blk.tch {g : Nat} {t : TypeId} {cs : Array Value} (h : Blk w g t cs) (ht : Tch base p w w') (hp : g < base ∨ ¬ p (.cells cs t (0, 0))) : Blk w' g t cs := ht.block _ _ h (hp.imp id .inl)
/-- A row's block, as an object. -/
theorem row_obj {e : TypeId} {size n : Nat} {v : Value} {xs : List Value} (h : w.ownsRow base e size v n xs) {g : Nat} (hg : v.ownBlock = some g) : ∃ cur, w.heap[g]? = some (.cells cur e (0, 0)) := by
  rcases h.2 with ⟨rfl, _⟩ | ⟨g', cap, cur, rfl, _, hh, _⟩
  · cases hg
  · cases hg
    exact ⟨cur, hh⟩
theorem row_tch {b : Nat} {e : TypeId} {size n : Nat} {v : Value} {xs : List Value} (h : w.ownsRow b e size v n xs) (ht : Tch base p w w') (hp : ∀ cur fr, ¬ p (.cells cur e fr)) : w'.ownsRow b e size v n xs := by
  refine ⟨h.1, ?_⟩
  rcases h.2 with hn | ⟨g, cap, cur, hv, hg, hh, r⟩
  · exact .inl hn
  · exact .inr ⟨g, cap, cur, hv, hg, ht.block _ _ hh (.inr (.inl (hp _ _))), r⟩
theorem Tch.of_row {b : Nat} {e : TypeId} {size n : Nat} {v : Value} {xs : List Value} (hr : w.ownsRow b e size v n xs) (h : w.grownBy w' v.ownBlock) (hb : base ≤ b) (hf : NF v) (hp : ∀ cur, p (.cells cur e (0, 0))) : Tch base p w w' := by
  cases hv : v.ownBlock with
  | none => rw [hv] at h; exact Tch.of_grown_none h
  | some g =>
    obtain ⟨cur, hh⟩ := row_obj hr hv
    rw [hv] at h
    exact Tch.of_grown h (Nat.le_trans hb (World.ownsRow.lt hr g hv).1) (hf g hv) hh (hp _)
end

/-! Rows of elements of several cells. -/
section
variable {P : Program} {w : World}
/-- Elements appended that lie somewhere. -/
theorem wp_appG {ops : Array Oper} {rest : List Oper} {o : Oper} {a : Act} {Q : Exit → Act → World → Prop} (hgd : o.guard = none) (s x : Operand) (t : TypeId)
    (ho : o.op = .call { callee := .builtin .append, args := #[s, x], argTypes := #[t, t] })
    (base : Nat) (e : TypeId) (z : Value) (size bytes : Nat) (ht : P.underlying t = some (.slice e)) (hinfo : (P.info? e).map (fun i => (i.zero, i.size, i.bytes)) = some (some z, size, bytes)) (hz1 : z.cells.size = size) (hs0 : 0 < size)
    (v : Value) (n : Nat) (xs news : List Value) (hs : a.eval s = v) (hown : w.ownsRow base e size v n xs) (hu : ∀ u ∈ news, u.oneCell' = true)
    (A : Addr) (m c : Nat) (hm : news.length = m * size) (hx : a.eval x = .slice (some A) m c) (hc : ∀ j u, news[j]? = some u → w.cell? (A.add j) = some u)
    (h63 : n + m ≤ maxLen) (hbytes : (n + m) * bytes ≤ 140737488355328) (hbase : base ≤ w.heap.size)
    (h : ∀ v' w', w'.ownsRow base e size v' (n + m) (xs ++ news) → w.grownBy w' v.ownBlock → NB w v v' → wpList P ops Q rest (a.put o.dst v') w') :
    wpList P ops Q (o :: rest) a w := by
  obtain ⟨i, hi, hz, hsize, hby⟩ := info_parts hinfo
  refine wpList_plain hgd fun K hK => ?_
  obtain ⟨v', w', hrun, h2, h3, _, h5⟩ := run_append_own_at (P := P) w base t o.type e i z size bytes ht hi hz hsize hby hz1 hs0 v n xs hown A m c news hm hc hu h63 hbytes hbase
  unfold Oper.wp execOp
  simp only [ho, resolve, invoke, builtin, Sem.run_bind, Sem.run_pure, Result.andThen_ok, List.map_toArray, List.map_cons, List.map_nil, hs, hx, hrun]
  exact hK _ _ (h v' w' h2 h3 (h5.imp id fun e => ⟨_, e, Nat.le_refl _⟩))
/-- The same at a step of a region that draws its order. -/
theorem step_appG {ops : Array Oper} {o : Oper} {a : Act} {K : Act → World → Prop} {Q : Exit → Act → World → Prop} {E : Prop} (hgd : o.guard = none) (s x : Operand) (t : TypeId)
    (ho : o.op = .call { callee := .builtin .append, args := #[s, x], argTypes := #[t, t] })
    (base : Nat) (e : TypeId) (z : Value) (size bytes : Nat) (ht : P.underlying t = some (.slice e)) (hinfo : (P.info? e).map (fun i => (i.zero, i.size, i.bytes)) = some (some z, size, bytes)) (hz1 : z.cells.size = size) (hs0 : 0 < size)
    (v : Value) (n : Nat) (xs news : List Value) (hs : a.eval s = v) (hown : w.ownsRow base e size v n xs) (hu : ∀ u ∈ news, u.oneCell' = true)
    (A : Addr) (m c : Nat) (hm : news.length = m * size) (hx : a.eval x = .slice (some A) m c) (hc : ∀ j u, news[j]? = some u → w.cell? (A.add j) = some u)
    (h63 : n + m ≤ maxLen) (hbytes : (n + m) * bytes ≤ 140737488355328) (hbase : base ≤ w.heap.size)
    (h : ∀ v' w', w'.ownsRow base e size v' (n + m) (xs ++ news) → w.grownBy w' v.ownBlock → NB w v v' → K (a.put o.dst v') w') :
    if Region.wanted o (yielded ops a.tmps) = true then Oper.wp P o a w K Q else E := by
  have hw : Region.wanted o (yielded ops a.tmps) = true := by simp [Region.wanted, hgd]
  rw [if_pos hw]
  obtain ⟨i, hi, hz, hsize, hby⟩ := info_parts hinfo
  obtain ⟨v', w', hrun, h2, h3, _, h5⟩ := run_append_own_at (P := P) w base t o.type e i z size bytes ht hi hz hsize hby hz1 hs0 v n xs hown A m c news hm hc hu h63 hbytes hbase
  unfold Oper.wp execOp
  simp only [ho, resolve, invoke, builtin, Sem.run_bind, Sem.run_pure, Result.andThen_ok, List.map_toArray, List.map_cons, List.map_nil, hs, hx, hrun]
  exact h v' w' h2 h3 (h5.imp id fun e => ⟨_, e, Nat.le_refl _⟩)

/-- The last element let go, its cell written over. -/
theorem row_pop {base g cap n : Nat} {e : TypeId} {xs : List Value} (h : w.ownsRow base e 1 (.slice (some ⟨g, 0, none⟩) (n + 1) cap) (n + 1) xs) (u : Value) :
    (w.setCell ⟨g, n, none⟩ u).ownsRow base e 1 (.slice (some ⟨g, 0, none⟩) n cap) n (xs.take n) := by
  have hl := h.1
  rcases h.2 with ⟨hv, _⟩ | ⟨g', cap', cur, hv, hg, hh, hnc, hm, hs, ht⟩
  · cases hv
  · injection hv with h1 h2 h3
    injection h1 with h1
    injection h1 with h1
    subst h1 h3
    refine ⟨by simp; omega, .inr ⟨g, cap, cur.setIfInBounds n u, rfl, hg, Blk.set_ hh n u, by omega, hm, by simp [hs], ?_⟩⟩
    rw [← ht, List.take_take, Nat.min_eq_left (by omega)]
    rw [Array.toList_setIfInBounds, List.take_set_of_le (by omega), Nat.mul_one]
end
end Go.Proofs.YtjepnddndpmnnaaGreat

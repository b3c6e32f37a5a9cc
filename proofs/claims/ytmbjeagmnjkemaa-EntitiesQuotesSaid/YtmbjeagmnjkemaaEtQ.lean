/-
  A text whose signs are written as references is filled to itself. No program is read here.
-/
import Derived.Test.YtmbjeagmnjkemaaEtP
namespace Go.Proofs.Ytmbjeagmnjkemaa
set_option maxRecDepth 8000

def encE (c : UInt8) : List UInt8 :=
  if c = 60 then [38, 108, 116, 59] else if c = 62 then [38, 103, 116, 59] else if c = 38 then [38, 97, 109, 112, 59] else if c = 34 then [38, 113, 117, 111, 116, 59] else [c]
def encL : List UInt8 → List UInt8
  | [] => []
  | c :: t => encE c ++ encL t
theorem encL_len : ∀ l : List UInt8, (encL l).length ≤ 6 * l.length
  | [] => Nat.le_refl _
  | c :: t => by
    have := encL_len t
    have h2 : (encE c).length ≤ 6 := by unfold encE; repeat' split
                                        all_goals simp
    simp only [encL, List.length_append, List.length_cons]
    omega
theorem encL_snoc (c : UInt8) : ∀ l : List UInt8, encL (l ++ [c]) = encL l ++ encE c
  | [] => by simp [encL]
  | d :: t => by simp only [List.cons_append, encL, encL_snoc c t, List.append_assoc]
theorem enc_step {l : List UInt8} {k : Nat} (h : k < l.length) : encL (l.take (k + 1)) = encL (l.take k) ++ encE l[k] := by
  rw [List.take_succ_eq_append_getElem h, encL_snoc]
theorem fill_four {L : EnL} {f : Nat} {nm t rest : List UInt8} {at_ : Nat} {out : List UInt8} {told : Nat} (hn : localL nm = true) (h4 : fourE nm = some t) :
    fillE L (f + 1) (38 :: (nm ++ 59 :: rest)) at_ out told = fillE L f rest (at_ + 1 + nm.length + 1) (out ++ t) told := by
  have hg : getE L told nm = ⟨t, 0, told⟩ := by unfold getE; rw [h4]
  rw [fill_ref (nm := nm) (by rw [ref_is hn]) (by rw [hg]), hg, ref_is hn]
  simp only
  rw [show nm.length + 1 = (nm ++ [59]).length by simp, show nm ++ 59 :: rest = (nm ++ [59]) ++ rest by simp, List.drop_left]
theorem fill_enc (L : EnL) (told : Nat) : ∀ (l : List UInt8) (f at_ : Nat) (out : List UInt8), (encL l).length ≤ f → fillE L f (encL l) at_ out told = ⟨out ++ l, 0, at_ + (encL l).length, told⟩
  | [], f, at_, out, _ => by simp only [encL]; rw [fill_end]; simp
  | c :: t, f, at_, out, hf => by
    have key : ∀ nm, encE c = 38 :: (nm ++ [59]) → localL nm = true → fourE nm = some [c] → fillE L f (encL (c :: t)) at_ out told = ⟨out ++ c :: t, 0, at_ + (encL (c :: t)).length, told⟩ := by
      intro nm he hn h4
      have hl : (encL (c :: t)).length = 1 + nm.length + 1 + (encL t).length := by simp only [encL, he, List.length_append, List.length_cons, List.length_nil]; omega
      obtain ⟨g, rfl⟩ : ∃ g, f = g + 1 := ⟨f - 1, by omega⟩
      rw [hl]
      rw [show encL (c :: t) = 38 :: (nm ++ 59 :: encL t) by simp [encL, he]]
      rw [fill_four hn h4, fill_enc L told t g _ _ (by omega)]
      simp
      omega
    by_cases h1 : c = 60
    · exact key [108, 116] (by subst h1; rfl) (by decide) (by subst h1; rfl)
    by_cases h2 : c = 62
    · exact key [103, 116] (by subst h2; rfl) (by decide) (by subst h2; rfl)
    by_cases h3 : c = 38
    · exact key [97, 109, 112] (by subst h3; rfl) (by decide) (by subst h3; rfl)
    by_cases h4 : c = 34
    · exact key [113, 117, 111, 116] (by subst h4; rfl) (by decide) (by subst h4; rfl)
    have he : encE c = [c] := by unfold encE; rw [if_neg h1, if_neg h2, if_neg h3, if_neg h4]
    have hl : (encL (c :: t)).length = 1 + (encL t).length := by simp only [encL, he, List.length_append, List.length_cons, List.length_nil]
    obtain ⟨g, rfl⟩ : ∃ g, f = g + 1 := ⟨f - 1, by omega⟩
    rw [hl]
    rw [show encL (c :: t) = c :: encL t by simp [encL, he]]
    rw [fill_byte h3, fill_enc L told t g _ _ (by omega)]
    simp
    omega
end Go.Proofs.Ytmbjeagmnjkemaa

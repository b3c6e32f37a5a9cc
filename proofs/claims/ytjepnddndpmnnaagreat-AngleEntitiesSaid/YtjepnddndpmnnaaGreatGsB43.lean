/-
  angle: a text that stands as it is, and one that an entity stands for, tell the same. No program is read here.
  angle: the two texts of AngleEntities. No program is read here.
-/
import Derived.Test.YtjepnddndpmnnaaGreatGsB35
import Derived.Test.YtjepnddndpmnnaaGreatGsB39
namespace Go.Proofs.YtjepnddndpmnnaaGreat
set_option maxRecDepth 100000
set_option linter.unusedSimpArgs false
set_option linter.unusedVariables false
set_option linter.unusedSectionVars false
variable [Tab] [Fo]

/-- A byte that may stand as it is. -/
def PlB (c : UInt8) : Prop := 32 ≤ c.toNat ∧ c.toNat ≠ 60 ∧ c.toNat ≠ 38 ∧ c.toNat ≠ 34
def setRt (s : As) (t : List UInt8) : As := { s with m := { s.m with rt := t } }
theorem plain_step (s : As) (b : UInt8) (ha : s.m.a = 5 ∨ s.m.a = 13 ∨ s.m.a = 15) (hr : s.m.rr = false) (hb : PlB b) (hl : s.m.rt.length + 1 ≤ 48) : stepA s b = ⟨setRt s (s.m.rt ++ [b]), 0⟩ := by
  obtain ⟨h1, h2, h3, h4⟩ := hb
  have hsk : skipsA s.m.a = false := by
    unfold skipsA
    rw [decide_eq_false_iff_not]
    omega
  have hadd : addR s.m b = ⟨{ s.m with rt := s.m.rt ++ [b] }, 0⟩ := by
    unfold addR
    rw [if_neg (by rw [hr]; decide), if_neg h3, if_neg (by omega)]
    unfold putR
    rw [if_neg (by rw [List.length_singleton]; omega)]
  have he : ∀ c : Nat, b.toNat ≠ c → endedA s.m b c = false := fun c hc => by
    unfold endedA
    rw [decide_eq_false hc]
    rfl
  unfold stepA
  rw [if_neg (by rw [hsk]; simp)]
  rcases ha with ha | ha | ha
  · rw [if_neg (by omega), if_neg (by omega), if_neg (by omega), if_neg (by omega), if_neg (by omega), if_pos ha]
    unfold entTextA
    rw [if_neg (by rw [he 34 h4]; decide), hadd]
    rfl
  · rw [if_neg (by omega), if_neg (by omega), if_neg (by omega), if_neg (by omega), if_neg (by omega), if_neg (by omega), if_neg (by omega), if_neg (by omega), if_neg (by omega), if_neg (by omega), if_neg (by omega), if_neg (by omega), if_neg (by omega), if_pos ha]
    unfold attrTextA
    rw [if_neg (by rw [he 34 h4]; decide), hadd]
    rfl
  · rw [if_neg (by omega), if_neg (by omega), if_neg (by omega), if_neg (by omega), if_neg (by omega), if_neg (by omega), if_neg (by omega), if_neg (by omega), if_neg (by omega), if_neg (by omega), if_neg (by omega), if_neg (by omega), if_neg (by omega), if_neg (by omega), if_neg (by omega), if_pos ha]
    unfold contentA
    rw [if_pos (he 60 h2), hadd]
    rfl
/-- Where a Scan stands. -/
def ScI (l lo : Int) : Prop := 0 ≤ l ∧ l ≤ 3 ∧ (0 < l → 128 ≤ lo)
theorem sci_step {l lo b : Int} (h : ScI l lo) : ScI (stL l b) (stLo l b) := by
  obtain ⟨h0, h3, h1⟩ := h
  have := stL_range (b := b) h0 h3
  refine ⟨this.1, this.2, fun _ => ?_⟩
  unfold stLo
  repeat' split
  all_goals omega
theorem feed1_ok (x : Ss agP) (c : UInt8) (he : x.e = 0) (hok : stOk x.sl x.slo x.shi (c.toNat : Int) = true) {r : Ar} (hs : stepA x.b c = r) :
    feed1 x c = ⟨r.b, stL x.sl (c.toNat : Int), stLo x.sl (c.toNat : Int), stHi x.sl (c.toNat : Int), r.e, if r.e = 0 then x.rd + 1 else x.rd⟩ := by
  unfold feed1
  rw [if_neg (by rw [he]; decide), if_pos hok]
  subst hs
  rfl
/-- A text of bytes that may stand as they are. -/
theorem feed_plain (L : List UInt8) (s : As) (ha : s.m.a = 5 ∨ s.m.a = 13 ∨ s.m.a = 15) (hr : s.m.rr = false) (hp : ∀ c ∈ L, PlB c) (h48 : L.length ≤ 48) (r0 : Nat) :
    ∀ (t : List UInt8) (k : Nat) (l lo hi : Int), L.drop k = t → k ≤ L.length → UtfAt L k l lo hi → ScI l lo →
      (∃ l' lo' hi', UtfAt L L.length l' lo' hi' ∧ ScI l' lo' ∧ feedG (⟨setRt s (L.take k), l, lo, hi, 0, r0 + k⟩ : Ss agP) t = ⟨setRt s L, l', lo', hi', 0, r0 + L.length⟩) ∨
      ((feedG (⟨setRt s (L.take k), l, lo, hi, 0, r0 + k⟩ : Ss agP) t).e = 3 ∧ (runesL L).isSome = false)
  | [], k, l, lo, hi, hd, hk, hu, hi' => by
    have hkl : k = L.length := by
      have := congrArg List.length hd
      rw [List.length_drop] at this
      simp at this
      omega
    subst hkl
    exact .inl ⟨l, lo, hi, hu, hi', by rw [List.take_length]; rfl⟩
  | c :: t, k, l, lo, hi, hd, hk, hu, hi' => by
    have hkl : k < L.length := by
      have := congrArg List.length hd
      rw [List.length_drop] at this
      simp at this
      omega
    have hd2 : L.drop (k + 1) = t := by
      have := List.drop_eq_getElem_cons hkl
      rw [hd] at this
      injection this with _ h2
      exact h2.symm
    have hck : L[k] = c := by
      have := List.drop_eq_getElem_cons hkl
      rw [hd] at this
      injection this with h1 _
      exact h1.symm
    have htk : L.take (k + 1) = L.take k ++ [c] := by rw [← hck]; exact (List.take_append_getElem hkl).symm
    rw [feedG_cons]
    by_cases hok : stOk l lo hi (c.toNat : Int) = true
    · have hst : stepA (setRt s (L.take k)) c = ⟨setRt s (L.take (k + 1)), 0⟩ := by
        rw [plain_step (setRt s (L.take k)) c ha hr (hp c (by rw [← hck]; exact List.getElem_mem hkl)) (by show (L.take k).length + 1 ≤ 48; rw [List.length_take]; omega), htk]
        rfl
      rw [feed1_ok _ c rfl hok hst]
      exact feed_plain L s ha hr hp h48 r0 t (k + 1) _ _ _ hd2 hkl (utf_step (by rw [hd, hd2]) hu hok) (sci_step hi')
    · have hok' : stOk l lo hi (c.toNat : Int) = false := by simpa using hok
      refine .inr ⟨?_, utf_bad (by rw [hd, hd2]) hu hok'⟩
      have h1 : feed1 (⟨setRt s (L.take k), l, lo, hi, 0, r0 + k⟩ : Ss agP) c = { (⟨setRt s (L.take k), l, lo, hi, 0, r0 + k⟩ : Ss agP) with e := 3 } := by
        unfold feed1
        rw [if_neg (fun hc => hc rfl), if_neg (by rw [hok']; decide)]
      rw [h1, feedG_stop (by show (3 : Int) ≠ 0; decide)]
/-- A sign behind characters. -/
theorem ascii_ok {l lo hi : Int} (h : l = 0) (c : UInt8) (hc : c.toNat < 128) : stOk l lo hi (c.toNat : Int) = true ∧ stL l (c.toNat : Int) = 0 ∧ stLo l (c.toNat : Int) = 128 ∧ stHi l (c.toNat : Int) = 191 := by
  subst h
  refine ⟨?_, ?_, ?_, ?_⟩
  · unfold stOk; rw [if_neg (by decide), decide_eq_true_iff]; omega
  · unfold stL; rw [if_neg (by decide), if_pos (by omega)]
  · unfold stLo; rw [if_neg (by decide), if_neg (by omega), if_neg (by omega)]
  · unfold stHi; rw [if_neg (by decide), if_neg (by omega), if_neg (by omega)]
/-- A sign within a character. -/
theorem ascii_bad {l lo hi : Int} (h : ScI l lo) (hl : l ≠ 0) (c : UInt8) (hc : c.toNat < 128) : stOk l lo hi (c.toNat : Int) = false := by
  obtain ⟨h0, _, h1⟩ := h
  unfold stOk
  rw [if_pos (by omega), decide_eq_false_iff_not]
  have := h1 (by omega)
  omega
theorem feedG_nil (x : Ss agP) : feedG x [] = x := rfl
/-- A text that stands as it is, and a sign behind it. -/
theorem plain_then (L : List UInt8) (s : As) (ha : s.m.a = 5 ∨ s.m.a = 13 ∨ s.m.a = 15) (hr : s.m.rr = false) (ht : s.m.rt = []) (hp : ∀ c ∈ L, PlB c) (h48 : L.length ≤ 48) (r0 : Nat) (c : UInt8) (hc : c.toNat < 128) :
    ((runesL L).isSome = true → feedG (⟨s, 0, 128, 191, 0, r0⟩ : Ss agP) (L ++ [c]) = ⟨(stepA (setRt s L) c).b, 0, 128, 191, (stepA (setRt s L) c).e, if (stepA (setRt s L) c).e = 0 then r0 + L.length + 1 else r0 + L.length⟩) ∧
    ((runesL L).isSome = false → (feedG (⟨s, 0, 128, 191, 0, r0⟩ : Ss agP) (L ++ [c])).e = 3) := by
  have hs0 : setRt s (L.take 0) = s := by
    obtain ⟨⟨⟩, _, _⟩ := s
    simp only at ht
    subst ht
    rfl
  have hu : UtfAt L 0 0 128 191 := ⟨_, _, rfl⟩
  have hf := feed_plain L s ha hr hp h48 r0 L 0 0 128 191 rfl (Nat.zero_le _) hu ⟨by decide, by decide, fun h => absurd h (by decide)⟩
  rw [hs0, Nat.add_zero] at hf
  rw [feedG_append]
  rcases hf with ⟨l, lo, hi, h1, h2, h3⟩ | ⟨h1, h2⟩
  · have he := utf_end (Nat.le_refl _) h1
    rw [h3]
    refine ⟨fun hv => ?_, fun hv => ?_⟩
    · rw [hv] at he
      have hl : l = 0 := of_decide_eq_true he.symm
      obtain ⟨q1, q2, q3, q4⟩ := ascii_ok (lo := lo) (hi := hi) hl c hc
      rw [feedG_cons, feedG_nil, feed1_ok _ c rfl q1 rfl]
      change (⟨_, stL l (c.toNat : Int), stLo l (c.toNat : Int), stHi l (c.toNat : Int), _, _⟩ : Ss agP) = _
      rw [q2, q3, q4]
    · rw [hv] at he
      have hl : l ≠ 0 := of_decide_eq_false he.symm
      have q1 := ascii_bad (hi := hi) h2 hl c hc
      rw [feedG_cons, feedG_nil]
      unfold feed1
      rw [if_neg (fun hc => hc rfl), if_neg (by rw [q1]; decide)]
  · refine ⟨fun hv => (by rw [hv] at h2; cases h2), fun _ => ?_⟩
    rw [feedG_stop (by rw [h1]; decide)]
    exact h1
end Go.Proofs.YtjepnddndpmnnaaGreat
namespace Go.Proofs.YtjepnddndpmnnaaGreat
open Go
set_option maxRecDepth 100000
set_option linter.unusedSimpArgs false
set_option linter.unusedVariables false
set_option linter.unusedSectionVars false
variable [Tab] [Fo]

theorem plain_go (L : List UInt8) (s : As) (ha : s.m.a = 5 ∨ s.m.a = 13 ∨ s.m.a = 15) (hr : s.m.rr = false) (ht : s.m.rt = []) (hp : ∀ c ∈ L, PlB c) (h48 : L.length ≤ 48) (r0 : Nat) (c : UInt8) (hc : c.toNat < 128) (t : List UInt8) :
    ((runesL L).isSome = true → feedG (⟨s, 0, 128, 191, 0, r0⟩ : Ss agP) (L ++ c :: t) = feedG (⟨setRt s L, 0, 128, 191, 0, r0 + L.length⟩ : Ss agP) (c :: t)) ∧
    ((runesL L).isSome = false → (feedG (⟨s, 0, 128, 191, 0, r0⟩ : Ss agP) (L ++ c :: t)).e = 3) := by
  obtain ⟨h1, h2⟩ := plain_then L s ha hr ht hp h48 r0 c hc
  have e1 : L ++ c :: t = (L ++ [c]) ++ t := by simp
  refine ⟨fun hv => ?_, fun hv => ?_⟩
  · rw [e1, feedG_append, h1 hv, feedG_cons]
    obtain ⟨q1, q2, q3, q4⟩ := ascii_ok (l := 0) (lo := 128) (hi := 191) rfl c hc
    rw [feed1_ok (⟨setRt s L, 0, 128, 191, 0, r0 + L.length⟩ : Ss agP) c rfl q1 rfl]
    simp only [q2, q3, q4]
  · rw [e1, feedG_append, feedG_stop (by rw [h2 hv]; decide)]
    exact h2 hv
/-- A sign that is taken. -/
theorem asc (s s' : As) (c : UInt8) (hc : c.toNat < 128) (h : stepA s c = ⟨s', 0⟩) (r : Nat) (t : List UInt8) : feedG (⟨s, 0, 128, 191, 0, r⟩ : Ss agP) (c :: t) = feedG (⟨s', 0, 128, 191, 0, r + 1⟩ : Ss agP) t := by
  obtain ⟨q1, q2, q3, q4⟩ := ascii_ok (l := 0) (lo := 128) (hi := 191) rfl c hc
  rw [feedG_cons, feed1_ok (⟨s, 0, 128, 191, 0, r⟩ : Ss agP) c rfl q1 h]
  simp only [q2, q3, q4, if_true]
/-- In a tag's one attribute. -/
def mA (E : EnL) (td : Nat) (nm : List UInt8) : Ag := { ag0 with a := 13, el := ⟨[], [97]⟩, an := ⟨[], [107]⟩, L := E, told := td, nmd := nm }
/-- In the contents of the element. -/
def mB (E : EnL) (td : Nat) (nm : List UInt8) : Ag := { ag0 with a := 15, el := ⟨[], [97]⟩, an := ⟨[], [107]⟩, L := E, told := td, nmd := nm, op := [⟨[], [97]⟩], sc := [[]] }
def st2 : List Pt := [⟨10, 11, [[107]]⟩, ⟨0, 10, []⟩]
def evA (L : List UInt8) : List Ev := [⟨10, bs [97], bs []⟩, ⟨11, bs [107], bs L⟩]
def evT (L : List UInt8) : List Ev := (if L = [] then [] else [⟨4, bs L, ⟨#[]⟩⟩]) ++ [bare 12]
def pre1 : List UInt8 := [60, 97, 32, 107, 61, 34]
def pre2 : List UInt8 := [60, 33, 69, 78, 84, 73, 84, 89, 32, 101, 32, 34]
def txt1 (L : List UInt8) : List UInt8 := pre1 ++ (L ++ 34 :: 62 :: (L ++ [60, 47, 97, 62]))
def txt2 (L : List UInt8) : List UInt8 := pre2 ++ (L ++ 34 :: 62 :: (pre1 ++ [38, 101, 59, 34, 62, 38, 101, 59, 60, 47, 97, 62]))
theorem feed_pre1 (E : EnL) (nm : List UInt8) (r : Nat) : feedG (⟨⟨{ ag0 with L := E, nmd := nm }, [topP], []⟩, 0, 128, 191, 0, r⟩ : Ss agP) pre1 = ⟨⟨mA E 0 nm, [topP], []⟩, 0, 128, 191, 0, r + 6⟩ := by kernel_rfl
theorem feed_pre2 (r : Nat) : feedG (⟨⟨ag0, [topP], []⟩, 0, 128, 191, 0, r⟩ : Ss agP) pre2 = ⟨⟨{ ag0 with a := 5, nmd := [101] }, [topP], []⟩, 0, 128, 191, 0, r + 12⟩ := by kernel_rfl
theorem valid_of {L : List UInt8} (h : (runesL L).isSome = true) (hl : L.length ≤ 48) : validL L = true := by unfold validL; rw [h, decide_eq_true hl]; rfl
theorem bs_list (L : List UInt8) : (bs L).data.toList = L := by simp [bs]
theorem attr_ok {L : List UInt8} (h : validL L = true) : stepE [⟨10, 0, []⟩, ⟨0, 10, []⟩] ⟨11, bs [107], bs L⟩ = 0 := by
  have hf : formedB ⟨11, bs [107], bs L⟩ = true := by
    show (validL (bs L).data.toList && fullL (bs [107]).data.toList) = true
    rw [bs_list, h]
    decide
  simp only [stepE]
  rw [if_neg (by rw [hf]; decide)]
  decide
theorem text_ok {L : List UInt8} (h : validL L = true) (hn : L ≠ []) : stepE st2 ⟨4, bs L, ⟨#[]⟩⟩ = 0 := by
  have hf : formedB ⟨4, bs L, ⟨#[]⟩⟩ = true := by
    show (emptyT ⟨#[]⟩ && validL (bs L).data.toList) = true
    rw [bs_list, h]
    decide
  have he : emptyT (bs L) = false := by
    unfold emptyT
    rw [bs_list]
    exact decide_eq_false hn
  unfold st2
  simp only [stepE]
  rw [if_neg (by rw [hf, he]; decide)]
  rfl
theorem open_go {s : As} {B : Ns.St} (h : bindAllA s.m.ats ([] :: s.m.sc) = ⟨B, 0⟩) : openA s = tellElemA { s with m := { opened s.m with sc := B } } := by
  unfold openA
  rw [h]
  rfl
theorem tellElem_go {s s1 s2 : As} (h1 : tellN s true s.m.el [] = ⟨s1, 0⟩) (h2 : tellAts s.m.ats s1 = ⟨s2, 0⟩) : tellElemA s = ⟨{ s2 with m := { s.m with ats := [] } }, 0⟩ := by
  unfold tellElemA
  rw [h1, if_neg (fun hc => hc rfl), h2, if_neg (fun hc => hc rfl)]
theorem tellAts_one {s s1 : As} {a : Na × List UInt8} (h0 : bindsA a.1 = none) (h1 : tellN s false a.1 a.2 = ⟨s1, 0⟩) : tellAts [a] s = ⟨s1, 0⟩ := by
  rw [tellAts, if_neg (by rw [h0]; decide), h1, if_neg (fun hc => hc rfl)]
  rfl
theorem tellN_go {s : As} {el : Bool} {n : Na} {v f : List UInt8} (h : fullA s.m.sc el n = some f) (he : stepE s.st ⟨if el = true then 10 else 11, bs f, bs v⟩ = 0) :
    tellN s el n v = ⟨⟨s.m, goS s.st ⟨if el = true then 10 else 11, bs f, bs v⟩, s.l ++ [⟨if el = true then 10 else 11, bs f, bs v⟩]⟩, 0⟩ := by
  unfold tellN
  rw [h]
  unfold tellA stepS tellL
  simp only [he, if_true]
theorem qgt (E : EnL) (td : Nat) (nm L : List UInt8) (h : validL L = true) (r : Nat) (t : List UInt8) : feedG (⟨⟨{ mA E td nm with rt := L }, [topP], []⟩, 0, 128, 191, 0, r⟩ : Ss agP) (34 :: 62 :: t) = feedG (⟨⟨mB E td nm, st2, evA L⟩, 0, 128, 191, 0, r + 2⟩ : Ss agP) t := by
  have h1 : stepA ⟨{ mA E td nm with rt := L }, [topP], []⟩ 34 = ⟨⟨{ mA E td nm with a := 8, ats := [(⟨[], [107]⟩, L)] }, [topP], []⟩, 0⟩ := by kernel_rfl
  have h2 : stepA ⟨{ mA E td nm with a := 8, ats := [(⟨[], [107]⟩, L)] }, [topP], []⟩ 62 = ⟨⟨mB E td nm, st2, evA L⟩, 0⟩ := by
    have q0 : stepA ⟨{ mA E td nm with a := 8, ats := [(⟨[], [107]⟩, L)] }, [topP], []⟩ 62 = openA ⟨{ mA E td nm with a := 15, ats := [(⟨[], [107]⟩, L)] }, [topP], []⟩ := by kernel_rfl
    have q1 : bindAllA [((⟨[], [107]⟩ : Na), L)] [[]] = ⟨[[]], 0⟩ := by kernel_rfl
    have q2 : tellN ⟨{ mB E td nm with ats := [(⟨[], [107]⟩, L)] }, [topP], []⟩ true ⟨[], [97]⟩ [] = ⟨⟨{ mB E td nm with ats := [(⟨[], [107]⟩, L)] }, [⟨10, 0, []⟩, ⟨0, 10, []⟩], [⟨10, bs [97], bs []⟩]⟩, 0⟩ := by kernel_rfl
    have q3 : tellN ⟨{ mB E td nm with ats := [(⟨[], [107]⟩, L)] }, [⟨10, 0, []⟩, ⟨0, 10, []⟩], [⟨10, bs [97], bs []⟩]⟩ false ⟨[], [107]⟩ L = ⟨⟨{ mB E td nm with ats := [(⟨[], [107]⟩, L)] }, st2, evA L⟩, 0⟩ :=
      tellN_go (f := [107]) (by kernel_rfl) (attr_ok h)
    rw [q0, open_go (s := ⟨{ mA E td nm with a := 15, ats := [(⟨[], [107]⟩, L)] }, [topP], []⟩) q1]
    exact tellElem_go (s := ⟨{ mB E td nm with ats := [(⟨[], [107]⟩, L)] }, [topP], []⟩) q2 (tellAts_one (by kernel_rfl) q3)
  rw [asc _ _ 34 (by decide) h1, asc _ _ 62 (by decide) h2]
theorem raw_step (s : As) (b : UInt8) (ha : s.m.a = 13 ∨ s.m.a = 15) (hr : s.m.rr = true) : stepA s b = s.mr (addR s.m b) := by
  have hsk : skipsA s.m.a = false := by
    unfold skipsA
    rw [decide_eq_false_iff_not]
    omega
  have he : ∀ c : Nat, endedA s.m b c = false := fun c => by
    unfold endedA
    rw [hr]
    simp
  unfold stepA
  rw [if_neg (by rw [hsk]; simp)]
  rcases ha with ha | ha
  · rw [if_neg (by omega), if_neg (by omega), if_neg (by omega), if_neg (by omega), if_neg (by omega), if_neg (by omega), if_neg (by omega), if_neg (by omega), if_neg (by omega), if_neg (by omega), if_neg (by omega), if_neg (by omega), if_neg (by omega), if_pos ha]
    unfold attrTextA
    rw [if_neg (by rw [he 34]; decide)]
  · rw [if_neg (by omega), if_neg (by omega), if_neg (by omega), if_neg (by omega), if_neg (by omega), if_neg (by omega), if_neg (by omega), if_neg (by omega), if_neg (by omega), if_neg (by omega), if_neg (by omega), if_neg (by omega), if_neg (by omega), if_neg (by omega), if_neg (by omega), if_pos ha]
    unfold contentA
    rw [if_pos (he 60)]
/-- A reference to what was defined. -/
theorem ref_go (s : As) (L : List UInt8) (td : Nat) (ha : s.m.a = 13 ∨ s.m.a = 15) (hr : s.m.rr = false) (hn : s.m.rn = []) (ht : s.m.rt = []) (hE : s.m.L = [([101], L)]) (htd : s.m.told = td) (h1 : td ≤ 30) (h48 : L.length ≤ 48) (r : Nat) (t : List UInt8) :
    feedG (⟨s, 0, 128, 191, 0, r⟩ : Ss agP) (38 :: 101 :: 59 :: t) = feedG (⟨{ s with m := { s.m with rt := L, told := td + 1 } }, 0, 128, 191, 0, r + 3⟩ : Ss agP) t := by
  obtain ⟨⟨a, rest, ent, nmd, E, told, rt, rr, rn, nt, np, el, an, ats, en, op, sc⟩, st, l⟩ := s
  simp only at ha hr hn ht hE htd
  subst hr hn ht hE htd
  have hg : getE [([101], L)] told [101] = ⟨L, 0, told + 1⟩ := by
    show (if 40 ≤ told then (⟨[], 13, told⟩ : GR) else ⟨L, 0, told + 1⟩) = _
    rw [if_neg (by omega)]
  have s1 : ∀ a', a' = 13 ∨ a' = 15 → stepA ⟨⟨a', rest, ent, nmd, [([101], L)], told, [], false, [], nt, np, el, an, ats, en, op, sc⟩, st, l⟩ 38 = ⟨⟨⟨a', rest, ent, nmd, [([101], L)], told, [], true, [], nt, np, el, an, ats, en, op, sc⟩, st, l⟩, 0⟩ := fun a' h => by
    rcases h with rfl | rfl <;> kernel_rfl
  have s2 : ∀ a', a' = 13 ∨ a' = 15 → stepA ⟨⟨a', rest, ent, nmd, [([101], L)], told, [], true, [], nt, np, el, an, ats, en, op, sc⟩, st, l⟩ 101 = ⟨⟨⟨a', rest, ent, nmd, [([101], L)], told, [], true, [101], nt, np, el, an, ats, en, op, sc⟩, st, l⟩, 0⟩ := fun a' h => by
    rcases h with rfl | rfl <;> kernel_rfl
  have s3 : ∀ a', a' = 13 ∨ a' = 15 → stepA ⟨⟨a', rest, ent, nmd, [([101], L)], told, [], true, [101], nt, np, el, an, ats, en, op, sc⟩, st, l⟩ 59 = ⟨⟨⟨a', rest, ent, nmd, [([101], L)], told + 1, L, false, [], nt, np, el, an, ats, en, op, sc⟩, st, l⟩, 0⟩ := fun a' h => by
    have hadd : addR ⟨a', rest, ent, nmd, [([101], L)], told, [], true, [101], nt, np, el, an, ats, en, op, sc⟩ 59 = ⟨⟨a', rest, ent, nmd, [([101], L)], told + 1, L, false, [], nt, np, el, an, ats, en, op, sc⟩, 0⟩ := by
      unfold addR
      rw [if_pos rfl]
      unfold referA
      rw [if_neg (show ¬ goesN [101] 59 = true by decide +kernel), if_neg (show ¬ (([101] : List UInt8) = [] ∨ (59 : UInt8).toNat ≠ 59) by decide)]
      unfold getA
      simp only [hg]
      rw [if_neg (fun hc => hc rfl)]
      unfold putR
      rw [if_neg (by simp; omega)]
      simp
    rw [raw_step _ 59 h rfl, show addR _ 59 = _ from hadd]
    rfl
  rw [asc _ _ 38 (by decide) (s1 a ha), asc _ _ 101 (by decide) (s2 a ha), asc _ _ 59 (by decide) (s3 a ha)]
/-- The end of the element. -/
def mE (E : EnL) (td : Nat) (nm : List UInt8) : Ag := { mB E td nm with a := 18, en := ⟨[], [97]⟩, op := [], sc := [] }
theorem end_go (E : EnL) (td : Nat) (nm L : List UInt8) (h : validL L = true) (r : Nat) : feedG (⟨⟨{ mB E td nm with rt := L }, st2, evA L⟩, 0, 128, 191, 0, r⟩ : Ss agP) [60, 47, 97, 62] = ⟨⟨mE E td nm, [⟨0, 10, []⟩], evA L ++ evT L⟩, 0, 128, 191, 0, r + 4⟩ := by
  by_cases hL : L = []
  · subst hL
    kernel_rfl
  · have h1 : stepA ⟨{ mB E td nm with rt := L }, st2, evA L⟩ 60 = ⟨⟨{ mB E td nm with a := 1 }, [⟨10, 4, [[107]]⟩, ⟨0, 10, []⟩], evA L ++ [⟨4, bs L, ⟨#[]⟩⟩]⟩, 0⟩ := by
      have q : stepA ⟨{ mB E td nm with rt := L }, st2, evA L⟩ 60 = contentA ⟨{ mB E td nm with rt := L }, st2, evA L⟩ 60 := by kernel_rfl
      rw [q]
      unfold contentA
      rw [if_neg (show ¬ endedA { mB E td nm with rt := L } 60 60 = false by show ¬ (decide ((60 : UInt8).toNat = 60) && !false) = false; decide), if_neg (show ¬ L = [] from hL)]
      unfold tellA stepS tellL
      have ht := text_ok h hL
      show (⟨⟨_, if stepE st2 ⟨4, bs L, ⟨#[]⟩⟩ = 0 then goS st2 ⟨4, bs L, ⟨#[]⟩⟩ else st2, if stepE st2 ⟨4, bs L, ⟨#[]⟩⟩ = 0 then evA L ++ [⟨4, bs L, ⟨#[]⟩⟩] else evA L⟩, stepE st2 ⟨4, bs L, ⟨#[]⟩⟩⟩ : Ar) = _
      rw [ht, if_pos rfl, if_pos rfl]
      rfl
    have h2 : feedG (⟨⟨{ mB E td nm with a := 1 }, [⟨10, 4, [[107]]⟩, ⟨0, 10, []⟩], evA L ++ [⟨4, bs L, ⟨#[]⟩⟩]⟩, 0, 128, 191, 0, r + 1⟩ : Ss agP) [47, 97, 62] = ⟨⟨mE E td nm, [⟨0, 10, []⟩], (evA L ++ [⟨4, bs L, ⟨#[]⟩⟩]) ++ [bare 12]⟩, 0, 128, 191, 0, r + 1 + 3⟩ := by kernel_rfl
    rw [asc _ _ 60 (by decide) h1, h2]
    unfold evT
    rw [if_neg hL, List.append_assoc]
theorem close_go {M : Ag} (h : M.a = 18) (st : List Pt) (l : List Ev) (r : Nat) : closeE (⟨⟨M, st, l⟩, 0, 128, 191, 0, r⟩ : Ss agP) = 0 ∧ (closeBs (⟨⟨M, st, l⟩, 0, 128, 191, 0, r⟩ : Ss agP)).l = l := by
  refine ⟨?_, ?_⟩
  · unfold closeE
    rw [if_neg (fun hc => hc rfl)]
    unfold endE
    rw [if_pos rfl]
    show endAgE ⟨M, st, l⟩ = 0
    unfold endAgE
    rw [if_neg (fun hc => hc h)]
  · unfold closeBs
    rw [if_neg (fun hc => hc rfl)]
    unfold endBs
    rw [if_pos rfl]
theorem close_bad {x : Ss agP} (h : x.e = 3) : closeE x = 3 := by
  unfold closeE
  rw [if_pos (by rw [h]; decide), h]
theorem bad_app {x : Ss agP} (h : x.e = 3) (t : List UInt8) : (feedG x t).e = 3 := by
  rw [feedG_stop (by rw [h]; decide)]; exact h
theorem feed_txt1 (L : List UInt8) (hp : ∀ c ∈ L, PlB c) (h48 : L.length ≤ 48) :
    ((runesL L).isSome = true → aEr (txt1 L) = 0 ∧ aEv (txt1 L) = evA L ++ evT L) ∧ ((runesL L).isSome = false → aEr (txt1 L) = 3) := by
  have h0 : feedG (ss0 agP) (txt1 L) = feedG (⟨⟨mA [] 0 [], [topP], []⟩, 0, 128, 191, 0, 6⟩ : Ss agP) (L ++ 34 :: 62 :: (L ++ [60, 47, 97, 62])) := by
    unfold txt1
    rw [feedG_append, show feedG (ss0 agP) pre1 = (⟨⟨mA [] 0 [], [topP], []⟩, 0, 128, 191, 0, 6⟩ : Ss agP) by kernel_rfl]
  obtain ⟨g1, g2⟩ := plain_go L ⟨mA [] 0 [], [topP], []⟩ (.inr (.inl rfl)) rfl rfl hp h48 6 34 (by decide) (62 :: (L ++ [60, 47, 97, 62]))
  refine ⟨fun hv => ?_, fun hv => ?_⟩
  · have hV := valid_of hv h48
    obtain ⟨g3, _⟩ := plain_go L ⟨mB [] 0 [], st2, evA L⟩ (.inr (.inr rfl)) rfl rfl hp h48 (6 + L.length + 2) 60 (by decide) [47, 97, 62]
    have hE := end_go [] 0 [] L hV (6 + L.length + 2 + L.length)
    have hA : feedG (ss0 agP) (txt1 L) = ⟨⟨mE [] 0 [], [⟨0, 10, []⟩], evA L ++ evT L⟩, 0, 128, 191, 0, 6 + L.length + 2 + L.length + 4⟩ := by
      rw [h0, g1 hv, show setRt ⟨mA [] 0 [], [topP], []⟩ L = ⟨{ mA [] 0 [] with rt := L }, [topP], []⟩ from rfl, qgt [] 0 [] L hV, g3 hv, show setRt ⟨mB [] 0 [], st2, evA L⟩ L = ⟨{ mB [] 0 [] with rt := L }, st2, evA L⟩ from rfl, hE]
    obtain ⟨c1, c2⟩ := close_go (M := mE [] 0 []) rfl [⟨0, 10, []⟩] (evA L ++ evT L) (6 + L.length + 2 + L.length + 4)
    unfold aEr aEv
    rw [hA]
    exact ⟨c1, c2⟩
  · unfold aEr
    rw [h0]
    exact close_bad (g2 hv)
theorem feed_txt2 (L : List UInt8) (hp : ∀ c ∈ L, PlB c) (h48 : L.length ≤ 48) :
    ((runesL L).isSome = true → aEr (txt2 L) = 0 ∧ aEv (txt2 L) = evA L ++ evT L) ∧ ((runesL L).isSome = false → aEr (txt2 L) = 3) := by
  have h0 : feedG (ss0 agP) (txt2 L) = feedG (⟨⟨{ ag0 with a := 5, nmd := [101] }, [topP], []⟩, 0, 128, 191, 0, 12⟩ : Ss agP) (L ++ 34 :: 62 :: (pre1 ++ [38, 101, 59, 34, 62, 38, 101, 59, 60, 47, 97, 62])) := by
    unfold txt2
    rw [feedG_append, show feedG (ss0 agP) pre2 = (⟨⟨{ ag0 with a := 5, nmd := [101] }, [topP], []⟩, 0, 128, 191, 0, 12⟩ : Ss agP) by kernel_rfl]
  obtain ⟨g1, g2⟩ := plain_go L ⟨{ ag0 with a := 5, nmd := [101] }, [topP], []⟩ (.inl rfl) rfl rfl hp h48 12 34 (by decide) (62 :: (pre1 ++ [38, 101, 59, 34, 62, 38, 101, 59, 60, 47, 97, 62]))
  refine ⟨fun hv => ?_, fun hv => ?_⟩
  · have hV := valid_of hv h48
    have hd : defC [] [101] L = 0 := by
      unfold defC
      rw [if_neg (by decide), if_neg (by rw [hv]; decide), if_neg (by decide), if_neg (by show ¬ 200 < 0 + 1 + L.length; omega)]
    have s1 : stepA ⟨{ ag0 with a := 5, nmd := [101], rt := L }, [topP], []⟩ 34 = ⟨⟨{ ag0 with a := 6, nmd := [101], rt := L }, [topP], []⟩, 0⟩ := by kernel_rfl
    have s2 : stepA ⟨{ ag0 with a := 6, nmd := [101], rt := L }, [topP], []⟩ 62 = ⟨⟨{ ag0 with L := [([101], L)], nmd := [101] }, [topP], []⟩, 0⟩ := by
      have q : stepA ⟨{ ag0 with a := 6, nmd := [101], rt := L }, [topP], []⟩ 62 = ⟨⟨{ ag0 with L := defE [] [101] L, nmd := [101] }, [topP], []⟩, defC [] [101] L⟩ := by kernel_rfl
      rw [q, hd]
      unfold defE
      rw [hd, if_pos rfl]
      rfl
    have hE := end_go [([101], L)] 2 [101] L hV (12 + L.length + 2 + 6 + 3 + 2 + 3)
    have hA : feedG (ss0 agP) (txt2 L) = ⟨⟨mE [([101], L)] 2 [101], [⟨0, 10, []⟩], evA L ++ evT L⟩, 0, 128, 191, 0, 12 + L.length + 2 + 6 + 3 + 2 + 3 + 4⟩ := by
      rw [h0, g1 hv, show setRt ⟨{ ag0 with a := 5, nmd := [101] }, [topP], []⟩ L = ⟨{ ag0 with a := 5, nmd := [101], rt := L }, [topP], []⟩ from rfl, asc _ _ 34 (by decide) s1, asc _ _ 62 (by decide) s2, feedG_append, feed_pre1, ref_go ⟨mA [([101], L)] 0 [101], [topP], []⟩ L 0 (.inl rfl) rfl rfl rfl rfl rfl (by decide) h48,
        show ({ (⟨mA [([101], L)] 0 [101], [topP], []⟩ : As) with m := { (⟨mA [([101], L)] 0 [101], [topP], []⟩ : As).m with rt := L, told := 0 + 1 } } : As) = ⟨{ mA [([101], L)] 1 [101] with rt := L }, [topP], []⟩ from rfl, qgt [([101], L)] 1 [101] L hV,
        ref_go ⟨mB [([101], L)] 1 [101], st2, evA L⟩ L 1 (.inr rfl) rfl rfl rfl rfl rfl (by decide) h48,
        show ({ (⟨mB [([101], L)] 1 [101], st2, evA L⟩ : As) with m := { (⟨mB [([101], L)] 1 [101], st2, evA L⟩ : As).m with rt := L, told := 1 + 1 } } : As) = ⟨{ mB [([101], L)] 2 [101] with rt := L }, st2, evA L⟩ from rfl]
      exact hE
    obtain ⟨c1, c2⟩ := close_go (M := mE [([101], L)] 2 [101]) rfl [⟨0, 10, []⟩] (evA L ++ evT L) (12 + L.length + 2 + 6 + 3 + 2 + 3 + 4)
    unfold aEr aEv
    rw [hA]
    exact ⟨c1, c2⟩
  · unfold aEr
    rw [h0]
    exact close_bad (g2 hv)
end Go.Proofs.YtjepnddndpmnnaaGreat

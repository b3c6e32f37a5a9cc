/-
  Which bytes can begin a character: by trying what may follow, and by the machine. No program is read here.
-/
import Derived.Test.YtbebpodhkffonaaU8
namespace Go.Proofs.Ytbebpodhkffonaa
set_option maxRecDepth 8000

def bt (d : Nat) : UInt8 := UInt8.ofNat (128 + d)
theorem bt_nat {d : Nat} (h : d < 64) : (bt d).toNat = 128 + d := UInt8.toNat_ofNat_of_lt' (show 128 + d < 256 by omega)

def fstI : List UInt8 → Int
  | [] => 0
  | c :: _ => c.toNat

/-- Can some bytes be the beginning of one character, or the whole of it? At most f more are tried. -/
def begL : Nat → List UInt8 → Bool
  | 0, l => decide ((oneL l).2 = l.length)
  | f + 1, l => decide ((oneL l).2 = l.length) || (decide (192 ≤ fstI l) && (List.range 64).any fun d => begL f (l ++ [bt d]))

theorem begL_ext (f : Nat) : ∀ l, begL f l = true → ∃ ds, (oneL (l ++ ds)).2 = ((l ++ ds).length : Int) := by
  induction f with
  | zero => intro l h; exact ⟨[], by simpa [begL] using h⟩
  | succ f ih =>
    intro l h
    simp only [begL, Bool.or_eq_true, Bool.and_eq_true, decide_eq_true_eq, List.any_eq_true] at h
    rcases h with h | ⟨_, d, _, h⟩
    · exact ⟨[], by simpa using h⟩
    · obtain ⟨ds, hd⟩ := ih _ h
      exact ⟨bt d :: ds, by simpa [List.append_assoc] using hd⟩

/-- What is open of a character, and how the machine stands. -/
def PInv (own : List UInt8) (l lo hi : Int) : Prop :=
  (own = [] ∧ l = 0 ∧ lo = 128 ∧ hi = 191) ∨
  (∃ c t num, own = c :: t ∧ 1 ≤ l ∧ l ≤ 3 ∧ 192 ≤ (c.toNat : Int) ∧ (own.length : Int) + l = leadN c.toNat ∧ 128 ≤ lo ∧ lo ≤ hi ∧ hi ≤ 191 ∧ ∀ rest, runesGo (rn0 []) (own ++ rest) = runesGo ⟨l, lo, hi, num, []⟩ rest)

theorem PInv.l_range {own : List UInt8} {l lo hi : Int} (h : PInv own l lo hi) : 0 ≤ l ∧ l ≤ 3 := by
  rcases h with ⟨_, h, _⟩ | ⟨c, t, num, _, h1, h2, _⟩ <;> omega
theorem PInv.whole {own : List UInt8} {l lo hi : Int} (h : PInv own l lo hi) : decide (l = 0) = decide (own.length = 0) := by
  rcases h with ⟨h1, h2, _⟩ | ⟨c, t, num, h1, h2, _⟩
  · subst h1 h2; rfl
  · subst h1
    rw [decide_eq_false (by omega), decide_eq_false (by simp)]
theorem PInv.short {own : List UInt8} {l lo hi : Int} (h : PInv own l lo hi) : own.length ≤ 3 := by
  rcases h with ⟨h1, _⟩ | ⟨c, t, num, h1, h2, _, _, h4, _⟩
  · subst h1; simp
  · have : leadN c.toNat ≤ 4 := by unfold leadN; repeat' split <;> omega
    omega

/-- A character's length is by its first byte. -/
theorem oneL_len (c : UInt8) (t : List UInt8) (h : 192 ≤ (c.toNat : Int)) : (oneL (c :: t)).2 = 0 ∨ ((oneL (c :: t)).2 = leadN c.toNat ∧ leadN c.toNat ≤ (t.length : Int) + 1) := by
  rw [oneL, if_neg (by omega)]
  split
  · left; rfl
  · split
    · left; rfl
    · split
      · right; exact ⟨rfl, by omega⟩
      · left; rfl
theorem oneL_runes {l : List UInt8} (hne : l ≠ []) (h : (oneL l).2 = (l.length : Int)) : ∃ out, runesGo (rn0 []) l = some out := by
  obtain ⟨c, t, rfl⟩ := List.exists_cons_of_ne_nil hne
  have hc := charStep [] c t
  unfold CharStep at hc
  rw [if_neg (by rw [h]; simp; omega)] at hc
  obtain ⟨_, _, hc⟩ := hc
  rw [hc, h]
  simp [runesGo, rn0]

theorem stLo_stHi (b : Int) (_h0 : 194 ≤ b) : 128 ≤ stLo 0 b ∧ stLo 0 b ≤ stHi 0 b ∧ stHi 0 b ≤ 191 := by
  simp only [stLo, stHi, Int.lt_irrefl, if_false]
  repeat' split
  all_goals omega

theorem pinv_step {own : List UInt8} {l lo hi : Int} (b : UInt8) (h : PInv own l lo hi) (hok : stOk l lo hi b.toNat = true) (hz : stL l b.toNat ≠ 0) :
    PInv (own ++ [b]) (stL l b.toNat) (stLo l b.toNat) (stHi l b.toNat) := by
  have hb := byte_le b
  right
  rcases h with ⟨rfl, rfl, rfl, rfl⟩ | ⟨c, t, num, rfl, h1, h2, h3, h4, h5, h5', h6, h7⟩
  · have hlead : 194 ≤ (b.toNat : Int) ∧ (b.toNat : Int) < 245 := by
      simp only [stOk, Int.lt_irrefl, if_false, decide_eq_true_eq] at hok
      simp only [stL, Int.lt_irrefl, if_false] at hz
      rcases hok with h | h
      · rw [if_pos h] at hz; exact absurd rfl hz
      · exact h
    have hr := stLo_stHi b.toNat hlead.1
    refine ⟨b, [], payI b.toNat, rfl, ?_, ?_, by omega, ?_, hr.1, hr.2.1, hr.2.2, ?_⟩
    · simp only [stL, Int.lt_irrefl, if_false]; repeat' split
      all_goals omega
    · simp only [stL, Int.lt_irrefl, if_false]; repeat' split
      all_goals omega
    · simp only [stL, leadN, Int.lt_irrefl, if_false, List.nil_append, List.length_singleton]
      repeat' split
      all_goals omega
    · intro rest
      have hs := rn_lead [] b.toNat _ _ _ _ hok rfl hz rfl rfl rfl
      simp only [List.nil_append, List.cons_append, runesGo, hs]
  · have hl0 : 0 < l := by omega
    have hok' : lo ≤ (b.toNat : Int) ∧ (b.toNat : Int) ≤ hi := by simpa [stOk, hl0] using hok
    have e1 : stL l b.toNat = l - 1 := by unfold stL; rw [if_pos hl0]
    have e2 : stLo l b.toNat = 128 := by unfold stLo; rw [if_pos hl0]
    have e3 : stHi l b.toNat = 191 := by unfold stHi; rw [if_pos hl0]
    rw [e1] at hz ⊢
    rw [e2, e3]
    refine ⟨c, t ++ [b], num * 64 + (b.toNat - 128), rfl, by omega, by omega, h3, ?_, by decide, by decide, by decide, ?_⟩
    · simp at h4 ⊢; omega
    · intro rest
      have := h7 (b :: rest)
      rw [List.append_assoc, List.singleton_append, this]
      have ht := rn_tail l lo hi num [] b.toNat hl0 h5 h6
      rw [if_pos hok', if_neg (by omega)] at ht
      simp only [runesGo, ht]

theorem one_of_done {own : List UInt8} {l lo hi : Int} (b : UInt8) (h : PInv own l lo hi) (hok : stOk l lo hi b.toNat = true) (hz : stL l b.toNat = 0) :
    (oneL (own ++ [b])).2 = ((own ++ [b]).length : Int) := by
  rcases h with ⟨rfl, rfl, rfl, rfl⟩ | ⟨c, t, num, rfl, h1, h2, h3, h4, h5, h5', h6, h7⟩
  · have hb : (b.toNat : Int) < 128 := by
      simp only [stL, Int.lt_irrefl, if_false] at hz
      split at hz
      · assumption
      · repeat' split at hz
        all_goals omega
    simp [oneL, hb]
  · have hl0 : 0 < l := by omega
    have hok' : lo ≤ (b.toNat : Int) ∧ (b.toNat : Int) ≤ hi := by simpa [stOk, hl0] using hok
    have e1 : stL l b.toNat = l - 1 := by unfold stL; rw [if_pos hl0]
    have hl1 : l = 1 := by omega
    subst hl1
    have hrun : runesGo (rn0 []) (c :: t ++ [b]) ≠ none := by
      have := h7 [b]
      rw [this]
      have ht := rn_tail 1 lo hi num [] b.toNat hl0 h5 h6
      rw [if_pos hok', if_pos rfl] at ht
      simp only [runesGo, ht]
      simp [rn0]
    rcases oneL_len c (t ++ [b]) h3 with h0 | ⟨h0, _⟩
    · have hc := charStep [] c (t ++ [b])
      unfold CharStep at hc
      rw [if_pos h0] at hc
      exact absurd hc hrun
    · show (oneL (c :: (t ++ [b]))).2 = _
      rw [h0, ← h4]
      simp
theorem done_state {own : List UInt8} {l lo hi : Int} (b : UInt8) (h : PInv own l lo hi) (hz : stL l b.toNat = 0) : stLo l b.toNat = 128 ∧ stHi l b.toNat = 191 := by
  rcases h with ⟨rfl, rfl, rfl, rfl⟩ | ⟨c, t, num, rfl, h1, _⟩
  · have hb : (b.toNat : Int) < 128 := by
      simp only [stL, Int.lt_irrefl, if_false] at hz
      split at hz
      · assumption
      · repeat' split at hz
        all_goals omega
    simp only [stLo, stHi, Int.lt_irrefl, if_false]
    rw [if_neg (by omega), if_neg (by omega), if_neg (by omega), if_neg (by omega)]
    exact ⟨rfl, rfl⟩
  · have hl0 : 0 < l := by omega
    simp only [stLo, stHi, hl0, if_true]
    exact ⟨trivial, trivial⟩

theorem one_of_open {own : List UInt8} {l lo hi : Int} (h : PInv own l lo hi) : (oneL own).2 = 0 := by
  rcases h with ⟨rfl, _⟩ | ⟨c, t, num, rfl, h1, h2, h3, h4, _⟩
  · rfl
  · rcases oneL_len c t h3 with h0 | ⟨_, h0⟩
    · exact h0
    · simp at h4; omega

theorem bad_of_not {own : List UInt8} {l lo hi : Int} (b : UInt8) (h : PInv own l lo hi) (hok : stOk l lo hi b.toNat = false) (f : Nat) : begL f (own ++ [b]) = false ∧ (oneL (own ++ [b])).2 = 0 := by
  have hnone : ∀ ds, runesGo (rn0 []) (own ++ [b] ++ ds) = none := by
    intro ds
    rcases h with ⟨rfl, rfl, rfl, rfl⟩ | ⟨c, t, num, rfl, h1, h2, h3, h4, h5, h5', h6, h7⟩
    · have : rnStep (rn0 []) (b.toNat : Int) = none := by unfold rnStep rn0; simp [hok]
      simp [runesGo, this]
    · rw [List.append_assoc, h7]
      have : rnStep ⟨l, lo, hi, num, []⟩ (b.toNat : Int) = none := by unfold rnStep; simp [hok]
      simp [runesGo, this]
  constructor
  · rw [Bool.eq_false_iff]
    intro hb
    obtain ⟨ds, hd⟩ := begL_ext f _ hb
    obtain ⟨out, ho⟩ := oneL_runes (by simp) hd
    rw [hnone] at ho
    cases ho
  · obtain ⟨c, t, hct⟩ := List.exists_cons_of_ne_nil (show own ++ [b] ≠ [] by simp)
    have hc := charStep [] c t
    unfold CharStep at hc
    have hn := hnone []
    rw [List.append_nil, hct] at hn
    rw [hct]
    by_cases h0 : (oneL (c :: t)).2 = 0
    · exact h0
    · rw [if_neg h0] at hc
      obtain ⟨g1, g2, g3⟩ := hc
      exfalso
      rw [hn] at g3
      have e : (oneL (c :: t)).2 = ((c :: t).length : Int) := by
        rcases h with ⟨rfl, rfl, rfl, rfl⟩ | ⟨c', t', num, rfl, h1, h2, h3, h4, h5, h5', h6, h7⟩
        · have : t = [] := by simpa using (List.cons.inj hct).2.symm
          subst this
          simp at g2 ⊢
          omega
        · have hh := List.cons.inj hct
          have hcc : c' = c := hh.1
          subst hcc
          rcases oneL_len c' t h3 with h00 | ⟨h00, hle⟩
          · exact absurd h00 h0
          · rw [h00]
            have hl : (t'.length : Int) + 1 = t.length := by
              have := congrArg List.length hh.2
              simp at this; omega
            simp at h4 ⊢
            omega
      rw [e] at g3
      simp [runesGo, rn0] at g3

theorem good_of_ok (f : Nat) : ∀ {own : List UInt8} {l lo hi : Int} (b : UInt8), PInv own l lo hi → stOk l lo hi b.toNat = true → stL l b.toNat ≤ f → begL f (own ++ [b]) = true := by
  induction f with
  | zero =>
    intro own l lo hi b h hok hle
    have hz : stL l b.toNat = 0 := by
      have := h.l_range
      have : 0 ≤ stL l b.toNat := by unfold stL; repeat' split
                                     all_goals omega
      omega
    simpa [begL] using one_of_done b h hok hz
  | succ f ih =>
    intro own l lo hi b h hok hle
    by_cases hz : stL l b.toNat = 0
    · have := one_of_done b h hok hz
      simp only [begL]
      rw [decide_eq_true this]
      rfl
    · have hp := pinv_step b h hok hz
      simp only [begL, Bool.or_eq_true, Bool.and_eq_true, decide_eq_true_eq, List.any_eq_true]
      right
      rcases hp with ⟨hh, _⟩ | ⟨c, t, num, hct, h1, h2, h3, h4, h5, h5', h6, h7⟩
      · simp at hh
      · refine ⟨by rw [hct]; exact h3, ?_⟩
        have hpp : PInv (own ++ [b]) (stL l b.toNat) (stLo l b.toNat) (stHi l b.toNat) := .inr ⟨c, t, num, hct, h1, h2, h3, h4, h5, h5', h6, h7⟩
        refine ⟨(stLo l b.toNat - 128).toNat, by simp; omega, ih (bt _) hpp ?_ ?_⟩
        · rw [bt_nat (by omega)]
          simp only [stOk, show 0 < stL l b.toNat from by omega, if_true, decide_eq_true_eq]
          omega
        · unfold stL at *
          rw [if_pos (by omega)]
          omega
end Go.Proofs.Ytbebpodhkffonaa

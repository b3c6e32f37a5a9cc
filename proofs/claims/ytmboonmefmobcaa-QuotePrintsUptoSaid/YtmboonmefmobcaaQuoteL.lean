/-
  The reference's Read (hexaplaref03): it tells what the machine's run tells.
-/
import Derived.Test.YtmboonmefmobcaaQuoteH
import Derived.Test.YtmboonmefmobcaaSrcC
namespace Go.Proofs.Ytmboonmefmobcaa
open Go.RowKit Go.Maps
set_option maxRecDepth 100000

def ReadEnd (r : QE) : Ending := .returned (.tuple #[.string ⟨r.text.toArray⟩, .int .i64 (if r.done = true then r.n + 1 else -1), .int .i64 r.e, .int .i64 (if r.e = 0 then 0 else r.n)])
theorem readEnd_done {r : QE} {xs : List UInt8} {k : Nat} (h : r = ⟨xs, k, true, 0⟩) : ReadEnd r = .returned (.tuple #[.string ⟨xs.toArray⟩, .int .i64 (k + 1), .int .i64 0, .int .i64 0]) := by rw [h]; rfl
theorem readEnd_err {r : QE} {xs : List UInt8} {k : Nat} {e : Int} (h : r = ⟨xs, k, false, e⟩) (he : e ≠ 0) : ReadEnd r = .returned (.tuple #[.string ⟨xs.toArray⟩, .int .i64 (-1), .int .i64 e, .int .i64 k]) := by
  rw [h]; unfold ReadEnd; simp [he]
theorem readEnd_end {r : QE} {xs : List UInt8} {k : Nat} (h : r = ⟨xs, k, false, 0⟩) : ReadEnd r = .returned (.tuple #[.string ⟨xs.toArray⟩, .int .i64 (-1), .int .i64 0, .int .i64 0]) := by rw [h]; rfl

/-- Between the digits: the machine stands behind so many of them; behind the fourth it is known what comes. -/
def InnerAt (R : QE) (xs L : List UInt8) (k1 m : Nat) (nn : Int) : Prop :=
  if m < 4 then R = qRun ⟨xs, 2, m, nn⟩ (k1 + 1 + m) (L.drop (k1 + 1 + m))
  else R = if mayB nn = true then (if 48 < xs.length + (putL nn).length then ⟨xs, k1 + 4, false, 4⟩ else qRun (plainQ (xs ++ putL nn)) (k1 + 5) (L.drop (k1 + 5))) else ⟨xs, k1 + 4, false, 9⟩

theorem inner_end {R : QE} {xs L : List UInt8} {k1 m : Nat} {nn : Int} {p : Nat} (hp : p = k1 + 1 + m) (h : InnerAt R xs L k1 m nn) (hm : m < 4) (hl : L.length ≤ p) : R = ⟨xs, p, false, 0⟩ := by
  subst hp
  unfold InnerAt at h
  rw [if_pos hm, List.drop_eq_nil_of_le hl] at h
  exact h
theorem inner_bad {R : QE} {xs L : List UInt8} {k1 m : Nat} {nn : Int} {c : UInt8} {p : Nat} (hp : p = k1 + 1 + m) (h : InnerAt R xs L k1 m nn) (hm : m < 4) (hd : L.drop p = c :: L.drop (p + 1)) (hx : hexI (c.toNat : Int) < 0) : R = ⟨xs, p, false, 9⟩ := by
  subst hp
  unfold InnerAt at h
  rw [if_pos hm, hd] at h
  refine h.trans (qRun_err (q' := ⟨xs, 2, m, nn⟩) ?_ (by decide))
  show qDigit _ _ = _
  unfold qDigit
  rw [if_pos hx]
theorem inner_step {R : QE} {xs L : List UInt8} {k1 m : Nat} {nn : Int} {c : UInt8} {p : Nat} (hp : p = k1 + 1 + m) (h : InnerAt R xs L k1 m nn) (hm : m < 4) (hd : L.drop p = c :: L.drop (p + 1)) (hx : 0 ≤ hexI (c.toNat : Int)) : InnerAt R xs L k1 (m + 1) (16 * nn + hexI (c.toNat : Int)) := by
  subst hp
  unfold InnerAt at h ⊢
  rw [if_pos hm, hd] at h
  have e : 16 * nn + hexI (c.toNat : Int) = nn * 16 + hexI (c.toNat : Int) := by omega
  rw [e]
  by_cases h3 : m < 3
  · rw [if_pos (by omega)]
    refine h.trans (qRun_on (q' := ⟨xs, 2, ((m + 1 : Nat) : Int), nn * 16 + hexI (c.toNat : Int)⟩) ?_)
    show qDigit _ _ = _
    unfold qDigit
    rw [if_neg (by omega), if_pos (by show (m : Int) < 3; omega)]
    simp
  · have hm3 : m = 3 := by omega
    subst hm3
    rw [if_neg (by omega)]
    have hs : qStep ⟨xs, 2, ((3 : Nat) : Int), nn⟩ (c.toNat : Int) = if mayB (nn * 16 + hexI (c.toNat : Int)) = true then qAdd ⟨xs, 2, ((3 : Nat) : Int), nn⟩ (putL (nn * 16 + hexI (c.toNat : Int))) else ⟨false, 9, ⟨xs, 2, ((3 : Nat) : Int), nn⟩⟩ := by
      show qDigit _ _ = _
      unfold qDigit
      rw [if_neg (by omega), if_neg (by show ¬ ((3 : Nat) : Int) < 3; omega)]
    by_cases hmay : mayB (nn * 16 + hexI (c.toNat : Int)) = true
    · rw [if_pos hmay] at hs ⊢
      by_cases hov : 48 < xs.length + (putL (nn * 16 + hexI (c.toNat : Int))).length
      · rw [if_pos hov]
        refine h.trans (qRun_err (q' := ⟨xs, 2, ((3 : Nat) : Int), nn⟩) ?_ (by decide))
        rw [hs]; unfold qAdd; rw [if_pos hov]
      · rw [if_neg hov]
        refine h.trans (qRun_on ?_)
        rw [hs]; unfold qAdd; rw [if_neg hov]
    · rw [if_neg hmay] at hs ⊢
      exact h.trans (qRun_err hs (by decide))
def nnOk (m : Nat) (nn : Int) : Prop := 0 ≤ nn ∧ (m = 0 → nn < 1) ∧ (m = 1 → nn < 16) ∧ (m = 2 → nn < 256) ∧ (m = 3 → nn < 4096) ∧ (m = 4 → nn < 65536)
theorem nnOk_step {m : Nat} {nn v : Int} (h : nnOk m nn) (hm : m < 4) (h0 : 0 ≤ v) (h1 : v < 16) : nnOk (m + 1) (16 * nn + v) := by
  unfold nnOk at h ⊢
  omega

end Go.Proofs.Ytmboonmefmobcaa

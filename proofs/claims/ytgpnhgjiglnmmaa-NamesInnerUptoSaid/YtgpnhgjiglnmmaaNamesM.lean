/-
  The reference's scopes (hexaplaref04): one list of what is bound; Space.
-/
import Derived.Test.YtgpnhgjiglnmmaaNamesL
import Derived.Test.YtgpnhgjiglnmmaaNamesG
namespace Go.Proofs.Ytgpnhgjiglnmmaa
open Go.RowKit Go.Maps
set_option maxRecDepth 100000

def pc (x : Pr) : List Value := [.string ⟨x.p.toArray⟩, .string ⟨x.s.toArray⟩, .int .i64 x.n]
def pcs (l : List Pr) : List Value := l.flatMap pc
theorem pcs_len (l : List Pr) : (pcs l).length = l.length * 3 := by
  induction l with
  | nil => rfl
  | cons x l ih => simp only [pcs, List.flatMap_cons, List.length_append, List.length_cons] at ih ⊢; rw [ih]; simp [pc]; omega
theorem pcs_get : ∀ (l : List Pr) (k : Nat) (h : k < l.length) (j : Nat) (_ : j < 3), (pcs l)[k * 3 + j]? = (pc l[k])[j]?
  | x :: l, 0, _, j, hj => by
    simp only [pcs, List.flatMap_cons]
    rw [List.getElem?_append_left (by simp [pc]; omega)]
    simp
  | x :: l, k + 1, h, j, hj => by
    have ih := pcs_get l k (by simpa using h) j hj
    simp only [pcs, List.flatMap_cons] at ih ⊢
    rw [List.getElem?_append_right (by simp [pc]; omega), show (k + 1) * 3 + j - (pc x).length = k * 3 + j by simp [pc]; omega, ih]
    simp
theorem pcs_snoc (l : List Pr) (x : Pr) : pcs (l ++ [x]) = pcs l ++ pc x := by simp [pcs]

/-- A list of pairs that a call has made. -/
def PRow (w : World) (base : Nat) (v : Value) (l : List Pr) : Prop := w.ownsRow base 61 3 v l.length (pcs l)
def RAt (w : World) (base h : Nat) (st : St) : Prop :=
  ∃ A cap, base ≤ h ∧ Blk w h 35 #[.slice A (refL st).length cap, .int .i64 st.length] ∧ PRow w base (.slice A (refL st).length cap) (refL st)
def rObj : Obj → Prop
  | .cells _ t _ => t = 35 ∨ t = 61
  | _ => False
theorem PRow.cell {w : World} {base n cap : Nat} {A : Option Addr} {l : List Pr} (h : PRow w base (.slice A n cap) l) {k : Nat} (hk : k < l.length) :
    ∃ r, A = some ⟨r, 0, none⟩ ∧ base ≤ r ∧ r < w.heap.size ∧ l.length ≤ cap ∧ cap ≤ maxLen ∧ w.cell? ⟨r, k * 3, none⟩ = some (.string ⟨(l[k]).p.toArray⟩) ∧ w.cell? ⟨r, k * 3 + 1, none⟩ = some (.string ⟨(l[k]).s.toArray⟩) ∧ w.cell? ⟨r, k * 3 + 2, none⟩ = some (.int .i64 (l[k]).n) := by
  have hr := h
  unfold PRow at hr
  rcases hr.2 with ⟨_, h0⟩ | ⟨r, c, cur, hv, hg, hh, hnc, hm, hs, ht⟩
  · omega
  · injection hv with h1 h2 h3
    subst h1 h3
    have hat : ∀ j, j < 3 → w.cell? ⟨r, k * 3 + j, none⟩ = (pc l[k])[j]? := by
      intro j hj
      rw [Blk.cell hh, ← pcs_get l k hk j hj, ← ht, List.getElem?_take_of_lt (by omega), Array.getElem?_toList]
    refine ⟨r, rfl, hg, Blk.lt hh, hnc, hm, ?_, ?_, ?_⟩
    · have := hat 0 (by omega); simpa [pc] using this
    · have := hat 1 (by omega); simpa [pc] using this
    · have := hat 2 (by omega); simpa [pc] using this
theorem PRow.below {w w' : World} {base : Nat} {v : Value} {l : List Pr} (h : PRow w base v l) (hb : Below w.heap.size w w') : PRow w' base v l :=
  row_tch (p := fun _ => False) h (Tch.of_below (base := base) hb) (fun _ _ h => h)
theorem RAt.lt {w : World} {base h : Nat} {st : St} (hr : RAt w base h st) : h < w.heap.size := by obtain ⟨_, _, _, hk, _⟩ := hr; exact hk.lt
theorem RAt.tch {w w' : World} {base h : Nat} {st : St} {p : Obj → Prop} (hr : RAt w base h st) (ht : Tch base p w w') (h1 : ∀ cs t fr, t = 35 ∨ t = 61 → ¬ p (.cells cs t fr)) : RAt w' base h st := by
  obtain ⟨A, cap, hg, hk, ho⟩ := hr
  exact ⟨A, cap, hg, hk.tch ht (.inr (h1 _ _ _ (.inl rfl))), row_tch ho ht (fun _ _ => h1 _ _ _ (.inr rfl))⟩
theorem RAt.below {w w' : World} {base h : Nat} {st : St} (hr : RAt w base h st) (hb : Below w.heap.size w w') : RAt w' base h st :=
  hr.tch (p := fun _ => False) (Tch.of_below hb) (fun _ _ _ _ h => h)

theorem find_at {p : List UInt8} : ∀ {l : List Pr} {k : Nat} (h : k < l.length), (∀ j (hj : j < l.length), j < k → (l[j]).p ≠ p) → (l[k]).p = p → find3 p l = some (l[k]).s
  | x :: l, 0, _, _, he => by simp only [find3]; rw [if_pos (show x.p = p from he)]; rfl
  | x :: l, k + 1, h, hn, he => by
    simp only [find3]
    rw [if_neg (show x.p ≠ p from hn 0 (by simp) (by omega))]
    exact find_at (k := k) (by simpa using h) (fun j hj hlt => hn (j + 1) (by simpa using hj) (by omega)) he
theorem find_no {p : List UInt8} : ∀ {l : List Pr}, (∀ j (hj : j < l.length), (l[j]).p ≠ p) → find3 p l = none
  | [], _ => rfl
  | x :: l, hn => by
    simp only [find3]
    rw [if_neg (show x.p ≠ p from hn 0 (by simp))]
    exact find_no fun j hj => hn (j + 1) (by simpa using hj)
theorem spaceEnd_some {p s : List UInt8} {st : St} (h : find3 p (flat st) = some s) : SpaceEnd p st = .returned (.tuple #[.string ⟨s.toArray⟩, .bool true]) := by
  unfold SpaceEnd; rw [← find_flat, h]
theorem spaceEnd_none {p : List UInt8} {st : St} (h : find3 p (flat st) = none) : SpaceEnd p st = .returned (.tuple #[.string ⟨#[]⟩, .bool (decide (p = []))]) := by
  unfold SpaceEnd; rw [← find_flat, h]

theorem refL_get {st : St} {j k : Nat} (hj : j < (refL st).length) (hk : k < (flat st).length) (he : (flat st).length - 1 - j = k) : (refL st)[j] = (flat st)[k] := by
  subst he
  exact List.getElem_reverse _

set_option maxHeartbeats 1000000 in
theorem rspaceS_any (w : World) (base h : Nat) (st : St) (p : ByteArray) (hr : RAt w base h st) :
    Calls Try.prog 24 #[.pointer (some ⟨h, 0, none⟩), .string p] w fun e w' => e = SpaceEnd p.data.toList st ∧ w = w' := by
  obtain ⟨A, cap, hg, hk, ho⟩ := hr
  have hlf : (flat st).length = (refL st).length := by simp [refL]
  have hc0 : w.cell? ⟨h, 0, none⟩ = some (.slice A (refL st).length cap) := hk.cell 0
  have hl63 : (refL st).length ≤ 9223372036854775807 := by
    rcases ho.2 with ⟨_, h0⟩ | ⟨_, c', _, hv, _, _, hlc, hcm, _⟩
    · omega
    · simp only [maxLen] at hcm; omega
  have hlt := hk.lt
  have HK := Lib.hid hk
  have HO := Lib.hid ho
  have HF := Lib.hid hlf
  clear hk ho hlf
  go_enter Try.func24, Try.ntmps24
  go_wp2
  go_loop [6] (fun i => ∃ k : Nat, k ≤ (refL st).length ∧ i = .int .i64 (((refL st).length : Int) - 1 - (k : Int)) ∧ Hid (∀ j (hj : j < (flat st).length), j < k → ((flat st)[j]).p ≠ p.data.toList)) (fun i => (intOf i + 1).toNat)
  case atStart => exact ⟨0, Nat.zero_le _, by simp, Lib.hid fun j _ hj => absurd hj (by omega)⟩
  case round =>
    obtain ⟨k, hkn, rfl, HN⟩ := hrel
    by_cases hlk : k < (refL st).length
    · obtain ⟨j, hj⟩ : ∃ j : Nat, j = (refL st).length - 1 - k := ⟨_, rfl⟩
      have hjl : j < (refL st).length := by omega
      obtain ⟨r, rfl, _, hrl, hcap, hcm, d0, d1, _⟩ := HO.out.cell hjl
      have hfl : k < (flat st).length := by rw [HF.out]; exact hlk
      have hx : (refL st)[j] = (flat st)[k] := refL_get hjl hfl (by have hl := HF.out; omega)
      rw [hx] at d0 d1
      have hji : (((refL st).length : Nat) : Int) - 1 - (k : Int) = (j : Int) := by omega
      rw [hji]
      have HJ := Lib.hid hji
      have hcm2 : cap ≤ 9223372036854775807 := by simpa [maxLen] using hcm
      clear hx hji hj hcm
      by_cases he : ((flat st)[k]).p = p.data.toList
      · have HE := Lib.hid (spaceEnd_some (find_at hfl HN.out he))
        rw [he, str_of] at d0
        clear he
        go_wp2
        go_ret2
        exact ⟨HE.out.symm, rfl⟩
      · have hne : (((⟨((flat st)[k]).p.toArray⟩ : ByteArray).toList) == p.toList) = false := by
          rw [Lib.toList_data, Lib.toList_data]
          simpa using he
        have HE := Lib.hid he
        generalize (⟨((flat st)[k]).p.toArray⟩ : ByteArray) = xp at *
        have hne2 : ¬ xp.toList = p.toList := by simpa using hne
        clear he
        go_wp2
        go_round
        case rel =>
          refine ⟨k + 1, hlk, by have := HJ.out; first | go_num | (congr 1; omega), Lib.hid fun i hi hik => ?_⟩
          by_cases hik' : i < k
          · exact HN.out i hi hik'
          · obtain rfl : i = k := by omega
            exact HE.out
        case measure => first | (simp [intOf]; done) | (simp [intOf]; omega)
    · have hke : k = (refL st).length := by omega
      subst hke
      have HE := Lib.hid (spaceEnd_none (find_no (p := p.data.toList) (l := flat st) fun j hj => HN.out j hj (by rw [← HF.out]; exact hj)))
      have hm1 : ((refL st).length : Int) - 1 - ((refL st).length : Int) = -1 := by omega
      rw [hm1]
      clear hm1
      go_wp2
      go_ret2
      refine ⟨?_, rfl⟩
      rw [HE.out, Lib.toList_data]
      generalize p.data.toList = L
      cases L <;> simp
end Go.Proofs.Ytgpnhgjiglnmmaa

/-
  quote: letter, digit and Step: what a byte does is the machine's step.
-/
import Derived.Test.YtmboonmefmobcaaQuoteB
namespace Go.Proofs.Ytmboonmefmobcaa
open Go.RowKit Go.Maps
set_option maxRecDepth 100000

theorem qat_add {w : World} {g : Nat} {q : QS} {ch : List UInt8} {d n : Int} (h' : q.st = 2 → d = q.d ∧ n = q.n) (h : QRaw w g (addX q.xs ch) (if 48 < q.xs.length + ch.length then q.st else 0) d n) : QAt w g (qAdd q ch).q := by
  rw [qadd_eq]
  unfold addX at h
  simp only
  split
  · rename_i hov
    rw [if_pos hov, if_pos hov] at h
    exact ⟨d, n, h, h'⟩
  · rename_i hov
    rw [if_neg hov, if_neg hov] at h
    exact ⟨d, n, h, fun hc => by cases hc⟩

/-- A step's word: what it tells, and the Quote as the machine has it. -/
def Stepd (w : World) (g : Nat) (r : QR) (w' : World) : Prop := QAt w' g r.q ∧ Below g w w'

theorem letter_u (w : World) (g : Nat) (q : QS) (hq : QAt w g q) :
    Calls Try.prog 20 #[.pointer (some ⟨g, 0, none⟩), .int .u8 117] w fun e w' => e = .returned (.int .i64 (qLetter q 117).e) ∧ Stepd w g (qLetter q 117) w' := by
  obtain ⟨d, n, hq, _⟩ := hq
  have hlt := hq.lt
  have hq' := hq
  obtain ⟨v, hk, _⟩ := hq'
  have c1 : w.cell? ⟨g, 1, none⟩ = some (.int .i64 q.st) := hk.cell 1
  have c2 : w.cell? ⟨g, 2, none⟩ = some (.int .i64 d) := hk.cell 2
  have c3 : w.cell? ⟨g, 3, none⟩ = some (.int .i64 n) := hk.cell 3
  have f1 := hk.frozen 1
  have f2 := hk.frozen 2
  have f3 := hk.frozen 3
  clear hk
  go_enter Try.func20, Try.ntmps20
  go_wp2
  go_ret
  have hb := Below.refl g w
  exact ⟨rfl, ⟨0, 0, ((hq.set 2).set2 0).set3 0, fun _ => ⟨rfl, rfl⟩⟩, ((hb.setCell (Nat.le_refl g) _).setCell (Nat.le_refl g) _).setCell (Nat.le_refl g) _⟩

theorem letter_any (w : World) (g : Nat) (q : QS) (b : Int) (h0 : 0 ≤ b) (h1 : b ≤ 255) (hq : QAt w g q) (hl : q.xs.length ≤ 48) :
    Calls Try.prog 20 #[.pointer (some ⟨g, 0, none⟩), .int .u8 b] w fun e w' => e = .returned (.int .i64 (qLetter q b).e) ∧ Stepd w g (qLetter q b) w' := by
  by_cases hu : b = 117
  · subst hu; exact letter_u w g q hq
  have hub : (b == 117) = false := beq_eq_false_iff_ne.2 hu
  have hkey := keyOf_int_mk Try.underlying5 (wf_b h0 h1)
  have hhas := den_has b
  by_cases he : escI b < 0
  · have hr : qLetter q b = ⟨false, 9, q⟩ := by unfold qLetter; rw [if_neg hu, if_pos he]
    rw [hr]
    rw [show decide (0 ≤ escI b) = false from by simp; omega] at hhas
    have HH := Lib.hid hhas
    clear hhas hr he hu
    go_enter Try.func20, Try.ntmps20
    go_wp2_with (first
      | (go_at_call 24; refine (den_any _).mono ?_; rintro e w1 ⟨B, rfl, hown, hb1⟩)
      | (at_lookup; refine wpList_lookup_own_ok_int _ rfl _ _ 57 rfl 5 5 .u8 keyLaw Try.underlying57 Try.underlying5 (zeroB _) B 8 denD rfl hown _ _ rfl hkey ?_; intro c hat hwc; rw [HH.out]; clear hat))
    go_ret
    exact ⟨rfl, hq.below hb1, hb1.mono (by have := hq.lt; omega)⟩
  · have hr : qLetter q b = qAdd q [b8 (escI b)] := by unfold qLetter; rw [if_neg hu, if_neg he]
    have hat0 := den_at b (by omega)
    rw [show decide (0 ≤ escI b) = true from by simp; omega] at hhas
    have hel := escI_lt b
    have HH := Lib.hid hhas
    rw [hr]
    obtain ⟨d, n, hq, h2⟩ := hq
    have hq9 := hq.lt
    have HA := Lib.hid hat0
    have e0 : (qAdd q [b8 (escI b)]).e = addE q.xs [b8 (escI b)] := by rw [qadd_eq]
    rw [e0]
    clear hhas hr hu hat0 e0
    go_enter Try.func20, Try.ntmps20
    go_wp2_with (first
      | (go_at_call 24; refine (den_any _).mono ?_; rintro e w1 ⟨B, rfl, hown, hb1⟩)
      | (at_lookup; refine wpList_lookup_own_ok_int _ rfl _ _ 57 rfl 5 5 .u8 keyLaw Try.underlying57 Try.underlying5 (zeroB _) B 8 denD rfl hown _ _ rfl hkey ?_; intro c hat hwc; rw [HH.out]))
    have hce : c = escI b := by
      rw [HA.out] at hat
      injection hat with hat
      injection hat with _ hat
      exact hat.symm
    subst hce
    have hqa : QRaw (w1.alloc (.cells #[.int .u8 (escI b)] 5)) g q.xs q.st d n := (hq.below hb1).below ((Below.refl _ _).alloc (Nat.le_refl _) _)
    refine (end_any _ g q.xs q.st d n hqa hl ⟨w1.heap.size, 0, none⟩ [b8 (escI b)] 1 (by simp) ?_).mono ?_
    · have := cell_one_new w1 (.int .u8 (escI b)) 5
      simp only [List.map_cons, List.map_nil]
      rw [bV_b8 _ (by omega) hel]
      exact this
    rintro e w2 ⟨rfl, hq2, hb2⟩
    go_wp2
    go_ret
    refine ⟨rfl, qat_add h2 hq2, ?_⟩
    exact (hb1.mono (by omega)).trans (((Below.refl _ _).alloc (by have := hb1.size; omega) _).trans hb2)
end Go.Proofs.Ytmboonmefmobcaa

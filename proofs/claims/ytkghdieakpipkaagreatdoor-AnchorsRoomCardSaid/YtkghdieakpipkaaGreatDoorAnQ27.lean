/-
  slices.Index and slices.Contains at strings.
-/
import Derived.Test.YtkghdieakpipkaaGreatDoorAnQ06
import Derived.Test.YtkghdieakpipkaaGreatDoorAnQ07
import Derived.Test.YtkghdieakpipkaaGreatDoorAnQ17
import Derived.BigQuiet
namespace Go.Proofs.YtkghdieakpipkaaGreatDoor
open Go.RowKit Go.Maps
set_option maxRecDepth 100000
set_option linter.unusedSimpArgs false
set_option linter.unusedVariables false

def strV (l : List UInt8) : Value := .string ⟨l.toArray⟩
/-- Index and Contains. -/
theorem str_neq {x y : List UInt8} (h : ¬ x = y) : ((⟨x.toArray⟩ : ByteArray).toList == (⟨y.toArray⟩ : ByteArray).toList) = false ∧ ¬ (⟨x.toArray⟩ : ByteArray).toList = (⟨y.toArray⟩ : ByteArray).toList := str_diff (fun e => h (by have := congrArg (fun z : ByteArray => z.data.toList) e; simpa using this))
def SRead (w : World) (cv : Value) (l : List (List UInt8)) : Prop := ∃ A c, cv = .slice A l.length c ∧ (0 < l.length → ∃ ad : Addr, A = some ad ∧ ∀ j (h : j < l.length), w.cell? (ad.add j) = some (.string ⟨l[j].toArray⟩))
theorem ORow.sread {w : World} {base : Nat} {cv : Value} {l : List (List UInt8)} (h : ORow w base 9 cv (l.map strV)) : SRead w cv l := by
  rcases h.form with ⟨rfl, h0⟩ | ⟨g, cap, rfl, _⟩
  · have : l = [] := by simpa using h0
    subst this
    exact ⟨none, 0, rfl, fun h => absurd h (by simp)⟩
  · refine ⟨some ⟨g, 0, none⟩, cap, by rw [List.length_map], fun _ => ⟨_, rfl, fun j hj => ?_⟩⟩
    obtain ⟨ad, e, _, _, hc⟩ := h.cell (k := j) (by simpa using hj)
    injection e with e
    injection e with e
    subst e
    rw [addr_add0, hc]
    simp [strV]

set_option maxHeartbeats 4000000 in
theorem sindex_any (w : World) (cv : Value) (l : List (List UInt8)) (t : List UInt8) (hv : SRead w cv l) (hl : l.length ≤ 1000000) :
    Calls Tryz.prog 48 #[cv, .string ⟨t.toArray⟩] w fun e w' => (∃ i : Int, e = .returned (.int .i64 i) ∧ (t ∈ l → 0 ≤ i) ∧ (t ∉ l → i = -1)) ∧ ∃ n, w' = w.drewN n := by
  obtain ⟨A, c, rfl, hr⟩ := hv
  go_enter Tryz.func48, Tryz.ntmps48
  go_wp2
  go_loopw [8] (fun i wr => ∃ k : Nat, k ≤ l.length ∧ i = .int .i64 k ∧ Hid (t ∉ l.take k) ∧ ∃ n, wr = w.drewN n) (fun i _ => l.length - (intOf i).toNat)
  case atStart => exact ⟨0, Nat.zero_le _, rfl, Lib.hid (by simp), 0, rfl⟩
  case round =>
    obtain ⟨k, hk, rfl, HT, n, rfl⟩ := hrel
    by_cases hlt : k < l.length
    · obtain ⟨ad, rfl, hc⟩ := hr (by omega)
      have hck : (w.drewN n).cell? (ad.add k) = some (.string ⟨l[k].toArray⟩) := hc k hlt
      by_cases he : t = l[k]
      · have hm : t ∈ l := by rw [he]; exact List.getElem_mem hlt
        have HM := Lib.hid hm
        rw [← he] at hck
        clear he hc hr hm
        go_wp2
        go_ret
        exact ⟨⟨k, rfl, fun _ => by omega, fun h => absurd HM.out h⟩, n, rfl⟩
      · have n1 : (t == l[k]) = false := by rw [beq_eq_false_iff_ne]; exact he
        have HT2 : Hid (t ∉ l.take (k + 1)) := Lib.hid (by
          rw [List.take_succ_eq_append_getElem hlt, List.mem_append]
          rintro (h | h)
          · exact HT.out h
          · simp at h; exact he h)
        generalize l[k] = y at *
        clear he hc hr
        go_wp2
        go_roundw
        case rel => exact ⟨k + 1, hlt, by go_num, HT2, n, rfl⟩
        case measure => first | (simp [intOf]; done) | (simp [intOf]; omega)
    · have hke : k = l.length := by omega
      have h2 := HT.out
      rw [List.take_of_length_le (by omega)] at h2
      have HN := Lib.hid h2
      subst hke
      clear h2 HT hr
      go_wp2
      go_ret
      exact ⟨⟨-1, rfl, fun h => absurd h HN.out, fun _ => rfl⟩, n, rfl⟩
theorem scontains_any (w : World) (cv : Value) (l : List (List UInt8)) (t : List UInt8) (hv : SRead w cv l) (hl : l.length ≤ 1000000) :
    Calls Tryz.prog 32 #[cv, .string ⟨t.toArray⟩] w fun e w' => e = .returned (.bool (decide (t ∈ l))) ∧ ∃ n, w' = w.drewN n := by
  have hC := Lib.hid (sindex_any w cv l t hv hl)
  obtain ⟨q, hq⟩ : ∃ q, decide (t ∈ l) = q := ⟨_, rfl⟩
  rw [hq]
  clear hv
  go_enter Tryz.func32, Tryz.ntmps32
  go_wp2_with fail
  refine hC.out.mono ?_
  rintro e w' ⟨⟨i, rfl, h1, h2⟩, n, rfl⟩
  by_cases hm : t ∈ l
  · have h0 := h1 hm
    have z : decide (0 ≤ i) = true := by simpa using h0
    have hd : decide (t ∈ l) = true := by simpa using hm
    rw [hd] at hq
    subst hq
    clear h1 h2 hm hC hd
    go_wp2
    go_ret
    exact ⟨rfl, n, rfl⟩
  · have h0 := h2 hm
    have hd : decide (t ∈ l) = false := by simpa using hm
    rw [hd] at hq
    subst hq
    clear hd
    subst h0
    clear h1 h2 hm hC
    go_wp2
    go_ret
    exact ⟨rfl, n, rfl⟩
end Go.Proofs.YtkghdieakpipkaaGreatDoor

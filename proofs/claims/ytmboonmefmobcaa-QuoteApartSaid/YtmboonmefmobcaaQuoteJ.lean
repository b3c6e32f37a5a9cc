/-
  quote's Print: the text of a text, or refused.
-/
import Derived.Test.YtmboonmefmobcaaQuoteI
namespace Go.Proofs.Ytmboonmefmobcaa
open Go.RowKit Go.Maps
set_option maxRecDepth 100000

theorem pr_any (w : World) (base : Nat) (v : Value) (xs : List UInt8) (b : UInt8) (ho : ORow w base 5 v (xs.map bV)) (hl : xs.length ≤ 1000) (hbase : base ≤ w.heap.size) :
    Calls Try.prog 11 #[v, .int .u8 (b.toNat : Int)] w (PrPost w base xs b) := by
  have hb := byte_le b
  obtain ⟨A, cap, hv⟩ := ho.shape
  subst hv
  rw [List.length_map] at ho ⊢
  obtain ⟨bi, hbi⟩ : ∃ bi : Int, bi = (b.toNat : Int) := ⟨_, rfl⟩
  have h0 : 0 ≤ bi := by omega
  have h255 : bi ≤ 255 := by omega
  by_cases c34 : bi = 34
  · have hp : (prB b).map bV = [.int .u8 92, .int .u8 34] := by
      unfold prB; rw [if_pos (by omega)]
      simp only [List.map_cons, List.map_nil, bV]
      rw [← hbi, c34]; rfl
    rw [← hbi, c34]
    exact pr_34 w base A cap xs b ho hl hbase (Lib.hid hp)
  by_cases c92 : bi = 92
  · have hp : (prB b).map bV = [.int .u8 92, .int .u8 92] := by
      unfold prB; rw [if_pos (by omega)]
      simp only [List.map_cons, List.map_nil, bV]
      rw [← hbi, c92]; rfl
    rw [← hbi, c92]
    exact pr_92 w base A cap xs b ho hl hbase (Lib.hid hp)
  by_cases c10 : bi = 10
  · have hp : (prB b).map bV = [.int .u8 92, .int .u8 110] := by
      unfold prB; rw [if_neg (by omega), if_pos (by omega)]; rfl
    rw [← hbi, c10]
    exact pr_10 w base A cap xs b ho hl hbase (Lib.hid hp)
  by_cases c9 : bi = 9
  · have hp : (prB b).map bV = [.int .u8 92, .int .u8 116] := by
      unfold prB; rw [if_neg (by omega), if_neg (by omega), if_pos (by omega)]; rfl
    rw [← hbi, c9]
    exact pr_9 w base A cap xs b ho hl hbase (Lib.hid hp)
  by_cases c13 : bi = 13
  · have hp : (prB b).map bV = [.int .u8 92, .int .u8 114] := by
      unfold prB; rw [if_neg (by omega), if_neg (by omega), if_neg (by omega), if_pos (by omega)]; rfl
    rw [← hbi, c13]
    exact pr_13 w base A cap xs b ho hl hbase (Lib.hid hp)
  by_cases c32 : bi < 32
  · have q0 : 0 ≤ bi / 16 ∧ bi / 16 < 16 := by omega
    have q1 : 0 ≤ bi % 16 ∧ bi % 16 < 16 := by omega
    have r0 := hexD_rg _ q0.1 q0.2
    have r1 := hexD_rg _ q1.1 q1.2
    have hp : (prB b).map bV = [.int .u8 92, .int .u8 117, .int .u8 48, .int .u8 48, .int .u8 (hexD (bi / 16)), .int .u8 (hexD (bi % 16))] := by
      unfold prB; rw [if_neg (by omega), if_neg (by omega), if_neg (by omega), if_neg (by omega), if_pos (by omega)]
      rw [← hbi]
      simp only [List.map_cons, List.map_nil]
      rw [bV_b8 _ r0.1 r0.2, bV_b8 _ r1.1 r1.2]
      rfl
    rw [← hbi]
    exact pr_ctl w base A cap xs b bi ho hl hbase (Lib.hid hp) h0 c32 (beq_eq_false_iff_ne.2 c10) (beq_eq_false_iff_ne.2 c9) (beq_eq_false_iff_ne.2 c13)
  · have hp : (prB b).map bV = [.int .u8 bi] := by
      unfold prB; rw [if_neg (by omega), if_neg (by omega), if_neg (by omega), if_neg (by omega), if_neg (by omega)]
      simp only [List.map_cons, List.map_nil, bV]
      rw [← hbi]
    rw [← hbi]
    exact pr_char w base A cap xs b bi ho hl hbase (Lib.hid hp) (by omega) h255 (beq_eq_false_iff_ne.2 c34) (beq_eq_false_iff_ne.2 c92)


/-- What Print tells of a text of so many bytes. -/
def prText (L : List UInt8) : List UInt8 := if (runesL L).isSome = true then (if 48 < L.length then [] else printL L) else []
def prErr (L : List UInt8) : Int := if (runesL L).isSome = true then (if 48 < L.length then 4 else 0) else 3
def PrintEnd (L : List UInt8) : Ending := .returned (.tuple #[.string ⟨(prText L).toArray⟩, .int .i64 (prErr L)])

set_option maxHeartbeats 1000000 in
theorem print_any (s : ByteArray) (w : World) (hm : s.size ≤ 140737488355328) :
    Calls Try.prog 6 #[.string s] w fun e w' => e = PrintEnd s.data.toList ∧ Below w.heap.size w w' := by
  have hsz : s.data.toList.length = s.size := by simp
  by_cases hu : (runesL s.data.toList).isSome = true
  · by_cases ho : 48 < s.size
    · have hE : PrintEnd s.data.toList = .returned (.tuple #[.string ⟨#[]⟩, .int .i64 4]) := by
        unfold PrintEnd prText prErr; rw [if_pos hu, if_pos hu, if_pos (by omega), if_pos (by omega)]
      rw [hE]
      have HU := Lib.hid hu
      clear hE hu
      go_enter Try.func6, Try.ntmps6
      go_wp2_with (first
        | (go_at_call 10; refine (isutf_any s _ hm).mono ?_; rintro e w1 ⟨rfl, hb1⟩; rw [HU.out]))
      go_ret2
      exact ⟨rfl, hb1⟩
    · have hE : PrintEnd s.data.toList = .returned (.tuple #[.string ⟨(34 :: (prAll s.data.toList ++ [34])).toArray⟩, .int .i64 0]) := by
        unfold PrintEnd prText prErr; rw [if_pos hu, if_pos hu, if_neg (by omega), if_neg (by omega)]; rfl
      rw [hE]
      have HU := Lib.hid hu
      clear hE hu
      go_enter Try.func6, Try.ntmps6
      go_wp2_with (first
        | (go_at_call 10; refine (isutf_any s _ hm).mono ?_; rintro e w1 ⟨rfl, hb1⟩; rw [HU.out]))
      have hs1 := hb1.size
      go_loopw [4, 15] (fun v i wr => ∃ (k : Nat), k ≤ s.size ∧ i = .int .i64 k ∧ ORow wr w.heap.size 5 v ((34 :: prAll (s.data.toList.take k)).map bV) ∧ Below w.heap.size w wr) (fun _ i _ => s.size - (intOf i).toNat)
      case atStart => exact ⟨0, Nat.zero_le _, rfl, by have := ORow.lit w1 w.heap.size 5 #[.int .u8 34] hs1 (by simp [maxLen]); exact this, hb1.alloc hs1 _⟩
      case round =>
        obtain ⟨k, hk, rfl, hown, hbel⟩ := hrel
        have hbs := hbel.size
        have hlen := (prAll_len (s.data.toList.take k)).2
        have htl : (s.data.toList.take k).length ≤ k := List.length_take_le _ _
        by_cases hlt : k < s.size
        · have hle := byte_le s[k]
          have HT := Lib.hid (take_snoc s k hlt)
          go_wp2_with fail
          refine (pr_any _ _ _ (34 :: prAll (s.data.toList.take k)) s[k] hown (by simp; omega) hbs).mono ?_
          rintro e w2 ⟨v2, rfl, hown2, hb2⟩
          go_wp2
          go_roundw
          case rel => exact ⟨k + 1, by omega, by go_num, by rw [HT.out, prAll_snoc]; exact hown2, hbel.trans hb2⟩
          case measure => simp [intOf]; omega
        · have hkn : k = s.size := by omega
          subst hkn
          have htk : s.data.toList.take s.size = s.data.toList := List.take_of_length_le (by omega)
          rw [htk] at hown hlen
          obtain ⟨A, cap, hv⟩ := hown.shape
          subst hv
          rw [List.length_map] at hown
          rw [List.length_map]
          have hx : (34 :: prAll s.data.toList).length ≤ 1000 := by simp; omega
          go_wp2_with (first
            | (at_builtin; refine wp_appS rfl _ _ 30 rfl w.heap.size 5 (.int .u8 0) 1 Try.underlying30 Try.info5 rfl _ _ [.int .u8 34] rfl (by exact hown.alloc _) (by simp [Value.oneCell']) ⟨wr.heap.size, 0, none⟩ 1 1 rfl rfl (cells_new wr [.int .u8 34] 5) (by simp [maxLen] at hx ⊢; omega) (by simp at hx ⊢; omega) (by simp; omega) ?_; intro v2 w2 hown2 hb2))
          have hstr := put_str (34 :: (prAll s.data.toList ++ [34])) (by simpa [bV] using hown2)
          first | rw [hstr] | skip
          go_wp2
          go_ret2
          exact ⟨rfl, (hbel.alloc hbs _).trans hb2⟩
  · have hE : PrintEnd s.data.toList = .returned (.tuple #[.string ⟨#[]⟩, .int .i64 3]) := by
      unfold PrintEnd prText prErr; rw [if_neg hu, if_neg hu]
    have huf : (runesL s.data.toList).isSome = false := by simpa using hu
    rw [hE]
    have HU := Lib.hid huf
    clear hE hu huf
    go_enter Try.func6, Try.ntmps6
    go_wp2_with (first
      | (go_at_call 10; refine (isutf_any s _ hm).mono ?_; rintro e w1 ⟨rfl, hb1⟩; rw [HU.out]))
    go_ret2
    exact ⟨rfl, hb1⟩
end Go.Proofs.Ytmboonmefmobcaa

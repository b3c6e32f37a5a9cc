/-
  A strings.Builder as it lies: what its writing methods leave. (The shelf's contracts of these do not lay at a translation in which copyCheck's panic is cut off.)
-/
import Derived.Test.YtmbjeagmnjkemaaRow
import Derived.Test.YtmbjeagmnjkemaaShelf
import Derived.Shelf.Strings.Builder1
namespace Go.Proofs.Ytmbjeagmnjkemaa
open Go.RowKit
set_option maxRecDepth 100000
set_option linter.unusedVariables false

theorem Try.szBuilder : (Try.prog.info? 54).map (·.size) = some 2 := by kernel_rfl
theorem Try.liesBuilder : liesAt Try.prog Try.prog.depth 54 (2 / Try.prog.cellsOf 54) 0 54 1 = true := by kernel_rfl
theorem Try.infoByteB : (Try.prog.info? 5).map (fun i => (i.zero, i.size, i.bytes)) = some (some (.int .u8 0), 1, 1) := by kernel_rfl

theorem bcheck_used (b : Nat) (w : World) (h0 : w.cell? ⟨b, 0, none⟩ = some (.pointer (some ⟨b, 0, none⟩))) :
    Calls Try.prog 33 #[.pointer (some ⟨b, 0, none⟩)] w fun e w' => e = .returned (.tuple #[]) ∧ w' = w := by
  obtain ⟨j, hj, _⟩ := Option.map_eq_some_iff.1 Try.szBuilder
  have hne := Lib.run_neq_ptr_same (P := Try.prog) w (tp := 52) ⟨b, 0, none⟩ Try.underlying52 hj
  clear hj
  go_enter Try.func33, Try.ntmps33
  go_wp2
  try (rw [hne]; go_wp2)
  go_end0
  exact ⟨rfl, rfl⟩
theorem bcheck_fresh (b : Nat) (w : World) (h0 : w.cell? ⟨b, 0, none⟩ = some (.pointer none)) (hsh : w.shape? b = some (54, 2)) (hfz : w.frozen? ⟨b, 0, none⟩ = false) :
    Calls Try.prog 33 #[.pointer (some ⟨b, 0, none⟩)] w fun e w' => e = .returned (.tuple #[]) ∧ w' = w.setCell ⟨b, 0, none⟩ (.pointer (some ⟨b, 0, none⟩)) := by
  obtain ⟨j, hj, hjs⟩ := Option.map_eq_some_iff.1 Try.szBuilder
  have e1 := Lib.run_to_unsafe (P := Try.prog) w ⟨b, 0, none⟩ Try.underlying52 Try.underlying78 hj (by rw [hjs]; decide) hsh (Nat.zero_lt_succ 1)
  have e2 := Lib.run_from_unsafe (P := Try.prog) w ⟨b, 0, none⟩ Try.underlying78 Try.underlying52 hj hsh Try.liesBuilder
  clear hj
  go_enter Try.func33, Try.ntmps33
  go_wp2
  rw [run_callFunc_extern (by exact Try.func41) (by kernel_rfl) (by kernel_rfl) (by kernel_rfl) (e := Extern.AbiNoEscape.same) (by kernel_rfl), Lib.run_noEscape]
  go_wp2
  go_end0
  exact ⟨rfl, rfl⟩

/-- A Builder at block b that holds l. -/
def BldAt (w : World) (B b : Nat) (l : List UInt8) : Prop := Lib.IsBuilder 54 5 B b (Lib.byteCells l) w
theorem bcheck_any (B b : Nat) (l : List UInt8) (w : World) (h : BldAt w B b l) :
    Calls Try.prog 33 #[.pointer (some ⟨b, 0, none⟩)] w fun e w' => e = .returned (.tuple #[]) ∧ Lib.BuilderAt 54 5 B b (.pointer (some ⟨b, 0, none⟩)) (Lib.byteCells l) w' ∧ Below B w w' := by
  rcases h with h | h
  · refine (bcheck_fresh b w h.cell0 h.shape h.frozen0).mono ?_
    rintro e w' ⟨rfl, rfl⟩
    exact ⟨rfl, h.used _, (Below.refl B w).setCell (p := ⟨b, 0, none⟩) h.1 _⟩
  · refine (bcheck_used b w h.cell0).mono ?_
    rintro e w' ⟨rfl, rfl⟩
    exact ⟨rfl, h, Below.refl B _⟩

theorem BldAt.lt {w : World} {B b : Nat} {l : List UInt8} (h : BldAt w B b l) : b < w.heap.size := by
  rcases h with h | h
  · exact h.lt
  · exact h.lt
theorem BldAt.base {w : World} {B b : Nat} {l : List UInt8} (h : BldAt w B b l) : B ≤ b := by
  rcases h with h | h
  · exact h.1
  · exact h.1
theorem BldAt.new (w : World) (B : Nat) (hB : B ≤ w.heap.size) : BldAt (w.alloc (.cells #[.pointer none, .slice none 0 0] 54)) B w.heap.size [] :=
  .inl ⟨hB, .slice none 0 0, Blk.new w _ _, World.ownsRow_nil _ _ _ _, by simp [Value.ownBlock]⟩
/-- What lies elsewhere turned. -/
theorem BldAt.keep {w w' : World} {B b : Nat} {l : List UInt8} (h : BldAt w B b l) (hk : ∀ k o, B ≤ k → w.heap[k]? = some o → (∀ cs fr, o = .cells cs 54 fr ∨ o = .cells cs 5 fr → w'.heap[k]? = some o)) : BldAt w' B b l := by
  have key : ∀ p, Lib.BuilderAt 54 5 B b p (Lib.byteCells l) w → Lib.BuilderAt 54 5 B b p (Lib.byteCells l) w' := by
    rintro p ⟨hB, v, hb, ho, hne⟩
    refine ⟨hB, v, hk b _ hB hb _ _ (.inl rfl), ⟨ho.1, ?_⟩, hne⟩
    rcases ho.2 with hn | ⟨g, cap, cur, hv, hg, hh, r⟩
    · exact .inl hn
    · exact .inr ⟨g, cap, cur, hv, hg, hk g _ hg hh _ _ (.inr rfl), r⟩
  exact h.imp (key _) (key _)
theorem byteCells_snoc (l : List UInt8) (c : UInt8) : Lib.byteCells (l ++ [c]) = Lib.byteCells l ++ [.int .u8 (c.toNat : Int)] := by simp [Lib.byteCells]

set_option maxHeartbeats 2000000 in
theorem bbyte_any (B b : Nat) (l : List UInt8) (c : UInt8) (w : World) (h : BldAt w B b l) (hlen : l.length + 1 ≤ 140737488355328) (hBw : B ≤ w.heap.size) :
    Calls Try.prog 22 #[.pointer (some ⟨b, 0, none⟩), .int .u8 (c.toNat : Int)] w fun e w' => e = .returned .nilIface ∧ BldAt w' B b (l ++ [c]) ∧ Below B w w' := by
  have hll : (Lib.byteCells l).length = l.length := by simp [Lib.byteCells]
  obtain ⟨L, hL⟩ : ∃ L, Lib.byteCells l = L := ⟨_, rfl⟩
  have HN := Lib.hid (byteCells_snoc l c)
  obtain ⟨i0, hi, hz0, hz1, hz2⟩ := info_parts Try.infoByteB
  go_enter Try.func22, Try.ntmps22
  go_wp2_with (go_at_call 33; refine (bcheck_any B b l _ h).mono ?_)
  rintro e w1 ⟨rfl, h1, hb1⟩
  rw [hL] at h1 hll
  obtain ⟨hB, v, hbk, hown, hne⟩ := h1
  rw [hll] at hown
  have hk1 : Blk w1 b 54 #[.pointer (some ⟨b, 0, none⟩), v] := hbk
  have c1 : w1.cell? ⟨b, 1, none⟩ = some v := hk1.cell 1
  have hs1 := hb1.size
  go_wp2_with (at_builtin; refine wpList_append_own _ rfl _ _ 36 rfl B 5 i0 (.int .u8 0) 1 1 Try.underlying36 hi hz0 hz1 hz2 rfl (by decide) _ _ _ rfl (hown.alloc _) ⟨w1.heap.size, 0, none⟩ 1 1 [.int .u8 (c.toNat : Int)] rfl rfl ?c1 ?c2 ?c3 ?c4 ?c5 ?_)
  case c1 =>
    intro j u hj
    match j, hj with
    | 0, hj => simp at hj; subst hj; simp [Addr.add]
  case c2 => intro u hu; simp at hu; subst hu; rfl
  case c3 => unfold maxLen; omega
  case c4 => omega
  case c5 => simp; omega
  intro v' w2 hown' hgrow _
  have hlt := hk1.lt
  have hk2 : Blk w2 b 54 #[.pointer (some ⟨b, 0, none⟩), v] := (hk1.alloc _).grown hgrow (fun e => hne e.symm)
  have d1 : w2.cell? ⟨b, 1, none⟩ = some v := hk2.cell 1
  have f1 := hk2.frozen 1
  have hlt2 := hk2.lt
  obtain ⟨g, cap, rfl⟩ : ∃ g cap, v' = .slice (some ⟨g, 0, none⟩) (l.length + 1) cap := by
    rcases hown'.2 with ⟨_, h0⟩ | ⟨g, cap, cur, hv, _⟩
    · omega
    · exact ⟨g, cap, hv⟩
  go_wp2
  go_ret
  refine ⟨rfl, .inr ?_, ?_⟩
  · have hh := HN.out
    rw [hL] at hh
    have := Lib.BuilderAt.put (T := 54) (e := 5) (v' := .slice (some ⟨g, 0, none⟩) (l.length + 1) cap) hB hk2 (bs' := Lib.byteCells (l ++ [c])) (by rw [hh]; simpa [hll] using hown') (by decide)
    exact this
  · exact ((hb1.alloc (by omega) _).grown hgrow (by simp; omega) (fun k hk => (hown.lt k hk).1)).setCell (p := ⟨b, 1, none⟩) hB _

set_option maxHeartbeats 2000000 in
theorem bstr_any (B b : Nat) (l : List UInt8) (s : ByteArray) (w : World) (h : BldAt w B b l) (hlen : l.length + s.size ≤ 140737488355328) (hBw : B ≤ w.heap.size) :
    Calls Try.prog 24 #[.pointer (some ⟨b, 0, none⟩), .string s] w fun e w' => e = .returned (.tuple #[.int .i64 s.size, .nilIface]) ∧ BldAt w' B b (l ++ s.data.toList) ∧ Below B w w' := by
  have hll : (Lib.byteCells l).length = l.length := by simp [Lib.byteCells]
  obtain ⟨L, hL⟩ : ∃ L, Lib.byteCells l = L := ⟨_, rfl⟩
  have HN := Lib.hid (show Lib.byteCells (l ++ s.data.toList) = Lib.byteCells l ++ Lib.strCells s by simp [Lib.byteCells, Lib.strCells])
  obtain ⟨i0, hi, hz0, hz1, hz2⟩ := info_parts Try.infoByteB
  go_enter Try.func24, Try.ntmps24
  go_wp2_with (go_at_call 33; refine (bcheck_any B b l _ h).mono ?_)
  rintro e w1 ⟨rfl, h1, hb1⟩
  rw [hL] at h1 hll
  obtain ⟨hB, v, hbk, hown, hne⟩ := h1
  rw [hll] at hown
  have hk1 : Blk w1 b 54 #[.pointer (some ⟨b, 0, none⟩), v] := hbk
  have c1 : w1.cell? ⟨b, 1, none⟩ = some v := hk1.cell 1
  have hs1 := hb1.size
  go_wp2_with (at_builtin; refine Lib.wpList_append_own_string _ rfl _ _ 36 9 rfl B 5 i0 Try.underlying36 Try.underlying9 hi hz0 hz1 hz2 _ _ _ rfl hown s rfl ?c3 ?c4 ?c5 ?_)
  case c3 => unfold maxLen; omega
  case c4 => omega
  case c5 => omega
  intro v' w2 hown' hgrow _
  have hlt := hk1.lt
  have hk2 : Blk w2 b 54 #[.pointer (some ⟨b, 0, none⟩), v] := hk1.grown hgrow (fun e => hne e.symm)
  have d1 : w2.cell? ⟨b, 1, none⟩ = some v := hk2.cell 1
  have f1 := hk2.frozen 1
  have hlt2 := hk2.lt
  obtain ⟨ao, n', cap, rfl⟩ : ∃ ao n' cap, v' = .slice ao n' cap := by
    rcases hown'.2 with ⟨hv, _⟩ | ⟨g, cap, cur, hv, _⟩
    · exact ⟨_, _, _, hv⟩
    · exact ⟨_, _, _, hv⟩
  go_wp2
  go_ret2
  refine ⟨rfl, .inr ?_, ?_⟩
  · have hh := HN.out
    rw [hL] at hh
    have := Lib.BuilderAt.put (T := 54) (e := 5) (v' := .slice ao n' cap) hB hk2 (bs' := Lib.byteCells (l ++ s.data.toList)) (by rw [hh]; simpa [hll, Lib.strCells_length] using hown') (by decide)
    exact this
  · exact (hb1.grown hgrow (by omega) (fun k hk => (hown.lt k hk).1)).setCell (p := ⟨b, 1, none⟩) hB _
end Go.Proofs.Ytmbjeagmnjkemaa

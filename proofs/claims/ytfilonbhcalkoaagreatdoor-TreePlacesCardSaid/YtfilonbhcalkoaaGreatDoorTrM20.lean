/-
  tree: build.
-/
import Derived.Test.YtfilonbhcalkoaaGreatDoorTrM19
namespace Go.Proofs.YtfilonbhcalkoaaGreatDoor
open Go.RowKit Go.Maps
set_option maxRecDepth 100000
set_option linter.unusedSimpArgs false

/-- The two boxes of build. -/
def Two (W1 X : World) (nb rb : Nat) : Prop :=
  nb ≠ rb ∧ W1.heap.size ≤ nb ∧ W1.heap.size ≤ rb ∧ Blk X nb 24 #[.int .i64 0, .string ⟨#[]⟩, .string ⟨#[]⟩, .slice none 0 0] ∧ Blk X rb 27 #[.slice none 0 0] ∧ Below W1.heap.size W1 X
theorem drew_size (w : World) : w.drew.heap.size = w.heap.size := rfl
theorem below_dr (w : World) : Below w.heap.size w w.drew := below_drew (Below.refl _ _)
section
variable {w w5 : World}
theorem twoA (h : Below w.drew.heap.size w.drew w5) : Two w ((w5.alloc (.cells #[.int .i64 0, .string ⟨#[]⟩, .string ⟨#[]⟩, .slice none 0 0] 24)).alloc (.cells #[.slice none 0 0] 27)) w5.heap.size (w5.heap.size + 1) := by
  have hs := h.size
  rw [drew_size] at hs
  have hb := (below_dr w).trans h
  have a := (Blk.new w5 24 #[.int .i64 0, .string ⟨#[]⟩, .string ⟨#[]⟩, .slice none 0 0])
  have b := (Blk.new (w5.alloc (.cells #[.int .i64 0, .string ⟨#[]⟩, .string ⟨#[]⟩, .slice none 0 0] 24)) 27 #[.slice none 0 0])
  rw [World.size_alloc] at b
  exact ⟨by omega, hs, by omega, a.below ((Below.refl _ _).alloc (Nat.le_refl _) _) a.lt, b, (hb.alloc hs _).alloc (by simp; omega) _⟩
theorem twoB (h : Below w.drew.heap.size w.drew w5) : Two w ((w5.alloc (.cells #[.slice none 0 0] 27)).alloc (.cells #[.int .i64 0, .string ⟨#[]⟩, .string ⟨#[]⟩, .slice none 0 0] 24)) (w5.heap.size + 1) w5.heap.size := by
  have hs := h.size
  rw [drew_size] at hs
  have hb := (below_dr w).trans h
  have a := (Blk.new w5 27 #[.slice none 0 0])
  have b := (Blk.new (w5.alloc (.cells #[.slice none 0 0] 27)) 24 #[.int .i64 0, .string ⟨#[]⟩, .string ⟨#[]⟩, .slice none 0 0])
  rw [World.size_alloc] at b
  exact ⟨by omega, by omega, hs, b, a.below ((Below.refl _ _).alloc (Nat.le_refl _) _) a.lt, (hb.alloc hs _).alloc (by simp; omega) _⟩
theorem twoC (h : Below (w.alloc (.cells #[.int .i64 0, .string ⟨#[]⟩, .string ⟨#[]⟩, .slice none 0 0] 24)).drew.heap.size (w.alloc (.cells #[.int .i64 0, .string ⟨#[]⟩, .string ⟨#[]⟩, .slice none 0 0] 24)).drew w5) : Two w (w5.alloc (.cells #[.slice none 0 0] 27)) w.heap.size w5.heap.size := by
  have h : Below (w.drew.alloc (.cells #[.int .i64 0, .string ⟨#[]⟩, .string ⟨#[]⟩, .slice none 0 0] 24)).heap.size (w.drew.alloc (.cells #[.int .i64 0, .string ⟨#[]⟩, .string ⟨#[]⟩, .slice none 0 0] 24)) w5 := h
  have hs := h.size
  rw [World.size_alloc, drew_size] at hs
  have hb := ((below_dr w).alloc (Nat.le_refl _) (.cells #[.int .i64 0, .string ⟨#[]⟩, .string ⟨#[]⟩, .slice none 0 0] 24)).trans (h.mono (by rw [World.size_alloc, drew_size]; omega))
  have a := (Blk.new w.drew 24 #[.int .i64 0, .string ⟨#[]⟩, .string ⟨#[]⟩, .slice none 0 0])
  rw [drew_size] at a
  have a5 := a.below h a.lt
  exact ⟨by omega, Nat.le_refl _, by omega, a5.below ((Below.refl _ _).alloc (Nat.le_refl _) _) a5.lt, Blk.new w5 _ _, hb.alloc (by omega) _⟩
theorem twoE (h : Below (w.alloc (.cells #[.slice none 0 0] 27)).drew.heap.size (w.alloc (.cells #[.slice none 0 0] 27)).drew w5) : Two w (w5.alloc (.cells #[.int .i64 0, .string ⟨#[]⟩, .string ⟨#[]⟩, .slice none 0 0] 24)) w5.heap.size w.heap.size := by
  have h : Below (w.drew.alloc (.cells #[.slice none 0 0] 27)).heap.size (w.drew.alloc (.cells #[.slice none 0 0] 27)) w5 := h
  have hs := h.size
  rw [World.size_alloc, drew_size] at hs
  have hb := ((below_dr w).alloc (Nat.le_refl _) (.cells #[.slice none 0 0] 27)).trans (h.mono (by rw [World.size_alloc, drew_size]; omega))
  have a := (Blk.new w.drew 27 #[.slice none 0 0])
  rw [drew_size] at a
  have a5 := a.below h a.lt
  exact ⟨by omega, by omega, Nat.le_refl _, Blk.new w5 _ _, a5.below ((Below.refl _ _).alloc (Nat.le_refl _) _) a5.lt, hb.alloc (by omega) _⟩
theorem twoD (h : Below ((w.alloc (.cells #[.int .i64 0, .string ⟨#[]⟩, .string ⟨#[]⟩, .slice none 0 0] 24)).alloc (.cells #[.slice none 0 0] 27)).drew.heap.size ((w.alloc (.cells #[.int .i64 0, .string ⟨#[]⟩, .string ⟨#[]⟩, .slice none 0 0] 24)).alloc (.cells #[.slice none 0 0] 27)).drew w5) : Two w w5 w.heap.size (w.heap.size + 1) := by
  have h : Below ((w.drew.alloc (.cells #[.int .i64 0, .string ⟨#[]⟩, .string ⟨#[]⟩, .slice none 0 0] 24)).alloc (.cells #[.slice none 0 0] 27)).heap.size ((w.drew.alloc (.cells #[.int .i64 0, .string ⟨#[]⟩, .string ⟨#[]⟩, .slice none 0 0] 24)).alloc (.cells #[.slice none 0 0] 27)) w5 := h
  have hb := (((below_dr w).alloc (Nat.le_refl _) (.cells #[.int .i64 0, .string ⟨#[]⟩, .string ⟨#[]⟩, .slice none 0 0] 24)).alloc (by rw [World.size_alloc, drew_size]; omega) (.cells #[.slice none 0 0] 27)).trans (h.mono (by simp [drew_size] <;> omega))
  have a := (Blk.new w.drew 24 #[.int .i64 0, .string ⟨#[]⟩, .string ⟨#[]⟩, .slice none 0 0])
  have b := (Blk.new (w.drew.alloc (.cells #[.int .i64 0, .string ⟨#[]⟩, .string ⟨#[]⟩, .slice none 0 0] 24)) 27 #[.slice none 0 0])
  have a1 := a.below ((Below.refl _ _).alloc (Nat.le_refl _) (.cells #[.slice none 0 0] 27)) a.lt
  rw [World.size_alloc] at b
  exact ⟨by omega, Nat.le_refl _, by omega, a1.below h a1.lt, b.below h b.lt, hb⟩
theorem twoF (h : Below ((w.alloc (.cells #[.slice none 0 0] 27)).alloc (.cells #[.int .i64 0, .string ⟨#[]⟩, .string ⟨#[]⟩, .slice none 0 0] 24)).drew.heap.size ((w.alloc (.cells #[.slice none 0 0] 27)).alloc (.cells #[.int .i64 0, .string ⟨#[]⟩, .string ⟨#[]⟩, .slice none 0 0] 24)).drew w5) : Two w w5 (w.heap.size + 1) w.heap.size := by
  have h : Below ((w.drew.alloc (.cells #[.slice none 0 0] 27)).alloc (.cells #[.int .i64 0, .string ⟨#[]⟩, .string ⟨#[]⟩, .slice none 0 0] 24)).heap.size ((w.drew.alloc (.cells #[.slice none 0 0] 27)).alloc (.cells #[.int .i64 0, .string ⟨#[]⟩, .string ⟨#[]⟩, .slice none 0 0] 24)) w5 := h
  have hb := (((below_dr w).alloc (Nat.le_refl _) (.cells #[.slice none 0 0] 27)).alloc (by rw [World.size_alloc, drew_size]; omega) (.cells #[.int .i64 0, .string ⟨#[]⟩, .string ⟨#[]⟩, .slice none 0 0] 24)).trans (h.mono (by simp [drew_size] <;> omega))
  have a := (Blk.new w.drew 27 #[.slice none 0 0])
  have b := (Blk.new (w.drew.alloc (.cells #[.slice none 0 0] 27)) 24 #[.int .i64 0, .string ⟨#[]⟩, .string ⟨#[]⟩, .slice none 0 0])
  have a1 := a.below ((Below.refl _ _).alloc (Nat.le_refl _) (.cells #[.int .i64 0, .string ⟨#[]⟩, .string ⟨#[]⟩, .slice none 0 0] 24)) a.lt
  rw [World.size_alloc] at b
  exact ⟨by omega, by omega, Nat.le_refl _, b.below h b.lt, a1.below h a1.lt, hb⟩
end
theorem bpost_of {B : Nat} {k : Int} {t s : ByteArray} {kids : List Nd} {rest : List Ev} {w WW : World} {A A2 : Option Addr} {c c2 m : Nat} {ks : List KV} (hNR : NRow WW m (.slice A ks.length c) ks) (hmap : ks.map (·.n) = kids) (hE : ELow B WW (.slice A2 rest.length c2) rest)
    (hbW : Below w.heap.size w WW) (hm : w.heap.size < m) (hBw : B ≤ w.heap.size) (u0 u1 u2 u3 : Value) :
    BPost B (.mk k t s kids) rest w (.returned (.tuple #[.agg #[.int .i64 k, .string t, .string s, .slice A ks.length c], .slice A2 rest.length c2])) ((((WW.setCell ⟨w.heap.size, 0, none⟩ u0).setCell ⟨w.heap.size, 1, none⟩ u1).setCell ⟨w.heap.size, 2, none⟩ u2).setCell ⟨w.heap.size, 3, none⟩ u3) := by
  have hh : ∀ i, i ≠ w.heap.size → ((((WW.setCell ⟨w.heap.size, 0, none⟩ u0).setCell ⟨w.heap.size, 1, none⟩ u1).setCell ⟨w.heap.size, 2, none⟩ u2).setCell ⟨w.heap.size, 3, none⟩ u3).heap[i]? = WW.heap[i]? := fun i hi =>
    (Below.heap_setCell _ ⟨w.heap.size, 3, none⟩ _ i hi).trans ((Below.heap_setCell _ ⟨w.heap.size, 2, none⟩ _ i hi).trans ((Below.heap_setCell _ ⟨w.heap.size, 1, none⟩ _ i hi).trans (Below.heap_setCell _ ⟨w.heap.size, 0, none⟩ _ i hi)))
  obtain ⟨A9, c9, hA9, HND⟩ := hNR.node k t s
  injection hA9 with e1 e2 e3
  subst e1 e3
  rw [hmap] at HND
  have hl : ks.length = kids.length := by rw [← hmap]; simp
  refine ⟨A, c, A2, c2, by rw [hl]; rfl, (Fresh.hold HND fun i h1 _ => hh i (by omega)).weaken fun b o hs => ⟨by have := hs.1; omega, hs.2⟩, hE.hold fun i hi => hh i (by omega), ?_⟩
  exact (((hbW.setCell (p := ⟨w.heap.size, 0, none⟩) (Nat.le_refl _) _).setCell (p := ⟨w.heap.size, 1, none⟩) (Nat.le_refl _) _).setCell (p := ⟨w.heap.size, 2, none⟩) (Nat.le_refl _) _).setCell (p := ⟨w.heap.size, 3, none⟩) (Nat.le_refl _) _
theorem ends_endI {k : Int} (h : opensK k = true) : endsK (endI k) = true := by
  unfold opensK at h
  rw [decide_eq_true_iff] at h
  rcases h with rfl | rfl | rfl <;> decide
theorem shapedL_in : ∀ {l : List Nd} {n : Nd}, shapedL l = true → n ∈ l → shaped n = true
  | x :: r, n, h, hn => by
    simp only [shapedL, Bool.and_eq_true] at h
    rcases List.mem_cons.1 hn with rfl | hn
    · exact h.1
    · exact shapedL_in h.2 hn
theorem sizeL_in : ∀ {l : List Nd} {n : Nd}, n ∈ l → sizeN n ≤ sizeL l
  | x :: r, n, hn => by
    simp only [sizeL]
    rcases List.mem_cons.1 hn with rfl | hn
    · omega
    · have := sizeL_in hn; omega
def lenA (b : Nat) (w : World) : Nat := match w.cell? ⟨b, 0, none⟩ with | some (.slice _ n _) => n | _ => 0
theorem lenA_of {b : Nat} {w : World} {A : Option Addr} {n c : Nat} (h : w.cell? ⟨b, 0, none⟩ = some (.slice A n c)) : lenA b w = n := by unfold lenA; rw [h]
/-- Where a round of build stands. -/
structure LoopAt (W1 wr : World) (B m rb nb : Nat) (k ek : Int) (t s : ByteArray) (kids : List Nd) (rest : List Ev) (A1 A2 : Option Addr) (c1 c2 L2 : Nat) (ks : List KV) : Prop where
  len : ks.length ≤ kids.length
  map : ks.map (·.n) = kids.take ks.length
  row : NRow wr m (.slice A1 ks.length c1) ks
  ev : ELow B wr (.slice A2 L2 c2) (flatL (kids.drop ks.length) ++ endE ek :: rest)
  el : (flatL (kids.drop ks.length) ++ endE ek :: rest).length = L2
  below : Below W1.heap.size W1 wr
  m : m ≤ wr.heap.size
/-- A round that takes a kid. -/
theorem LoopAt.head {W1 wr : World} {B m rb nb : Nat} {k ek : Int} {t s : ByteArray} {kids : List Nd} {rest : List Ev} {A1 A2 : Option Addr} {c1 c2 L2 : Nat} {ks : List KV} (h : LoopAt W1 wr B m rb nb k ek t s kids rest A1 A2 c1 c2 L2 ks) (hsh : shapedL kids = true) (hek : endsK ek = true) (hlt : ks.length < kids.length) :
    ∃ b o kx x, A2 = some ⟨b, o, none⟩ ∧ 0 < L2 ∧ wr.cell? ⟨b, o, none⟩ = some (.int .i64 kx) ∧ kx ≠ ek ∧ x ∈ kids ∧ kids.drop ks.length = x :: kids.drop (ks.length + 1) ∧ ELow B wr (.slice A2 L2 c2) (flat x ++ (flatL (kids.drop (ks.length + 1)) ++ endE ek :: rest)) ∧
      (flatL (kids.drop (ks.length + 1)) ++ endE ek :: rest).length < L2 ∧ kids.take (ks.length + 1) = kids.take ks.length ++ [x] := by
  have hdr : kids.drop ks.length = kids[ks.length] :: kids.drop (ks.length + 1) := List.drop_eq_getElem_cons hlt
  have hm := List.getElem_mem hlt
  have ht := List.take_succ_eq_append_getElem hlt
  have hsx := shapedL_in hsh hm
  have hE := h.ev
  have hl := h.el
  rw [hdr] at hE hl
  generalize kids[ks.length] = x at *
  cases x with
  | mk kx tx sx lx =>
    simp only [flatL, List.append_assoc] at hE hl
    simp only [shaped, Bool.and_eq_true] at hsx
    have hh := hE
    have e0 : flat (.mk kx tx sx lx) ++ (flatL (kids.drop (ks.length + 1)) ++ endE ek :: rest) = ⟨kx, tx, sx⟩ :: (flatL lx ++ endL kx ++ (flatL (kids.drop (ks.length + 1)) ++ endE ek :: rest)) := by simp [flat]
    have hl2 := hl
    rw [e0] at hh hl2
    obtain ⟨b, o, c, hv, _, _, q0, _⟩ := hh.head
    injection hv with e1 e2 e3
    refine ⟨b, o, kx, _, e1, by omega, q0, fun e => ?_, hm, hdr, hE, ?_, ht⟩
    · have := shape_head hsx.1
      rw [e, hek] at this
      exact absurd this (by decide)
    · rw [← hl2]
      simp
      omega
/-- The round that ends. -/
theorem LoopAt.last {W1 wr : World} {B m rb nb : Nat} {k ek : Int} {t s : ByteArray} {kids : List Nd} {rest : List Ev} {A1 A2 : Option Addr} {c1 c2 L2 : Nat} {ks : List KV} (h : LoopAt W1 wr B m rb nb k ek t s kids rest A1 A2 c1 c2 L2 ks) (hlt : ¬ ks.length < kids.length) :
    ks.map (·.n) = kids ∧ ∃ b o, A2 = some ⟨b, o, none⟩ ∧ L2 = rest.length + 1 ∧ L2 ≤ c2 ∧ c2 ≤ 9223372036854775807 ∧ wr.cell? ⟨b, o, none⟩ = some (.int .i64 ek) ∧ ELow B wr (.slice (some (if c2 = 1 then ⟨b, o, none⟩ else ⟨b, o + 3, none⟩)) rest.length (c2 - 1)) rest := by
  have hl := h.len
  have hE := h.ev
  rw [List.drop_eq_nil_of_le (by omega)] at hE
  simp only [flatL, List.nil_append] at hE
  obtain ⟨b, o, c, hv, h1, h2, q0, _, _, hT⟩ := hE.head
  injection hv with e1 e2 e3
  subst e3
  refine ⟨by rw [h.map, List.take_of_length_le (by omega)], b, o, e1, e2, by omega, by simpa [maxLen] using h2, q0, hT⟩
theorem NRow.mle {w : World} {base : Nat} {v : Value} {ks : List KV} (h : NRow w base v ks) (hn : 0 < ks.length) : base ≤ w.heap.size := by
  rcases h.row.2 with ⟨_, h0⟩ | ⟨g, cap, cur, hv, hg, hb, _⟩
  · omega
  · exact Nat.le_trans hg (Nat.le_of_lt (Blk.lt hb))

set_option maxHeartbeats 16000000 in
theorem tbuild_any (n : Nd) (hsh : shaped n = true) : BuildAt n := by
  induction n using Nd.ind with
  | h k t s kids ih =>
    intro B rest v w hB hsz hn hv
    simp only [shaped, Bool.and_eq_true] at hsh
    obtain ⟨⟨hts, hvs⟩, hks⟩ := flat_sizes hsz
    have hflat : flat (.mk k t s kids) ++ rest = ⟨k, t, s⟩ :: (flatL kids ++ endL k ++ rest) := by simp [flat]
    rw [hflat] at hv
    obtain ⟨b, o, c, rfl, hlc, hcm, q0, q1, q2, hT⟩ := hv.head
    have hcm2 : c ≤ 9223372036854775807 := by simpa [maxLen] using hcm
    simp only at q0 q1 q2
    obtain ⟨L, hL⟩ : ∃ L, (flatL kids ++ endL k ++ rest).length = L := ⟨_, rfl⟩
    have HT := Lib.hid hT
    rw [hL] at hlc HT ⊢
    have HLN := Lib.hid hL
    have hbl := cell_lt q0
    clear hv hflat hsz hT hL
    have hal : Below w.heap.size w (w.alloc (.cells #[.int .i64 0, .string ⟨#[]⟩, .string ⟨#[]⟩, .slice none 0 0] 24)) := (Below.refl _ _).alloc (Nat.le_refl _) _
    have hres := Blk.new w 24 #[.int .i64 0, .string ⟨#[]⟩, .string ⟨#[]⟩, .slice none 0 0]
    obtain ⟨W1, hW1⟩ : ∃ W1, w.alloc (.cells #[.int .i64 0, .string ⟨#[]⟩, .string ⟨#[]⟩, .slice none 0 0] 24) = W1 := ⟨_, rfl⟩
    have hs1 : W1.heap.size = w.heap.size + 1 := by rw [← hW1]; simp
    rw [hW1] at hal hres
    have p0 := (hal.cell (p := ⟨b, o, none⟩) hbl).trans q0
    have p1 := (hal.cell (p := ⟨b, o + 1, none⟩) hbl).trans q1
    have p2 := (hal.cell (p := ⟨b, o + 2, none⟩) hbl).trans q2
    have hcells := fun (W : World) (h : Below W1.heap.size W1 W) => And.intro ((h.cell (cell_lt p0)).trans p0) (And.intro ((h.cell (cell_lt p1)).trans p1) ((h.cell (cell_lt p2)).trans p2))
    have hLi : ¬ ((L : Int) + 1 < 1) := by omega
    have hLj : (0 : Int) < (L : Int) + 1 := by omega
    show Calls Tryz.prog 32 #[.slice (some ⟨b, o, none⟩) (L + 1) c] w _
    go_enter Tryz.func32, Tryz.ntmps32
    go_wp2_with fail
    clear hW1
    refine wp_mono (Q := fun e a' W' => e = .normal ∧ ∃ nb rb, nb ≠ rb ∧ W1.heap.size ≤ nb ∧ W1.heap.size ≤ rb ∧ Blk W' nb 24 #[.int .i64 k, .string t, .string s, .slice none 0 0] ∧ Blk W' rb 27 #[(.slice (some (if c = 1 then ⟨b, o, none⟩ else ⟨b, o + 3, none⟩)) L (c - 1))] ∧ Below W1.heap.size W1 W' ∧ a' = { tmps := #[(.slice (some ⟨b, o, none⟩) (L + 1) c), undef, .pointer (some ⟨w.heap.size, 0, none⟩), .slice none 0 0, .pointer (some ⟨nb, 0, none⟩), .pointer (some ⟨rb, 0, none⟩), undef, undef, (.slice (some ⟨b, o, none⟩) (L + 1) c), .pointer (some ⟨b, o, none⟩), .pointer (some ⟨b, o, none⟩), .int .i64 k, (.slice (some ⟨b, o, none⟩) (L + 1) c), .pointer (some ⟨b, o, none⟩), .pointer (some ⟨b, o + 1, none⟩), .string t, (.slice (some ⟨b, o, none⟩) (L + 1) c), .pointer (some ⟨b, o, none⟩), .pointer (some ⟨b, o + 2, none⟩), .string s, .agg #[.int .i64 k, .string t, .string s, .slice none 0 0], (.slice (some ⟨b, o, none⟩) (L + 1) c), (.slice (some (if c = 1 then ⟨b, o, none⟩ else ⟨b, o + 3, none⟩)) L (c - 1)), undef, undef, undef, undef, undef, undef, undef, undef, undef, undef, undef, undef, undef, undef, undef, undef, undef, undef, undef, undef, undef, undef, undef, undef, undef], defers := [] }) ?_ ?_
    · refine region_g [18] (S := (fun W => W.cell? ⟨b, o, none⟩ = some (.int .i64 k) ∧ W.cell? ⟨b, o + 1, none⟩ = some (.string t) ∧ W.cell? ⟨b, o + 2, none⟩ = some (.string s))) (by kernel_rfl) (hcells _ (below_drew (Below.refl _ _))) (fun hH => ?_)
      refine g_take (i := 0) (v := (.slice (some ⟨b, o, none⟩) (L + 1) c)) (by rfl) (by kernel_rfl) (by kernel_rfl) (by kernel_rfl) (by kernel_rfl) (fun _ _ _ h => (by cases h.1)) (Or.inl ⟨by rfl, fun W hS => (by obtain ⟨s1, s2, s3⟩ := hS; go_simp)⟩) hH ?_
      simp only [Act.put, List.setIfInBounds_toArray, List.set_cons_zero, List.set_cons_succ]
      refine g_take (i := 1) (v := .pointer (some ⟨b, o, none⟩)) (by rfl) (by kernel_rfl) (by kernel_rfl) (by kernel_rfl) (by kernel_rfl) (fun _ _ _ h => (by cases h.1)) (Or.inl ⟨by rfl, fun W hS => (by obtain ⟨s1, s2, s3⟩ := hS; go_simp)⟩) hH ?_
      simp only [Act.put, List.setIfInBounds_toArray, List.set_cons_zero, List.set_cons_succ]
      refine g_take (i := 2) (v := .pointer (some ⟨b, o, none⟩)) (by rfl) (by kernel_rfl) (by kernel_rfl) (by kernel_rfl) (by kernel_rfl) (fun _ _ _ h => (by cases h.1)) (Or.inl ⟨by rfl, fun W hS => (by obtain ⟨s1, s2, s3⟩ := hS; go_simp)⟩) hH ?_
      simp only [Act.put, List.setIfInBounds_toArray, List.set_cons_zero, List.set_cons_succ]
      refine g_take (i := 3) (v := .int .i64 k) (by rfl) (by kernel_rfl) (by kernel_rfl) (by kernel_rfl) (by kernel_rfl) (fun _ _ _ h => (by cases h.1)) (Or.inl ⟨by rfl, fun W hS => (by obtain ⟨s1, s2, s3⟩ := hS; go_simp)⟩) hH ?_
      simp only [Act.put, List.setIfInBounds_toArray, List.set_cons_zero, List.set_cons_succ]
      refine g_take (i := 4) (v := (.slice (some ⟨b, o, none⟩) (L + 1) c)) (by rfl) (by kernel_rfl) (by kernel_rfl) (by kernel_rfl) (by kernel_rfl) (fun _ _ _ h => (by cases h.1)) (Or.inl ⟨by rfl, fun W hS => (by obtain ⟨s1, s2, s3⟩ := hS; go_simp)⟩) hH ?_
      simp only [Act.put, List.setIfInBounds_toArray, List.set_cons_zero, List.set_cons_succ]
      refine g_take (i := 5) (v := .pointer (some ⟨b, o, none⟩)) (by rfl) (by kernel_rfl) (by kernel_rfl) (by kernel_rfl) (by kernel_rfl) (fun _ _ _ h => (by cases h.1)) (Or.inl ⟨by rfl, fun W hS => (by obtain ⟨s1, s2, s3⟩ := hS; go_simp)⟩) hH ?_
      simp only [Act.put, List.setIfInBounds_toArray, List.set_cons_zero, List.set_cons_succ]
      refine g_take (i := 6) (v := .pointer (some ⟨b, o + 1, none⟩)) (by rfl) (by kernel_rfl) (by kernel_rfl) (by kernel_rfl) (by kernel_rfl) (fun _ _ _ h => (by cases h.1)) (Or.inl ⟨by rfl, fun W hS => (by obtain ⟨s1, s2, s3⟩ := hS; go_simp)⟩) hH ?_
      simp only [Act.put, List.setIfInBounds_toArray, List.set_cons_zero, List.set_cons_succ]
      refine g_take (i := 7) (v := .string t) (by rfl) (by kernel_rfl) (by kernel_rfl) (by kernel_rfl) (by kernel_rfl) (fun _ _ _ h => (by cases h.1)) (Or.inl ⟨by rfl, fun W hS => (by obtain ⟨s1, s2, s3⟩ := hS; go_simp)⟩) hH ?_
      simp only [Act.put, List.setIfInBounds_toArray, List.set_cons_zero, List.set_cons_succ]
      refine g_take (i := 8) (v := (.slice (some ⟨b, o, none⟩) (L + 1) c)) (by rfl) (by kernel_rfl) (by kernel_rfl) (by kernel_rfl) (by kernel_rfl) (fun _ _ _ h => (by cases h.1)) (Or.inl ⟨by rfl, fun W hS => (by obtain ⟨s1, s2, s3⟩ := hS; go_simp)⟩) hH ?_
      simp only [Act.put, List.setIfInBounds_toArray, List.set_cons_zero, List.set_cons_succ]
      refine g_take (i := 9) (v := .pointer (some ⟨b, o, none⟩)) (by rfl) (by kernel_rfl) (by kernel_rfl) (by kernel_rfl) (by kernel_rfl) (fun _ _ _ h => (by cases h.1)) (Or.inl ⟨by rfl, fun W hS => (by obtain ⟨s1, s2, s3⟩ := hS; go_simp)⟩) hH ?_
      simp only [Act.put, List.setIfInBounds_toArray, List.set_cons_zero, List.set_cons_succ]
      refine g_take (i := 10) (v := .pointer (some ⟨b, o + 2, none⟩)) (by rfl) (by kernel_rfl) (by kernel_rfl) (by kernel_rfl) (by kernel_rfl) (fun _ _ _ h => (by cases h.1)) (Or.inl ⟨by rfl, fun W hS => (by obtain ⟨s1, s2, s3⟩ := hS; go_simp)⟩) hH ?_
      simp only [Act.put, List.setIfInBounds_toArray, List.set_cons_zero, List.set_cons_succ]
      refine g_take (i := 11) (v := .string s) (by rfl) (by kernel_rfl) (by kernel_rfl) (by kernel_rfl) (by kernel_rfl) (fun _ _ _ h => (by cases h.1)) (Or.inl ⟨by rfl, fun W hS => (by obtain ⟨s1, s2, s3⟩ := hS; go_simp)⟩) hH ?_
      simp only [Act.put, List.setIfInBounds_toArray, List.set_cons_zero, List.set_cons_succ]
      refine g_take (i := 13) (v := (.slice (some ⟨b, o, none⟩) (L + 1) c)) (by rfl) (by kernel_rfl) (by kernel_rfl) (by kernel_rfl) (by kernel_rfl) (fun _ _ _ h => (by cases h.1)) (Or.inl ⟨by rfl, fun W hS => (by obtain ⟨s1, s2, s3⟩ := hS; go_simp)⟩) hH ?_
      simp only [Act.put, List.setIfInBounds_toArray, List.set_cons_zero, List.set_cons_succ]
      refine g_take (i := 14) (v := (.slice (some (if c = 1 then ⟨b, o, none⟩ else ⟨b, o + 3, none⟩)) L (c - 1))) (by rfl) (by kernel_rfl) (by kernel_rfl) (by kernel_rfl) (by kernel_rfl) (fun _ _ _ h => (by cases h.1)) (Or.inl ⟨by rfl, fun W hS => (by obtain ⟨s1, s2, s3⟩ := hS; go_simp; split <;> rfl)⟩) hH ?_
      simp only [Act.put, List.setIfInBounds_toArray, List.set_cons_zero, List.set_cons_succ]
      refine g_all (rs := [12, 15, 16]) (by kernel_rfl) (by simp) (fun i hi => ?_)
      simp only [List.mem_cons, List.not_mem_nil, or_false] at hi
      rcases hi with rfl | rfl | rfl
      · refine ⟨_, by rfl, fun K hK => ?_⟩
        go_simp
        refine (bare_any k t s _ hts hvs).mono ?_
        rintro e w5 ⟨rfl, hb5⟩
        refine hK.out _ _ (fun _ => hcells _ (Below.trans (below_drew (Below.refl W1.heap.size W1)) (Below.mono hb5 (by simp <;> omega)))) (fun _ => ?_)
        clear hK K
        try simp only [Act.put, List.setIfInBounds_toArray, List.set_cons_zero, List.set_cons_succ]
        refine g_all (rs := [15, 16]) (by kernel_rfl) (by simp) (fun i hi => ?_)
        simp only [List.mem_cons, List.not_mem_nil, or_false] at hi
        rcases hi with rfl | rfl
        · refine ⟨_, by rfl, fun K hK => ?_⟩
          go_simp
          refine hK.out _ _ (fun _ => hcells _ (Below.alloc (Below.trans (below_drew (Below.refl W1.heap.size W1)) (Below.mono hb5 (by simp <;> omega))) (by first | (have := hb5.size; simp at this ⊢; omega) | (simp <;> omega)) _)) (fun _ => ?_)
          clear hK K
          try simp only [Act.put, List.setIfInBounds_toArray, List.set_cons_zero, List.set_cons_succ]
          refine g_all (rs := [16]) (by kernel_rfl) (by simp) (fun i hi => ?_)
          simp only [List.mem_cons, List.not_mem_nil, or_false] at hi
          subst hi
          · refine ⟨_, by rfl, fun K hK => ?_⟩
            go_simp
            refine hK.out _ _ (fun _ => hcells _ (Below.alloc (Below.alloc (Below.trans (below_drew (Below.refl W1.heap.size W1)) (Below.mono hb5 (by simp <;> omega))) (by first | (have := hb5.size; simp at this ⊢; omega) | (simp <;> omega)) _) (by first | (have := hb5.size; simp at this ⊢; omega) | (simp <;> omega)) _)) (fun _ => ?_)
            clear hK K
            try simp only [Act.put, List.setIfInBounds_toArray, List.set_cons_zero, List.set_cons_succ]
            have HT2 : Two W1 ((w5.alloc (.cells #[.int .i64 0, .string ⟨#[]⟩, .string ⟨#[]⟩, .slice none 0 0] 24)).alloc (.cells #[.slice none 0 0] 27)) (w5.heap.size) (w5.heap.size + 1) := by
              have h := twoA (w := W1) hb5
              exact h
            clear hb5
            generalize ((w5.alloc (.cells #[.int .i64 0, .string ⟨#[]⟩, .string ⟨#[]⟩, .slice none 0 0] 24)).alloc (.cells #[.slice none 0 0] 27)) = X at HT2 ⊢
            generalize w5.heap.size + 1 = rb at HT2 ⊢
            generalize w5.heap.size = nb at HT2 ⊢
            obtain ⟨hne, hn1, hr1, bn, br, hbx⟩ := HT2
            have f0 : X.frozen? ⟨nb, 0, none⟩ = false := bn.frozen 0
            have f1 : X.frozen? ⟨nb, 1, none⟩ = false := bn.frozen 1
            have f2 : X.frozen? ⟨nb, 2, none⟩ = false := bn.frozen 2
            have f3 : X.frozen? ⟨nb, 3, none⟩ = false := bn.frozen 3
            have d0 : X.cell? ⟨nb, 0, none⟩ = some (.int .i64 0) := bn.cell 0
            have d1 : X.cell? ⟨nb, 1, none⟩ = some (.string ⟨#[]⟩) := bn.cell 1
            have d2 : X.cell? ⟨nb, 2, none⟩ = some (.string ⟨#[]⟩) := bn.cell 2
            have d3 : X.cell? ⟨nb, 3, none⟩ = some (.slice none 0 0) := bn.cell 3
            have bl := bn.lt
            have rl := br.lt
            have hne' : rb ≠ nb := Ne.symm hne
            have hb17 : Below W1.heap.size W1 ((((X.setCell ⟨nb, 0, none⟩ (.int .i64 k)).setCell ⟨nb, 1, none⟩ (.string t)).setCell ⟨nb, 2, none⟩ (.string s)).setCell ⟨nb, 3, none⟩ (.slice none 0 0)) := (((hbx.setCell (p := ⟨nb, 0, none⟩) hn1 _).setCell (p := ⟨nb, 1, none⟩) hn1 _).setCell (p := ⟨nb, 2, none⟩) hn1 _).setCell (p := ⟨nb, 3, none⟩) hn1 _
            have bn17 : Blk ((((X.setCell ⟨nb, 0, none⟩ (.int .i64 k)).setCell ⟨nb, 1, none⟩ (.string t)).setCell ⟨nb, 2, none⟩ (.string s)).setCell ⟨nb, 3, none⟩ (.slice none 0 0)) nb 24 #[.int .i64 k, .string t, .string s, .slice none 0 0] := (((bn.set_ 0 (.int .i64 k)).set_ 1 (.string t)).set_ 2 (.string s)).set_ 3 (.slice none 0 0)
            have br17 : Blk ((((X.setCell ⟨nb, 0, none⟩ (.int .i64 k)).setCell ⟨nb, 1, none⟩ (.string t)).setCell ⟨nb, 2, none⟩ (.string s)).setCell ⟨nb, 3, none⟩ (.slice none 0 0)) rb 27 #[.slice none 0 0] := (((br.far (p := ⟨nb, 0, none⟩) hne' _).far (p := ⟨nb, 1, none⟩) hne' _).far (p := ⟨nb, 2, none⟩) hne' _).far (p := ⟨nb, 3, none⟩) hne' _
            refine g_one (i := 17) (by kernel_rfl) (by rfl) (fun K hK => ?_)
            go_simp
            refine hK.out _ _ (fun _ => hcells _ hb17) (fun _ => ?_)
            clear hK K f0 f1 f2 f3 d0 d1 d2 d3
            generalize ((((X.setCell ⟨nb, 0, none⟩ (.int .i64 k)).setCell ⟨nb, 1, none⟩ (.string t)).setCell ⟨nb, 2, none⟩ (.string s)).setCell ⟨nb, 3, none⟩ (.slice none 0 0)) = Y at *
            have fr : Y.frozen? ⟨rb, 0, none⟩ = false := br17.frozen 0
            have dr : Y.cell? ⟨rb, 0, none⟩ = some (.slice none 0 0) := br17.cell 0
            have rl7 := br17.lt
            refine g_one (i := 18) (by kernel_rfl) (by rfl) (fun K hK => ?_)
            try simp only [Act.put, List.getElem_toArray, List.getElem_cons_succ, List.getElem_cons_zero, List.setIfInBounds_toArray, List.set_cons_zero, List.set_cons_succ]
            go_simp
            refine hK.out _ _ (fun h => absurd (by decide) h) (fun _ => ?_)
            clear hK K
            refine g_done (by kernel_rfl) ⟨by first | rfl | trivial, by first | rfl | trivial, nb, rb, hne, hn1, hr1, bn17.far (p := ⟨rb, 0, none⟩) hne _, br17.set_ 0 (.slice (some (if c = 1 then ⟨b, o, none⟩ else ⟨b, o + 3, none⟩)) L (c - 1)), hb17.setCell (p := ⟨rb, 0, none⟩) hr1 _, rfl⟩ _
        · refine ⟨_, by rfl, fun K hK => ?_⟩
          go_simp
          refine hK.out _ _ (fun _ => hcells _ (Below.alloc (Below.trans (below_drew (Below.refl W1.heap.size W1)) (Below.mono hb5 (by simp <;> omega))) (by first | (have := hb5.size; simp at this ⊢; omega) | (simp <;> omega)) _)) (fun _ => ?_)
          clear hK K
          try simp only [Act.put, List.setIfInBounds_toArray, List.set_cons_zero, List.set_cons_succ]
          refine g_all (rs := [15]) (by kernel_rfl) (by simp) (fun i hi => ?_)
          simp only [List.mem_cons, List.not_mem_nil, or_false] at hi
          subst hi
          · refine ⟨_, by rfl, fun K hK => ?_⟩
            go_simp
            refine hK.out _ _ (fun _ => hcells _ (Below.alloc (Below.alloc (Below.trans (below_drew (Below.refl W1.heap.size W1)) (Below.mono hb5 (by simp <;> omega))) (by first | (have := hb5.size; simp at this ⊢; omega) | (simp <;> omega)) _) (by first | (have := hb5.size; simp at this ⊢; omega) | (simp <;> omega)) _)) (fun _ => ?_)
            clear hK K
            try simp only [Act.put, List.setIfInBounds_toArray, List.set_cons_zero, List.set_cons_succ]
            have HT2 : Two W1 ((w5.alloc (.cells #[.slice none 0 0] 27)).alloc (.cells #[.int .i64 0, .string ⟨#[]⟩, .string ⟨#[]⟩, .slice none 0 0] 24)) (w5.heap.size + 1) (w5.heap.size) := by
              have h := twoB (w := W1) hb5
              exact h
            clear hb5
            generalize ((w5.alloc (.cells #[.slice none 0 0] 27)).alloc (.cells #[.int .i64 0, .string ⟨#[]⟩, .string ⟨#[]⟩, .slice none 0 0] 24)) = X at HT2 ⊢
            generalize w5.heap.size + 1 = nb at HT2 ⊢
            generalize w5.heap.size = rb at HT2 ⊢
            obtain ⟨hne, hn1, hr1, bn, br, hbx⟩ := HT2
            have f0 : X.frozen? ⟨nb, 0, none⟩ = false := bn.frozen 0
            have f1 : X.frozen? ⟨nb, 1, none⟩ = false := bn.frozen 1
            have f2 : X.frozen? ⟨nb, 2, none⟩ = false := bn.frozen 2
            have f3 : X.frozen? ⟨nb, 3, none⟩ = false := bn.frozen 3
            have d0 : X.cell? ⟨nb, 0, none⟩ = some (.int .i64 0) := bn.cell 0
            have d1 : X.cell? ⟨nb, 1, none⟩ = some (.string ⟨#[]⟩) := bn.cell 1
            have d2 : X.cell? ⟨nb, 2, none⟩ = some (.string ⟨#[]⟩) := bn.cell 2
            have d3 : X.cell? ⟨nb, 3, none⟩ = some (.slice none 0 0) := bn.cell 3
            have bl := bn.lt
            have rl := br.lt
            have hne' : rb ≠ nb := Ne.symm hne
            have hb17 : Below W1.heap.size W1 ((((X.setCell ⟨nb, 0, none⟩ (.int .i64 k)).setCell ⟨nb, 1, none⟩ (.string t)).setCell ⟨nb, 2, none⟩ (.string s)).setCell ⟨nb, 3, none⟩ (.slice none 0 0)) := (((hbx.setCell (p := ⟨nb, 0, none⟩) hn1 _).setCell (p := ⟨nb, 1, none⟩) hn1 _).setCell (p := ⟨nb, 2, none⟩) hn1 _).setCell (p := ⟨nb, 3, none⟩) hn1 _
            have bn17 : Blk ((((X.setCell ⟨nb, 0, none⟩ (.int .i64 k)).setCell ⟨nb, 1, none⟩ (.string t)).setCell ⟨nb, 2, none⟩ (.string s)).setCell ⟨nb, 3, none⟩ (.slice none 0 0)) nb 24 #[.int .i64 k, .string t, .string s, .slice none 0 0] := (((bn.set_ 0 (.int .i64 k)).set_ 1 (.string t)).set_ 2 (.string s)).set_ 3 (.slice none 0 0)
            have br17 : Blk ((((X.setCell ⟨nb, 0, none⟩ (.int .i64 k)).setCell ⟨nb, 1, none⟩ (.string t)).setCell ⟨nb, 2, none⟩ (.string s)).setCell ⟨nb, 3, none⟩ (.slice none 0 0)) rb 27 #[.slice none 0 0] := (((br.far (p := ⟨nb, 0, none⟩) hne' _).far (p := ⟨nb, 1, none⟩) hne' _).far (p := ⟨nb, 2, none⟩) hne' _).far (p := ⟨nb, 3, none⟩) hne' _
            refine g_one (i := 17) (by kernel_rfl) (by rfl) (fun K hK => ?_)
            go_simp
            refine hK.out _ _ (fun _ => hcells _ hb17) (fun _ => ?_)
            clear hK K f0 f1 f2 f3 d0 d1 d2 d3
            generalize ((((X.setCell ⟨nb, 0, none⟩ (.int .i64 k)).setCell ⟨nb, 1, none⟩ (.string t)).setCell ⟨nb, 2, none⟩ (.string s)).setCell ⟨nb, 3, none⟩ (.slice none 0 0)) = Y at *
            have fr : Y.frozen? ⟨rb, 0, none⟩ = false := br17.frozen 0
            have dr : Y.cell? ⟨rb, 0, none⟩ = some (.slice none 0 0) := br17.cell 0
            have rl7 := br17.lt
            refine g_one (i := 18) (by kernel_rfl) (by rfl) (fun K hK => ?_)
            try simp only [Act.put, List.getElem_toArray, List.getElem_cons_succ, List.getElem_cons_zero, List.setIfInBounds_toArray, List.set_cons_zero, List.set_cons_succ]
            go_simp
            refine hK.out _ _ (fun h => absurd (by decide) h) (fun _ => ?_)
            clear hK K
            refine g_done (by kernel_rfl) ⟨by first | rfl | trivial, by first | rfl | trivial, nb, rb, hne, hn1, hr1, bn17.far (p := ⟨rb, 0, none⟩) hne _, br17.set_ 0 (.slice (some (if c = 1 then ⟨b, o, none⟩ else ⟨b, o + 3, none⟩)) L (c - 1)), hb17.setCell (p := ⟨rb, 0, none⟩) hr1 _, rfl⟩ _
      · refine ⟨_, by rfl, fun K hK => ?_⟩
        go_simp
        refine hK.out _ _ (fun _ => hcells _ (Below.alloc (below_drew (Below.refl W1.heap.size W1)) (by first | (have := hb5.size; simp at this ⊢; omega) | (simp <;> omega)) _)) (fun _ => ?_)
        clear hK K
        try simp only [Act.put, List.setIfInBounds_toArray, List.set_cons_zero, List.set_cons_succ]
        refine g_all (rs := [12, 16]) (by kernel_rfl) (by simp) (fun i hi => ?_)
        simp only [List.mem_cons, List.not_mem_nil, or_false] at hi
        rcases hi with rfl | rfl
        · refine ⟨_, by rfl, fun K hK => ?_⟩
          go_simp
          refine (bare_any k t s _ hts hvs).mono ?_
          rintro e w5 ⟨rfl, hb5⟩
          refine hK.out _ _ (fun _ => hcells _ (Below.trans (Below.alloc (below_drew (Below.refl W1.heap.size W1)) (by first | (have := hb5.size; simp at this ⊢; omega) | (simp <;> omega)) _) (Below.mono hb5 (by simp <;> omega)))) (fun _ => ?_)
          clear hK K
          try simp only [Act.put, List.setIfInBounds_toArray, List.set_cons_zero, List.set_cons_succ]
          refine g_all (rs := [16]) (by kernel_rfl) (by simp) (fun i hi => ?_)
          simp only [List.mem_cons, List.not_mem_nil, or_false] at hi
          subst hi
          · refine ⟨_, by rfl, fun K hK => ?_⟩
            go_simp
            refine hK.out _ _ (fun _ => hcells _ (Below.alloc (Below.trans (Below.alloc (below_drew (Below.refl W1.heap.size W1)) (by first | (have := hb5.size; simp at this ⊢; omega) | (simp <;> omega)) _) (Below.mono hb5 (by simp <;> omega))) (by first | (have := hb5.size; simp at this ⊢; omega) | (simp <;> omega)) _)) (fun _ => ?_)
            clear hK K
            try simp only [Act.put, List.setIfInBounds_toArray, List.set_cons_zero, List.set_cons_succ]
            have HT2 : Two W1 (w5.alloc (.cells #[.slice none 0 0] 27)) (w.heap.size + 1) (w5.heap.size) := by
              have h := twoC (w := W1) hb5
              rw [hs1] at h
              exact h
            clear hb5
            generalize (w5.alloc (.cells #[.slice none 0 0] 27)) = X at HT2 ⊢
            generalize w.heap.size + 1 = nb at HT2 ⊢
            generalize w5.heap.size = rb at HT2 ⊢
            obtain ⟨hne, hn1, hr1, bn, br, hbx⟩ := HT2
            have f0 : X.frozen? ⟨nb, 0, none⟩ = false := bn.frozen 0
            have f1 : X.frozen? ⟨nb, 1, none⟩ = false := bn.frozen 1
            have f2 : X.frozen? ⟨nb, 2, none⟩ = false := bn.frozen 2
            have f3 : X.frozen? ⟨nb, 3, none⟩ = false := bn.frozen 3
            have d0 : X.cell? ⟨nb, 0, none⟩ = some (.int .i64 0) := bn.cell 0
            have d1 : X.cell? ⟨nb, 1, none⟩ = some (.string ⟨#[]⟩) := bn.cell 1
            have d2 : X.cell? ⟨nb, 2, none⟩ = some (.string ⟨#[]⟩) := bn.cell 2
            have d3 : X.cell? ⟨nb, 3, none⟩ = some (.slice none 0 0) := bn.cell 3
            have bl := bn.lt
            have rl := br.lt
            have hne' : rb ≠ nb := Ne.symm hne
            have hb17 : Below W1.heap.size W1 ((((X.setCell ⟨nb, 0, none⟩ (.int .i64 k)).setCell ⟨nb, 1, none⟩ (.string t)).setCell ⟨nb, 2, none⟩ (.string s)).setCell ⟨nb, 3, none⟩ (.slice none 0 0)) := (((hbx.setCell (p := ⟨nb, 0, none⟩) hn1 _).setCell (p := ⟨nb, 1, none⟩) hn1 _).setCell (p := ⟨nb, 2, none⟩) hn1 _).setCell (p := ⟨nb, 3, none⟩) hn1 _
            have bn17 : Blk ((((X.setCell ⟨nb, 0, none⟩ (.int .i64 k)).setCell ⟨nb, 1, none⟩ (.string t)).setCell ⟨nb, 2, none⟩ (.string s)).setCell ⟨nb, 3, none⟩ (.slice none 0 0)) nb 24 #[.int .i64 k, .string t, .string s, .slice none 0 0] := (((bn.set_ 0 (.int .i64 k)).set_ 1 (.string t)).set_ 2 (.string s)).set_ 3 (.slice none 0 0)
            have br17 : Blk ((((X.setCell ⟨nb, 0, none⟩ (.int .i64 k)).setCell ⟨nb, 1, none⟩ (.string t)).setCell ⟨nb, 2, none⟩ (.string s)).setCell ⟨nb, 3, none⟩ (.slice none 0 0)) rb 27 #[.slice none 0 0] := (((br.far (p := ⟨nb, 0, none⟩) hne' _).far (p := ⟨nb, 1, none⟩) hne' _).far (p := ⟨nb, 2, none⟩) hne' _).far (p := ⟨nb, 3, none⟩) hne' _
            refine g_one (i := 17) (by kernel_rfl) (by rfl) (fun K hK => ?_)
            go_simp
            refine hK.out _ _ (fun _ => hcells _ hb17) (fun _ => ?_)
            clear hK K f0 f1 f2 f3 d0 d1 d2 d3
            generalize ((((X.setCell ⟨nb, 0, none⟩ (.int .i64 k)).setCell ⟨nb, 1, none⟩ (.string t)).setCell ⟨nb, 2, none⟩ (.string s)).setCell ⟨nb, 3, none⟩ (.slice none 0 0)) = Y at *
            have fr : Y.frozen? ⟨rb, 0, none⟩ = false := br17.frozen 0
            have dr : Y.cell? ⟨rb, 0, none⟩ = some (.slice none 0 0) := br17.cell 0
            have rl7 := br17.lt
            refine g_one (i := 18) (by kernel_rfl) (by rfl) (fun K hK => ?_)
            try simp only [Act.put, List.getElem_toArray, List.getElem_cons_succ, List.getElem_cons_zero, List.setIfInBounds_toArray, List.set_cons_zero, List.set_cons_succ]
            go_simp
            refine hK.out _ _ (fun h => absurd (by decide) h) (fun _ => ?_)
            clear hK K
            refine g_done (by kernel_rfl) ⟨by first | rfl | trivial, by first | rfl | trivial, nb, rb, hne, hn1, hr1, bn17.far (p := ⟨rb, 0, none⟩) hne _, br17.set_ 0 (.slice (some (if c = 1 then ⟨b, o, none⟩ else ⟨b, o + 3, none⟩)) L (c - 1)), hb17.setCell (p := ⟨rb, 0, none⟩) hr1 _, rfl⟩ _
        · refine ⟨_, by rfl, fun K hK => ?_⟩
          go_simp
          refine hK.out _ _ (fun _ => hcells _ (Below.alloc (Below.alloc (below_drew (Below.refl W1.heap.size W1)) (by first | (have := hb5.size; simp at this ⊢; omega) | (simp <;> omega)) _) (by first | (have := hb5.size; simp at this ⊢; omega) | (simp <;> omega)) _)) (fun _ => ?_)
          clear hK K
          try simp only [Act.put, List.setIfInBounds_toArray, List.set_cons_zero, List.set_cons_succ]
          refine g_all (rs := [12]) (by kernel_rfl) (by simp) (fun i hi => ?_)
          simp only [List.mem_cons, List.not_mem_nil, or_false] at hi
          subst hi
          · refine ⟨_, by rfl, fun K hK => ?_⟩
            go_simp
            refine (bare_any k t s _ hts hvs).mono ?_
            rintro e w5 ⟨rfl, hb5⟩
            refine hK.out _ _ (fun _ => hcells _ (Below.trans (Below.alloc (Below.alloc (below_drew (Below.refl W1.heap.size W1)) (by first | (have := hb5.size; simp at this ⊢; omega) | (simp <;> omega)) _) (by first | (have := hb5.size; simp at this ⊢; omega) | (simp <;> omega)) _) (Below.mono hb5 (by simp <;> omega)))) (fun _ => ?_)
            clear hK K
            try simp only [Act.put, List.setIfInBounds_toArray, List.set_cons_zero, List.set_cons_succ]
            have HT2 : Two W1 w5 (w.heap.size + 1) (w.heap.size + 1 + 1) := by
              have h := twoD (w := W1) hb5
              rw [hs1] at h
              exact h
            clear hb5
            generalize w5 = X at HT2 ⊢
            generalize w.heap.size + 1 + 1 = rb at HT2 ⊢
            generalize w.heap.size + 1 = nb at HT2 ⊢
            obtain ⟨hne, hn1, hr1, bn, br, hbx⟩ := HT2
            have f0 : X.frozen? ⟨nb, 0, none⟩ = false := bn.frozen 0
            have f1 : X.frozen? ⟨nb, 1, none⟩ = false := bn.frozen 1
            have f2 : X.frozen? ⟨nb, 2, none⟩ = false := bn.frozen 2
            have f3 : X.frozen? ⟨nb, 3, none⟩ = false := bn.frozen 3
            have d0 : X.cell? ⟨nb, 0, none⟩ = some (.int .i64 0) := bn.cell 0
            have d1 : X.cell? ⟨nb, 1, none⟩ = some (.string ⟨#[]⟩) := bn.cell 1
            have d2 : X.cell? ⟨nb, 2, none⟩ = some (.string ⟨#[]⟩) := bn.cell 2
            have d3 : X.cell? ⟨nb, 3, none⟩ = some (.slice none 0 0) := bn.cell 3
            have bl := bn.lt
            have rl := br.lt
            have hne' : rb ≠ nb := Ne.symm hne
            have hb17 : Below W1.heap.size W1 ((((X.setCell ⟨nb, 0, none⟩ (.int .i64 k)).setCell ⟨nb, 1, none⟩ (.string t)).setCell ⟨nb, 2, none⟩ (.string s)).setCell ⟨nb, 3, none⟩ (.slice none 0 0)) := (((hbx.setCell (p := ⟨nb, 0, none⟩) hn1 _).setCell (p := ⟨nb, 1, none⟩) hn1 _).setCell (p := ⟨nb, 2, none⟩) hn1 _).setCell (p := ⟨nb, 3, none⟩) hn1 _
            have bn17 : Blk ((((X.setCell ⟨nb, 0, none⟩ (.int .i64 k)).setCell ⟨nb, 1, none⟩ (.string t)).setCell ⟨nb, 2, none⟩ (.string s)).setCell ⟨nb, 3, none⟩ (.slice none 0 0)) nb 24 #[.int .i64 k, .string t, .string s, .slice none 0 0] := (((bn.set_ 0 (.int .i64 k)).set_ 1 (.string t)).set_ 2 (.string s)).set_ 3 (.slice none 0 0)
            have br17 : Blk ((((X.setCell ⟨nb, 0, none⟩ (.int .i64 k)).setCell ⟨nb, 1, none⟩ (.string t)).setCell ⟨nb, 2, none⟩ (.string s)).setCell ⟨nb, 3, none⟩ (.slice none 0 0)) rb 27 #[.slice none 0 0] := (((br.far (p := ⟨nb, 0, none⟩) hne' _).far (p := ⟨nb, 1, none⟩) hne' _).far (p := ⟨nb, 2, none⟩) hne' _).far (p := ⟨nb, 3, none⟩) hne' _
            refine g_one (i := 17) (by kernel_rfl) (by rfl) (fun K hK => ?_)
            go_simp
            refine hK.out _ _ (fun _ => hcells _ hb17) (fun _ => ?_)
            clear hK K f0 f1 f2 f3 d0 d1 d2 d3
            generalize ((((X.setCell ⟨nb, 0, none⟩ (.int .i64 k)).setCell ⟨nb, 1, none⟩ (.string t)).setCell ⟨nb, 2, none⟩ (.string s)).setCell ⟨nb, 3, none⟩ (.slice none 0 0)) = Y at *
            have fr : Y.frozen? ⟨rb, 0, none⟩ = false := br17.frozen 0
            have dr : Y.cell? ⟨rb, 0, none⟩ = some (.slice none 0 0) := br17.cell 0
            have rl7 := br17.lt
            refine g_one (i := 18) (by kernel_rfl) (by rfl) (fun K hK => ?_)
            try simp only [Act.put, List.getElem_toArray, List.getElem_cons_succ, List.getElem_cons_zero, List.setIfInBounds_toArray, List.set_cons_zero, List.set_cons_succ]
            go_simp
            refine hK.out _ _ (fun h => absurd (by decide) h) (fun _ => ?_)
            clear hK K
            refine g_done (by kernel_rfl) ⟨by first | rfl | trivial, by first | rfl | trivial, nb, rb, hne, hn1, hr1, bn17.far (p := ⟨rb, 0, none⟩) hne _, br17.set_ 0 (.slice (some (if c = 1 then ⟨b, o, none⟩ else ⟨b, o + 3, none⟩)) L (c - 1)), hb17.setCell (p := ⟨rb, 0, none⟩) hr1 _, rfl⟩ _
      · refine ⟨_, by rfl, fun K hK => ?_⟩
        go_simp
        refine hK.out _ _ (fun _ => hcells _ (Below.alloc (below_drew (Below.refl W1.heap.size W1)) (by first | (have := hb5.size; simp at this ⊢; omega) | (simp <;> omega)) _)) (fun _ => ?_)
        clear hK K
        try simp only [Act.put, List.setIfInBounds_toArray, List.set_cons_zero, List.set_cons_succ]
        refine g_all (rs := [12, 15]) (by kernel_rfl) (by simp) (fun i hi => ?_)
        simp only [List.mem_cons, List.not_mem_nil, or_false] at hi
        rcases hi with rfl | rfl
        · refine ⟨_, by rfl, fun K hK => ?_⟩
          go_simp
          refine (bare_any k t s _ hts hvs).mono ?_
          rintro e w5 ⟨rfl, hb5⟩
          refine hK.out _ _ (fun _ => hcells _ (Below.trans (Below.alloc (below_drew (Below.refl W1.heap.size W1)) (by first | (have := hb5.size; simp at this ⊢; omega) | (simp <;> omega)) _) (Below.mono hb5 (by simp <;> omega)))) (fun _ => ?_)
          clear hK K
          try simp only [Act.put, List.setIfInBounds_toArray, List.set_cons_zero, List.set_cons_succ]
          refine g_all (rs := [15]) (by kernel_rfl) (by simp) (fun i hi => ?_)
          simp only [List.mem_cons, List.not_mem_nil, or_false] at hi
          subst hi
          · refine ⟨_, by rfl, fun K hK => ?_⟩
            go_simp
            refine hK.out _ _ (fun _ => hcells _ (Below.alloc (Below.trans (Below.alloc (below_drew (Below.refl W1.heap.size W1)) (by first | (have := hb5.size; simp at this ⊢; omega) | (simp <;> omega)) _) (Below.mono hb5 (by simp <;> omega))) (by first | (have := hb5.size; simp at this ⊢; omega) | (simp <;> omega)) _)) (fun _ => ?_)
            clear hK K
            try simp only [Act.put, List.setIfInBounds_toArray, List.set_cons_zero, List.set_cons_succ]
            have HT2 : Two W1 (w5.alloc (.cells #[.int .i64 0, .string ⟨#[]⟩, .string ⟨#[]⟩, .slice none 0 0] 24)) (w5.heap.size) (w.heap.size + 1) := by
              have h := twoE (w := W1) hb5
              rw [hs1] at h
              exact h
            clear hb5
            generalize (w5.alloc (.cells #[.int .i64 0, .string ⟨#[]⟩, .string ⟨#[]⟩, .slice none 0 0] 24)) = X at HT2 ⊢
            generalize w.heap.size + 1 = rb at HT2 ⊢
            generalize w5.heap.size = nb at HT2 ⊢
            obtain ⟨hne, hn1, hr1, bn, br, hbx⟩ := HT2
            have f0 : X.frozen? ⟨nb, 0, none⟩ = false := bn.frozen 0
            have f1 : X.frozen? ⟨nb, 1, none⟩ = false := bn.frozen 1
            have f2 : X.frozen? ⟨nb, 2, none⟩ = false := bn.frozen 2
            have f3 : X.frozen? ⟨nb, 3, none⟩ = false := bn.frozen 3
            have d0 : X.cell? ⟨nb, 0, none⟩ = some (.int .i64 0) := bn.cell 0
            have d1 : X.cell? ⟨nb, 1, none⟩ = some (.string ⟨#[]⟩) := bn.cell 1
            have d2 : X.cell? ⟨nb, 2, none⟩ = some (.string ⟨#[]⟩) := bn.cell 2
            have d3 : X.cell? ⟨nb, 3, none⟩ = some (.slice none 0 0) := bn.cell 3
            have bl := bn.lt
            have rl := br.lt
            have hne' : rb ≠ nb := Ne.symm hne
            have hb17 : Below W1.heap.size W1 ((((X.setCell ⟨nb, 0, none⟩ (.int .i64 k)).setCell ⟨nb, 1, none⟩ (.string t)).setCell ⟨nb, 2, none⟩ (.string s)).setCell ⟨nb, 3, none⟩ (.slice none 0 0)) := (((hbx.setCell (p := ⟨nb, 0, none⟩) hn1 _).setCell (p := ⟨nb, 1, none⟩) hn1 _).setCell (p := ⟨nb, 2, none⟩) hn1 _).setCell (p := ⟨nb, 3, none⟩) hn1 _
            have bn17 : Blk ((((X.setCell ⟨nb, 0, none⟩ (.int .i64 k)).setCell ⟨nb, 1, none⟩ (.string t)).setCell ⟨nb, 2, none⟩ (.string s)).setCell ⟨nb, 3, none⟩ (.slice none 0 0)) nb 24 #[.int .i64 k, .string t, .string s, .slice none 0 0] := (((bn.set_ 0 (.int .i64 k)).set_ 1 (.string t)).set_ 2 (.string s)).set_ 3 (.slice none 0 0)
            have br17 : Blk ((((X.setCell ⟨nb, 0, none⟩ (.int .i64 k)).setCell ⟨nb, 1, none⟩ (.string t)).setCell ⟨nb, 2, none⟩ (.string s)).setCell ⟨nb, 3, none⟩ (.slice none 0 0)) rb 27 #[.slice none 0 0] := (((br.far (p := ⟨nb, 0, none⟩) hne' _).far (p := ⟨nb, 1, none⟩) hne' _).far (p := ⟨nb, 2, none⟩) hne' _).far (p := ⟨nb, 3, none⟩) hne' _
            refine g_one (i := 17) (by kernel_rfl) (by rfl) (fun K hK => ?_)
            go_simp
            refine hK.out _ _ (fun _ => hcells _ hb17) (fun _ => ?_)
            clear hK K f0 f1 f2 f3 d0 d1 d2 d3
            generalize ((((X.setCell ⟨nb, 0, none⟩ (.int .i64 k)).setCell ⟨nb, 1, none⟩ (.string t)).setCell ⟨nb, 2, none⟩ (.string s)).setCell ⟨nb, 3, none⟩ (.slice none 0 0)) = Y at *
            have fr : Y.frozen? ⟨rb, 0, none⟩ = false := br17.frozen 0
            have dr : Y.cell? ⟨rb, 0, none⟩ = some (.slice none 0 0) := br17.cell 0
            have rl7 := br17.lt
            refine g_one (i := 18) (by kernel_rfl) (by rfl) (fun K hK => ?_)
            try simp only [Act.put, List.getElem_toArray, List.getElem_cons_succ, List.getElem_cons_zero, List.setIfInBounds_toArray, List.set_cons_zero, List.set_cons_succ]
            go_simp
            refine hK.out _ _ (fun h => absurd (by decide) h) (fun _ => ?_)
            clear hK K
            refine g_done (by kernel_rfl) ⟨by first | rfl | trivial, by first | rfl | trivial, nb, rb, hne, hn1, hr1, bn17.far (p := ⟨rb, 0, none⟩) hne _, br17.set_ 0 (.slice (some (if c = 1 then ⟨b, o, none⟩ else ⟨b, o + 3, none⟩)) L (c - 1)), hb17.setCell (p := ⟨rb, 0, none⟩) hr1 _, rfl⟩ _
        · refine ⟨_, by rfl, fun K hK => ?_⟩
          go_simp
          refine hK.out _ _ (fun _ => hcells _ (Below.alloc (Below.alloc (below_drew (Below.refl W1.heap.size W1)) (by first | (have := hb5.size; simp at this ⊢; omega) | (simp <;> omega)) _) (by first | (have := hb5.size; simp at this ⊢; omega) | (simp <;> omega)) _)) (fun _ => ?_)
          clear hK K
          try simp only [Act.put, List.setIfInBounds_toArray, List.set_cons_zero, List.set_cons_succ]
          refine g_all (rs := [12]) (by kernel_rfl) (by simp) (fun i hi => ?_)
          simp only [List.mem_cons, List.not_mem_nil, or_false] at hi
          subst hi
          · refine ⟨_, by rfl, fun K hK => ?_⟩
            go_simp
            refine (bare_any k t s _ hts hvs).mono ?_
            rintro e w5 ⟨rfl, hb5⟩
            refine hK.out _ _ (fun _ => hcells _ (Below.trans (Below.alloc (Below.alloc (below_drew (Below.refl W1.heap.size W1)) (by first | (have := hb5.size; simp at this ⊢; omega) | (simp <;> omega)) _) (by first | (have := hb5.size; simp at this ⊢; omega) | (simp <;> omega)) _) (Below.mono hb5 (by simp <;> omega)))) (fun _ => ?_)
            clear hK K
            try simp only [Act.put, List.setIfInBounds_toArray, List.set_cons_zero, List.set_cons_succ]
            have HT2 : Two W1 w5 (w.heap.size + 1 + 1) (w.heap.size + 1) := by
              have h := twoF (w := W1) hb5
              rw [hs1] at h
              exact h
            clear hb5
            generalize w5 = X at HT2 ⊢
            generalize w.heap.size + 1 + 1 = nb at HT2 ⊢
            generalize w.heap.size + 1 = rb at HT2 ⊢
            obtain ⟨hne, hn1, hr1, bn, br, hbx⟩ := HT2
            have f0 : X.frozen? ⟨nb, 0, none⟩ = false := bn.frozen 0
            have f1 : X.frozen? ⟨nb, 1, none⟩ = false := bn.frozen 1
            have f2 : X.frozen? ⟨nb, 2, none⟩ = false := bn.frozen 2
            have f3 : X.frozen? ⟨nb, 3, none⟩ = false := bn.frozen 3
            have d0 : X.cell? ⟨nb, 0, none⟩ = some (.int .i64 0) := bn.cell 0
            have d1 : X.cell? ⟨nb, 1, none⟩ = some (.string ⟨#[]⟩) := bn.cell 1
            have d2 : X.cell? ⟨nb, 2, none⟩ = some (.string ⟨#[]⟩) := bn.cell 2
            have d3 : X.cell? ⟨nb, 3, none⟩ = some (.slice none 0 0) := bn.cell 3
            have bl := bn.lt
            have rl := br.lt
            have hne' : rb ≠ nb := Ne.symm hne
            have hb17 : Below W1.heap.size W1 ((((X.setCell ⟨nb, 0, none⟩ (.int .i64 k)).setCell ⟨nb, 1, none⟩ (.string t)).setCell ⟨nb, 2, none⟩ (.string s)).setCell ⟨nb, 3, none⟩ (.slice none 0 0)) := (((hbx.setCell (p := ⟨nb, 0, none⟩) hn1 _).setCell (p := ⟨nb, 1, none⟩) hn1 _).setCell (p := ⟨nb, 2, none⟩) hn1 _).setCell (p := ⟨nb, 3, none⟩) hn1 _
            have bn17 : Blk ((((X.setCell ⟨nb, 0, none⟩ (.int .i64 k)).setCell ⟨nb, 1, none⟩ (.string t)).setCell ⟨nb, 2, none⟩ (.string s)).setCell ⟨nb, 3, none⟩ (.slice none 0 0)) nb 24 #[.int .i64 k, .string t, .string s, .slice none 0 0] := (((bn.set_ 0 (.int .i64 k)).set_ 1 (.string t)).set_ 2 (.string s)).set_ 3 (.slice none 0 0)
            have br17 : Blk ((((X.setCell ⟨nb, 0, none⟩ (.int .i64 k)).setCell ⟨nb, 1, none⟩ (.string t)).setCell ⟨nb, 2, none⟩ (.string s)).setCell ⟨nb, 3, none⟩ (.slice none 0 0)) rb 27 #[.slice none 0 0] := (((br.far (p := ⟨nb, 0, none⟩) hne' _).far (p := ⟨nb, 1, none⟩) hne' _).far (p := ⟨nb, 2, none⟩) hne' _).far (p := ⟨nb, 3, none⟩) hne' _
            refine g_one (i := 17) (by kernel_rfl) (by rfl) (fun K hK => ?_)
            go_simp
            refine hK.out _ _ (fun _ => hcells _ hb17) (fun _ => ?_)
            clear hK K f0 f1 f2 f3 d0 d1 d2 d3
            generalize ((((X.setCell ⟨nb, 0, none⟩ (.int .i64 k)).setCell ⟨nb, 1, none⟩ (.string t)).setCell ⟨nb, 2, none⟩ (.string s)).setCell ⟨nb, 3, none⟩ (.slice none 0 0)) = Y at *
            have fr : Y.frozen? ⟨rb, 0, none⟩ = false := br17.frozen 0
            have dr : Y.cell? ⟨rb, 0, none⟩ = some (.slice none 0 0) := br17.cell 0
            have rl7 := br17.lt
            refine g_one (i := 18) (by kernel_rfl) (by rfl) (fun K hK => ?_)
            try simp only [Act.put, List.getElem_toArray, List.getElem_cons_succ, List.getElem_cons_zero, List.setIfInBounds_toArray, List.set_cons_zero, List.set_cons_succ]
            go_simp
            refine hK.out _ _ (fun h => absurd (by decide) h) (fun _ => ?_)
            clear hK K
            refine g_done (by kernel_rfl) ⟨by first | rfl | trivial, by first | rfl | trivial, nb, rb, hne, hn1, hr1, bn17.far (p := ⟨rb, 0, none⟩) hne _, br17.set_ 0 (.slice (some (if c = 1 then ⟨b, o, none⟩ else ⟨b, o + 3, none⟩)) L (c - 1)), hb17.setCell (p := ⟨rb, 0, none⟩) hr1 _, rfl⟩ _
    · rintro e a' W' ⟨rfl, nb, rb, hne, hn1, hr1, bn, br, hb, rfl⟩
      have HE0 : ELow B W' (.slice (some (if c = 1 then ⟨b, o, none⟩ else ⟨b, o + 3, none⟩)) L (c - 1)) (flatL kids ++ endL k ++ rest) := HT.out.hold (fun i hi => (hb.block i (by omega)).trans (hal.block i (by omega)))
      have HW0 : Below w.heap.size w W' := hal.trans (hb.mono (by omega))
      generalize (if c = 1 then (⟨b, o, none⟩ : Addr) else ⟨b, o + 3, none⟩) = Aa at *
      generalize c - 1 = Cc at *
      have gn0 : W'.cell? ⟨nb, 0, none⟩ = some (.int .i64 k) := bn.cell 0
      have hkl : kids.length ≤ 100000 := by have := hn; simp only [sizeN] at this; have := sizeL_len kids; omega
      have hm1 := bn.lt
      have hm2 := br.lt
      clear hcells p0 p1 p2 q0 q1 q2 HT hLi hLj hlc hcm hcm2 hbl
      go_wp2_with fail
      refine (endOf_any k W').mono ?_
      rintro e w6 ⟨rfl, rfl⟩
      rcases shape_kids hsh.1 with ho | ⟨ho, hl, h0, h8⟩ | ⟨ho, h8, h1⟩
      · have h8' : (k == 8) = false := ibeq (fun e => by rw [e] at ho; exact absurd ho (by decide))
        obtain ⟨hek, hen⟩ := (endI_opens k).1 ho
        have heE := ends_endI ho
        have hEK : endL k = [endE (endI k)] := by unfold endL; rw [ho, hek]; rfl
        rw [hEK] at HE0
        simp only [List.append_assoc, List.singleton_append] at HE0
        have hel : (flatL kids ++ endE (endI k) :: rest).length = L := by have := HLN.out; rw [hEK] at this; simpa using this
        clear HLN hEK hek gn0
        have HSH := Lib.hid hsh.2
        have hnz : sizeL kids ≤ 100000 := by have := hn; simp only [sizeN] at this; omega
        generalize endI k = ek at *
        have b1 : (ek == 0) = false := ibeq hen
        have b2 : (ek != 0) = true := by simp [hen]
        obtain ⟨m, hm⟩ : ∃ m, m = w6.heap.size := ⟨_, rfl⟩
        have hwm : w.heap.size + 1 ≤ m := by have := hm1; omega
        have hrm : rb < m := by omega
        have hnm : nb < m := by omega
        have gn0 : w6.cell? ⟨nb, 0, none⟩ = some (.int .i64 k) := bn.cell 0
        have ST := Lib.hid (show LoopAt W1 w6 B m rb nb k ek t s kids rest none (some Aa) 0 Cc L [] from ⟨Nat.zero_le _, rfl, NRow.nil _ _, by simpa using HE0, by simpa using hel, hb, by omega⟩)
        have HBN := Lib.hid bn
        have HBR := Lib.hid br
        have HW9 := Lib.hid HW0
        have HEE := Lib.hid heE
        have HNZ := Lib.hid hnz
        have HKS := Lib.hid hks
        have HIH := Lib.hid ih
        clear HE0 hel hb bn br HW0 hm hm1 hm2 heE hsh hn hnz hks ih hts hvs
        go_wp2
        go_loopw [] (fun wr => ∃ (A1 A2 : Option Addr) (c1 c2 L2 : Nat) (ks : List KV), Hid (LoopAt W1 wr B m rb nb k ek t s kids rest A1 A2 c1 c2 L2 ks) ∧ Blk wr nb 24 #[.int .i64 k, .string t, .string s, .slice A1 ks.length c1] ∧ Blk wr rb 27 #[.slice A2 L2 c2]) (fun wr => lenA rb wr)
        case atStart => exact ⟨none, some Aa, 0, Cc, L, [], ST, HBN.out, HBR.out⟩
        case round =>
          obtain ⟨A1, A2, c1, c2, L2, ks, HL, bN, bR⟩ := hrel
          have r0 : wr.cell? ⟨rb, 0, none⟩ = some (.slice A2 L2 c2) := bR.cell 0
          by_cases hlt : ks.length < kids.length
          case pos =>
            obtain ⟨b2, o2, kx, x, rfl, hL0, q0, hkx, hx, _, hE, hll, htk⟩ := HL.out.head HSH.out HEE.out hlt
            have hxn : sizeN x ≤ 100000 := Nat.le_trans (sizeL_in hx) HNZ.out
            have hsl := sizeL_len kids
            have HTK := Lib.hid (take_any B x (HIH.out x hx (shapedL_in HSH.out hx)) (flatL (kids.drop (ks.length + 1)) ++ endE ek :: rest) k t s ks wr W1.heap.size m rb nb A1 c1 _ hr1 hn1 hrm hnm (Ne.symm hne) HL.out.m (HKS.out x hx) hxn (by have := HNZ.out; omega) hE bR bN HL.out.row (by omega))
            have hL1 : (0 : Int) < (L2 : Int) := by omega
            have k1 : (kx == ek) = false := ibeq hkx
            have k2 : (kx != ek) = true := by simp [hkx]
            have HLL := Lib.hid hll
            have HTT := Lib.hid htk
            have HLA := Lib.hid (lenA_of r0)
            obtain ⟨L4, hL4⟩ : ∃ L4, (flatL (kids.drop (ks.length + 1)) ++ endE ek :: rest).length = L4 := ⟨_, rfl⟩
            rw [hL4] at HTK HLL
            have HL4 := Lib.hid hL4
            clear hE hll htk hsl hxn hL4 bN bR
            go_wp2_with fail
            refine HTK.out.mono ?_
            rintro e w7 ⟨⟨u, rfl⟩, A3, c3, A4, c4, q, hq, bR7, HE7, bN7, HN7, hb7⟩
            have HHE := Lib.hid HE7
            have HHN := Lib.hid HN7
            have HHB := Lib.hid hb7
            have HBR7 := Lib.hid bR7
            have HBN7 := Lib.hid bN7
            clear HE7 HN7 hb7 bR7 bN7 HTK
            go_wp2
            go_roundw
            case rel => exact ⟨A3, A4, c3, c4, L4, ks ++ [q], Lib.hid ⟨by simp; omega, by rw [List.map_append, HL.out.map, List.length_append, List.length_singleton, HTT.out, List.map_singleton, hq], by rw [List.length_append, List.length_singleton]; exact HHN.out, by rw [List.length_append, List.length_singleton]; exact HHE.out, by rw [show (ks ++ [q]).length = ks.length + 1 by simp]; exact HL4.out, HL.out.below.trans HHB.out, HHN.out.mle (by simp)⟩, by rw [List.length_append, List.length_singleton]; exact HBN7.out, HBR7.out⟩
            case measure => rw [HLA.out, lenA_of (HBR7.out.cell 0)]; exact HLL.out
          case neg =>
            obtain ⟨hmap, b2, o2, rfl, rfl, hc, hcm, q0, hT⟩ := HL.out.last hlt
            have HMAP := Lib.hid hmap
            have HNR9 := Lib.hid HL.out.row
            have hHB := HL.out.below
            have HBL := Lib.hid hHB
            have hmw := HL.out.m
            have fr : wr.frozen? ⟨rb, 0, none⟩ = false := bR.frozen 0
            have rl := bR.lt
            have hL1 : (0 : Int) < (rest.length : Int) + 1 := by omega
            have hLi : ¬ ((rest.length : Int) + 1 < 1) := by omega
            by_cases hc2 : c2 = 1
            case pos =>
              rw [if_pos hc2] at hT
              subst hc2
              clear hc
              have HTL := Lib.hid (show ELow B wr (.slice (some ⟨b2, o2, none⟩) rest.length 0) rest from hT)
              clear hT hmap hHB
              go_wp2
              obtain ⟨WW, hWW⟩ : ∃ WW, wr.setCell ⟨rb, 0, none⟩ (.slice (some ⟨b2, o2, none⟩) rest.length 0) = WW := ⟨_, rfl⟩
              have hoff : ∀ i, i ≠ rb → WW.heap[i]? = wr.heap[i]? := fun i hi => by rw [← hWW]; exact Below.heap_setCell _ ⟨rb, 0, none⟩ _ i hi
              have HE9 := Lib.hid (show ELow B WW (.slice (some ⟨b2, o2, none⟩) rest.length 0) rest from HTL.out.hold fun i hi => hoff i (by omega))
              have HW9 := Lib.hid (show Below w.heap.size w WW by rw [← hWW]; exact (hal.trans (HBL.out.mono (by omega))).setCell (p := ⟨rb, 0, none⟩) (by simp; omega) _)
              have hbW : Below W1.heap.size W1 WW := by rw [← hWW]; exact HBL.out.setCell (p := ⟨rb, 0, none⟩) hr1 _
              have HNR := Lib.hid (show NRow WW m (.slice A1 ks.length c1) ks by rw [← hWW]; exact HNR9.out.set (p := ⟨rb, 0, none⟩) hrm _)
              have bN9 : Blk WW nb 24 #[.int .i64 k, .string t, .string s, .slice A1 ks.length c1] := by rw [← hWW]; exact bN.far (p := ⟨rb, 0, none⟩) hne _
              have bR9 : Blk WW rb 27 #[.slice (some ⟨b2, o2, none⟩) rest.length 0] := by rw [← hWW]; exact bR.set_ 0 (.slice (some ⟨b2, o2, none⟩) rest.length 0)
              rw [hWW]
              clear hWW hoff HTL fr r0 q0 hlt gn0 bN bR rl ST HBN HBR HEE HNZ HKS HIH HSH
              have bN := bN9
              have bR := bR9
              clear bN9 bR9
              have hz := hres.below hbW hres.lt
              have z0 : WW.frozen? ⟨w.heap.size, 0, none⟩ = false := hz.frozen 0
              have z1 : WW.frozen? ⟨w.heap.size, 1, none⟩ = false := hz.frozen 1
              have z2 : WW.frozen? ⟨w.heap.size, 2, none⟩ = false := hz.frozen 2
              have z3 : WW.frozen? ⟨w.heap.size, 3, none⟩ = false := hz.frozen 3
              have y0 : WW.cell? ⟨w.heap.size, 0, none⟩ = some (.int .i64 0) := hz.cell 0
              have y1 : WW.cell? ⟨w.heap.size, 1, none⟩ = some (.string ⟨#[]⟩) := hz.cell 1
              have y2 : WW.cell? ⟨w.heap.size, 2, none⟩ = some (.string ⟨#[]⟩) := hz.cell 2
              have y3 : WW.cell? ⟨w.heap.size, 3, none⟩ = some (.slice none 0 0) := hz.cell 3
              have n0 : WW.cell? ⟨nb, 0, none⟩ = some (.int .i64 k) := bN.cell 0
              have n1 : WW.cell? ⟨nb, 1, none⟩ = some (.string t) := bN.cell 1
              have n2 : WW.cell? ⟨nb, 2, none⟩ = some (.string s) := bN.cell 2
              have n3 : WW.cell? ⟨nb, 3, none⟩ = some (.slice A1 ks.length c1) := bN.cell 3
              have r0 : WW.cell? ⟨rb, 0, none⟩ = some (.slice (some ⟨b2, o2, none⟩) rest.length 0) := bR.cell 0
              have q1 : nb ≠ w.heap.size := by omega
              have q2 : rb ≠ w.heap.size := by omega
              have zl := hz.lt
              have PO := Lib.hid (fun u0 u1 u2 u3 => bpost_of (k := k) (t := t) (s := s) (HNR.out.below (below_dr WW)) HMAP.out (HE9.out.below (below_dr WW) (by have := HW9.out.size; omega)) (HW9.out.trans ((below_dr WW).mono HW9.out.size)) (by omega : w.heap.size < m) hB u0 u1 u2 u3)
              have HZ := Lib.hid hz
              clear hz hres
              go_region
              go_wp2
              have PO2 := PO.out (.int .i64 k) (.string t) (.string s) (.slice A1 ks.length c1)
              have hz2 := (((HZ.out.set_ 0 (.int .i64 k)).set_ 1 (.string t)).set_ 2 (.string s)).set_ 3 (.slice A1 ks.length c1)
              obtain ⟨WE, hWE⟩ : ∃ WE, ((((WW.setCell ⟨w.heap.size, 0, none⟩ (.int .i64 k)).setCell ⟨w.heap.size, 1, none⟩ (.string t)).setCell ⟨w.heap.size, 2, none⟩ (.string s)).setCell ⟨w.heap.size, 3, none⟩ (.slice A1 ks.length c1)).drew = WE := ⟨_, rfl⟩
              have g0 : WE.cell? ⟨w.heap.size, 0, none⟩ = some (.int .i64 k) := by rw [← hWE]; exact hz2.cell 0
              have g1 : WE.cell? ⟨w.heap.size, 1, none⟩ = some (.string t) := by rw [← hWE]; exact hz2.cell 1
              have g2 : WE.cell? ⟨w.heap.size, 2, none⟩ = some (.string s) := by rw [← hWE]; exact hz2.cell 2
              have g3 : WE.cell? ⟨w.heap.size, 3, none⟩ = some (.slice A1 ks.length c1) := by rw [← hWE]; exact hz2.cell 3
              rw [hWE]
              refine bodyPost_ret (v := .tuple #[.agg #[.int .i64 k, .string t, .string s, .slice A1 ks.length c1], .slice (some ⟨b2, o2, none⟩) rest.length 0]) ?_ rfl (by rw [← hWE]; exact PO2)
              simp [results, Tryz.f32, go_sem, g0, g1, g2, g3]
            case neg =>
              rw [if_neg hc2] at hT
              have HTL := Lib.hid (show ELow B wr (.slice (some ⟨b2, o2 + 3, none⟩) rest.length (c2 - 1)) rest from hT)
              clear hT hmap hHB
              go_wp2
              obtain ⟨WW, hWW⟩ : ∃ WW, wr.setCell ⟨rb, 0, none⟩ (.slice (some ⟨b2, o2 + 3, none⟩) rest.length (c2 - 1)) = WW := ⟨_, rfl⟩
              have hoff : ∀ i, i ≠ rb → WW.heap[i]? = wr.heap[i]? := fun i hi => by rw [← hWW]; exact Below.heap_setCell _ ⟨rb, 0, none⟩ _ i hi
              have HE9 := Lib.hid (show ELow B WW (.slice (some ⟨b2, o2 + 3, none⟩) rest.length (c2 - 1)) rest from HTL.out.hold fun i hi => hoff i (by omega))
              have HW9 := Lib.hid (show Below w.heap.size w WW by rw [← hWW]; exact (hal.trans (HBL.out.mono (by omega))).setCell (p := ⟨rb, 0, none⟩) (by simp; omega) _)
              have hbW : Below W1.heap.size W1 WW := by rw [← hWW]; exact HBL.out.setCell (p := ⟨rb, 0, none⟩) hr1 _
              have HNR := Lib.hid (show NRow WW m (.slice A1 ks.length c1) ks by rw [← hWW]; exact HNR9.out.set (p := ⟨rb, 0, none⟩) hrm _)
              have bN9 : Blk WW nb 24 #[.int .i64 k, .string t, .string s, .slice A1 ks.length c1] := by rw [← hWW]; exact bN.far (p := ⟨rb, 0, none⟩) hne _
              have bR9 : Blk WW rb 27 #[.slice (some ⟨b2, o2 + 3, none⟩) rest.length (c2 - 1)] := by rw [← hWW]; exact bR.set_ 0 (.slice (some ⟨b2, o2 + 3, none⟩) rest.length (c2 - 1))
              rw [hWW]
              clear hWW hoff HTL fr r0 q0 hlt gn0 bN bR rl ST HBN HBR HEE HNZ HKS HIH HSH
              have bN := bN9
              have bR := bR9
              clear bN9 bR9
              have hz := hres.below hbW hres.lt
              have z0 : WW.frozen? ⟨w.heap.size, 0, none⟩ = false := hz.frozen 0
              have z1 : WW.frozen? ⟨w.heap.size, 1, none⟩ = false := hz.frozen 1
              have z2 : WW.frozen? ⟨w.heap.size, 2, none⟩ = false := hz.frozen 2
              have z3 : WW.frozen? ⟨w.heap.size, 3, none⟩ = false := hz.frozen 3
              have y0 : WW.cell? ⟨w.heap.size, 0, none⟩ = some (.int .i64 0) := hz.cell 0
              have y1 : WW.cell? ⟨w.heap.size, 1, none⟩ = some (.string ⟨#[]⟩) := hz.cell 1
              have y2 : WW.cell? ⟨w.heap.size, 2, none⟩ = some (.string ⟨#[]⟩) := hz.cell 2
              have y3 : WW.cell? ⟨w.heap.size, 3, none⟩ = some (.slice none 0 0) := hz.cell 3
              have n0 : WW.cell? ⟨nb, 0, none⟩ = some (.int .i64 k) := bN.cell 0
              have n1 : WW.cell? ⟨nb, 1, none⟩ = some (.string t) := bN.cell 1
              have n2 : WW.cell? ⟨nb, 2, none⟩ = some (.string s) := bN.cell 2
              have n3 : WW.cell? ⟨nb, 3, none⟩ = some (.slice A1 ks.length c1) := bN.cell 3
              have r0 : WW.cell? ⟨rb, 0, none⟩ = some (.slice (some ⟨b2, o2 + 3, none⟩) rest.length (c2 - 1)) := bR.cell 0
              have q1 : nb ≠ w.heap.size := by omega
              have q2 : rb ≠ w.heap.size := by omega
              have zl := hz.lt
              have PO := Lib.hid (fun u0 u1 u2 u3 => bpost_of (k := k) (t := t) (s := s) (HNR.out.below (below_dr WW)) HMAP.out (HE9.out.below (below_dr WW) (by have := HW9.out.size; omega)) (HW9.out.trans ((below_dr WW).mono HW9.out.size)) (by omega : w.heap.size < m) hB u0 u1 u2 u3)
              have HZ := Lib.hid hz
              clear hz hres
              go_region
              go_wp2
              have PO2 := PO.out (.int .i64 k) (.string t) (.string s) (.slice A1 ks.length c1)
              have hz2 := (((HZ.out.set_ 0 (.int .i64 k)).set_ 1 (.string t)).set_ 2 (.string s)).set_ 3 (.slice A1 ks.length c1)
              obtain ⟨WE, hWE⟩ : ∃ WE, ((((WW.setCell ⟨w.heap.size, 0, none⟩ (.int .i64 k)).setCell ⟨w.heap.size, 1, none⟩ (.string t)).setCell ⟨w.heap.size, 2, none⟩ (.string s)).setCell ⟨w.heap.size, 3, none⟩ (.slice A1 ks.length c1)).drew = WE := ⟨_, rfl⟩
              have g0 : WE.cell? ⟨w.heap.size, 0, none⟩ = some (.int .i64 k) := by rw [← hWE]; exact hz2.cell 0
              have g1 : WE.cell? ⟨w.heap.size, 1, none⟩ = some (.string t) := by rw [← hWE]; exact hz2.cell 1
              have g2 : WE.cell? ⟨w.heap.size, 2, none⟩ = some (.string s) := by rw [← hWE]; exact hz2.cell 2
              have g3 : WE.cell? ⟨w.heap.size, 3, none⟩ = some (.slice A1 ks.length c1) := by rw [← hWE]; exact hz2.cell 3
              rw [hWE]
              refine bodyPost_ret (v := .tuple #[.agg #[.int .i64 k, .string t, .string s, .slice A1 ks.length c1], .slice (some ⟨b2, o2 + 3, none⟩) rest.length (c2 - 1)]) ?_ rfl (by rw [← hWE]; exact PO2)
              simp [results, Tryz.f32, go_sem, g0, g1, g2, g3]
      · obtain rfl : kids = [] := List.eq_nil_of_length_eq_zero h0
        rw [(endI_opens k).2 ho]
        have h8' := ibeq h8
        have hEL : endL k = [] := by unfold endL; rw [ho]; rfl
        rw [hEL] at HE0
        simp only [flatL, List.nil_append] at HE0
        have hLr : L = rest.length := by have := HLN.out; rw [hEL] at this; simpa [flatL] using this.symm
        subst hLr
        have HE9 := Lib.hid HE0
        have HW9 := Lib.hid HW0
        obtain ⟨ks, hks⟩ : ∃ ks : List KV, ks = [] := ⟨_, rfl⟩
        have HMAP := Lib.hid (show ks.map (·.n) = [] by rw [hks]; rfl)
        obtain ⟨m, hm⟩ : ∃ m, m = w6.heap.size := ⟨_, rfl⟩
        have hwm : w.heap.size + 1 ≤ m := by omega
        have HNR := Lib.hid (show NRow w6 m (.slice none ks.length 0) ks by rw [hks]; exact NRow.nil _ _)
        have bN : Blk w6 nb 24 #[.int .i64 k, .string t, .string s, .slice none ks.length 0] := by rw [hks]; exact bn
        have bR := br
        have hbW : Below W1.heap.size W1 w6 := hb
        clear hks hm HE0 HW0 bn br HLN hEL hb gn0
        have hz := hres.below hbW hres.lt
        have z0 : w6.frozen? ⟨w.heap.size, 0, none⟩ = false := hz.frozen 0
        have z1 : w6.frozen? ⟨w.heap.size, 1, none⟩ = false := hz.frozen 1
        have z2 : w6.frozen? ⟨w.heap.size, 2, none⟩ = false := hz.frozen 2
        have z3 : w6.frozen? ⟨w.heap.size, 3, none⟩ = false := hz.frozen 3
        have y0 : w6.cell? ⟨w.heap.size, 0, none⟩ = some (.int .i64 0) := hz.cell 0
        have y1 : w6.cell? ⟨w.heap.size, 1, none⟩ = some (.string ⟨#[]⟩) := hz.cell 1
        have y2 : w6.cell? ⟨w.heap.size, 2, none⟩ = some (.string ⟨#[]⟩) := hz.cell 2
        have y3 : w6.cell? ⟨w.heap.size, 3, none⟩ = some (.slice none 0 0) := hz.cell 3
        have n0 : w6.cell? ⟨nb, 0, none⟩ = some (.int .i64 k) := bN.cell 0
        have n1 : w6.cell? ⟨nb, 1, none⟩ = some (.string t) := bN.cell 1
        have n2 : w6.cell? ⟨nb, 2, none⟩ = some (.string s) := bN.cell 2
        have n3 : w6.cell? ⟨nb, 3, none⟩ = some (.slice none ks.length 0) := bN.cell 3
        have r0 : w6.cell? ⟨rb, 0, none⟩ = some (.slice (some Aa) rest.length Cc) := bR.cell 0
        have q1 : nb ≠ w.heap.size := by omega
        have q2 : rb ≠ w.heap.size := by omega
        have zl := hz.lt
        have PO := Lib.hid (fun u0 u1 u2 u3 => bpost_of (k := k) (t := t) (s := s) (HNR.out.below (below_dr w6)) HMAP.out (HE9.out.below (below_dr w6) (by have := HW9.out.size; omega)) (HW9.out.trans ((below_dr w6).mono HW9.out.size)) (by omega : w.heap.size < m) hB u0 u1 u2 u3)
        have HZ := Lib.hid hz
        clear hz hres
        go_wp2
        go_region
        go_wp2
        have PO2 := PO.out (.int .i64 k) (.string t) (.string s) (.slice none ks.length 0)
        have hz2 := (((HZ.out.set_ 0 (.int .i64 k)).set_ 1 (.string t)).set_ 2 (.string s)).set_ 3 (.slice none ks.length 0)
        obtain ⟨WE, hWE⟩ : ∃ WE, ((((w6.setCell ⟨w.heap.size, 0, none⟩ (.int .i64 k)).setCell ⟨w.heap.size, 1, none⟩ (.string t)).setCell ⟨w.heap.size, 2, none⟩ (.string s)).setCell ⟨w.heap.size, 3, none⟩ (.slice none ks.length 0)).drew = WE := ⟨_, rfl⟩
        have g0 : WE.cell? ⟨w.heap.size, 0, none⟩ = some (.int .i64 k) := by rw [← hWE]; exact hz2.cell 0
        have g1 : WE.cell? ⟨w.heap.size, 1, none⟩ = some (.string t) := by rw [← hWE]; exact hz2.cell 1
        have g2 : WE.cell? ⟨w.heap.size, 2, none⟩ = some (.string s) := by rw [← hWE]; exact hz2.cell 2
        have g3 : WE.cell? ⟨w.heap.size, 3, none⟩ = some (.slice none ks.length 0) := by rw [← hWE]; exact hz2.cell 3
        rw [hWE]
        refine bodyPost_ret (v := .tuple #[.agg #[.int .i64 k, .string t, .string s, .slice none ks.length 0], .slice (some Aa) rest.length Cc]) ?_ rfl (by rw [← hWE]; exact PO2)
        simp [results, Tryz.f32, go_sem, g0, g1, g2, g3]
      · subst h8
        obtain ⟨x, hx⟩ : ∃ x, kids = [x] := by
          match kids, h1 with
          | [x], _ => exact ⟨x, rfl⟩
        subst hx
        rw [(endI_opens 8).2 ho]
        have hEL : endL 8 = [] := by decide
        rw [hEL] at HE0
        simp only [flatL, List.append_nil] at HE0
        have hBx := ih x (by simp) (by have := hsh.2; simpa [shapedL] using this)
        have hxz := hks x (by simp)
        have hxn : sizeN x ≤ 100000 := by have := hn; simp only [sizeN, sizeL] at this; omega
        have HTK := Lib.hid (take_any B x hBx rest 8 t s [] w6 W1.heap.size w6.heap.size rb nb none 0 _ hr1 hn1 hm2 hm1 (Ne.symm hne) (Nat.le_refl _) hxz hxn (by simp) HE0 br bn (NRow.nil _ _) (by omega))
        clear hBx hxz hxn HE0 HLN hEL ih hks hn
        have HW9 := Lib.hid HW0
        have HBR := Lib.hid hb
        clear HW0 bn br hb
        go_wp2_with fail
        refine HTK.out.mono ?_
        rintro e w7 ⟨⟨u, rfl⟩, A1, c1, A2, c2, q, hq, bR, HE9, bN, HNR, hb7⟩
        simp only [List.length_nil, Nat.zero_add, List.nil_append] at bN HNR
        have hbW : Below W1.heap.size W1 w7 := HBR.out.trans hb7
        have HW7 := Lib.hid (HW9.out.trans (hb7.mono (by omega)))
        obtain ⟨ks, hks⟩ : ∃ ks : List KV, ks = [q] := ⟨_, rfl⟩
        have HMAP := Lib.hid (show ks.map (·.n) = [x] by rw [hks]; simp [hq])
        obtain ⟨m, hm⟩ : ∃ m, m = w6.heap.size := ⟨_, rfl⟩
        have hwm : w.heap.size + 1 ≤ m := by have := hm1; omega
        have HNR := Lib.hid (show NRow w7 m (.slice A1 ks.length c1) ks by rw [hks, hm]; exact HNR)
        have bN : Blk w7 nb 24 #[.int .i64 8, .string t, .string s, .slice A1 ks.length c1] := by rw [hks]; exact bN
        have HE9 := Lib.hid HE9
        have HW9 := HW7
        clear hks hm hq HTK hb7
        have hz := hres.below hbW hres.lt
        have z0 : w7.frozen? ⟨w.heap.size, 0, none⟩ = false := hz.frozen 0
        have z1 : w7.frozen? ⟨w.heap.size, 1, none⟩ = false := hz.frozen 1
        have z2 : w7.frozen? ⟨w.heap.size, 2, none⟩ = false := hz.frozen 2
        have z3 : w7.frozen? ⟨w.heap.size, 3, none⟩ = false := hz.frozen 3
        have y0 : w7.cell? ⟨w.heap.size, 0, none⟩ = some (.int .i64 0) := hz.cell 0
        have y1 : w7.cell? ⟨w.heap.size, 1, none⟩ = some (.string ⟨#[]⟩) := hz.cell 1
        have y2 : w7.cell? ⟨w.heap.size, 2, none⟩ = some (.string ⟨#[]⟩) := hz.cell 2
        have y3 : w7.cell? ⟨w.heap.size, 3, none⟩ = some (.slice none 0 0) := hz.cell 3
        have n0 : w7.cell? ⟨nb, 0, none⟩ = some (.int .i64 8) := bN.cell 0
        have n1 : w7.cell? ⟨nb, 1, none⟩ = some (.string t) := bN.cell 1
        have n2 : w7.cell? ⟨nb, 2, none⟩ = some (.string s) := bN.cell 2
        have n3 : w7.cell? ⟨nb, 3, none⟩ = some (.slice A1 ks.length c1) := bN.cell 3
        have r0 : w7.cell? ⟨rb, 0, none⟩ = some (.slice A2 rest.length c2) := bR.cell 0
        have q1 : nb ≠ w.heap.size := by omega
        have q2 : rb ≠ w.heap.size := by omega
        have zl := hz.lt
        have PO := Lib.hid (fun u0 u1 u2 u3 => bpost_of (k := 8) (t := t) (s := s) (HNR.out.below (below_dr w7)) HMAP.out (HE9.out.below (below_dr w7) (by have := HW9.out.size; omega)) (HW9.out.trans ((below_dr w7).mono HW9.out.size)) (by omega : w.heap.size < m) hB u0 u1 u2 u3)
        have HZ := Lib.hid hz
        clear hz hres
        go_wp2
        go_region
        go_wp2
        have PO2 := PO.out (.int .i64 8) (.string t) (.string s) (.slice A1 ks.length c1)
        have hz2 := (((HZ.out.set_ 0 (.int .i64 8)).set_ 1 (.string t)).set_ 2 (.string s)).set_ 3 (.slice A1 ks.length c1)
        obtain ⟨WE, hWE⟩ : ∃ WE, ((((w7.setCell ⟨w.heap.size, 0, none⟩ (.int .i64 8)).setCell ⟨w.heap.size, 1, none⟩ (.string t)).setCell ⟨w.heap.size, 2, none⟩ (.string s)).setCell ⟨w.heap.size, 3, none⟩ (.slice A1 ks.length c1)).drew = WE := ⟨_, rfl⟩
        have g0 : WE.cell? ⟨w.heap.size, 0, none⟩ = some (.int .i64 8) := by rw [← hWE]; exact hz2.cell 0
        have g1 : WE.cell? ⟨w.heap.size, 1, none⟩ = some (.string t) := by rw [← hWE]; exact hz2.cell 1
        have g2 : WE.cell? ⟨w.heap.size, 2, none⟩ = some (.string s) := by rw [← hWE]; exact hz2.cell 2
        have g3 : WE.cell? ⟨w.heap.size, 3, none⟩ = some (.slice A1 ks.length c1) := by rw [← hWE]; exact hz2.cell 3
        rw [hWE]
        refine bodyPost_ret (v := .tuple #[.agg #[.int .i64 8, .string t, .string s, .slice A1 ks.length c1], .slice A2 rest.length c2]) ?_ rfl (by rw [← hWE]; exact PO2)
        simp [results, Tryz.f32, go_sem, g0, g1, g2, g3]
end Go.Proofs.YtfilonbhcalkoaaGreatDoor

/-
  tree: build and the closure that takes a kid.
-/
import Derived.Test.YtfilonbhcalkoaaGreatDoorTrM17
import Derived.Test.YtfilonbhcalkoaaGreatDoorTrM18
namespace Go.Proofs.YtfilonbhcalkoaaGreatDoor
open Go.RowKit Go.Maps
set_option maxRecDepth 100000
set_option linter.unusedSimpArgs false

section
variable {P : Program} {ops : Array Oper} {Q : Exit → Act → World → Prop} {md : Region.Mode} {S : World → Prop} {Es : List Nat}
/-- One of several operations comes up. -/
def GStep (P : Program) (md : Region.Mode) (ops : Array Oper) (Q : Exit → Act → World → Prop) (Es : List Nat) (S : World → Prop) (fuel : Nat) (listed : Array Bool) (a : Act) (w : World) (i : Nat) : Prop :=
  ∃ o, ops[i]? = some o ∧ ∀ K' : Act → World → Prop, Shut (∀ a w, (i ∉ Es → S w) → ((i ∉ Es → S w) → wpAnyG P md ops Q Es S fuel (listed.setIfInBounds i true) a w) → K' a w) → if Region.wanted o (yielded ops a.tmps) = true then Oper.wp P o a w K' Q else K' (a.put o.dst undef) w
theorem g_all {rs : List Nat} {fuel : Nat} {listed : Array Bool} {a : Act} {w : World} (hr : Region.ready md ops listed = rs) (hne : rs ≠ []) (h : ∀ i ∈ rs, GStep P md ops Q Es S fuel listed a w i) : wpAnyG P md ops Q Es S (fuel + 1) listed a w := by
  refine ⟨fun h0 => absurd (hr ▸ h0) hne, fun j hj => ?_⟩
  rw [hr] at hj
  obtain ⟨o, ho, h2⟩ := h j hj
  exact wpOp_step ho (fun K' hK => h2 K' (fun a w hS hW => hK a w ⟨hS, hW hS⟩))
end

section
variable {P : Program} {ops : Array Oper} {Q : Exit → Act → World → Prop} {md : Region.Mode} {S : World → Prop} {Es : List Nat}
theorem g_of_any : ∀ (fuel : Nat) (listed : Array Bool) (a : Act) (w : World), (∀ i, listed.getD i true = false → i ∈ Es) → wpAny P md ops Q fuel listed a w → wpAnyG P md ops Q Es S fuel listed a w
  | 0, _, _, _, _, h => h
  | fuel + 1, listed, a, w, hE, h => ⟨h.1, fun i hi => by
    have hiE := hE i (mem_ready.1 hi).1
    refine wpOp_mono (fun a' w' h' => ⟨fun hn => absurd hiE hn, g_of_any fuel _ a' w' (fun k hk => hE k ?_) h'⟩) (h.2 i hi)
    by_cases e : i = k
    · subst e; exact (mem_ready.1 hi).1
    · rw [getD_set_ne true e] at hk; exact hk⟩
theorem g_free {fuel : Nat} {listed : Array Bool} {a : Act} {w : World} (hE : (List.range listed.size).all (fun i => listed.getD i true || Es.contains i) = true) (h : wpAny P md ops Q fuel listed a w) : wpAnyG P md ops Q Es S fuel listed a w := by
  refine g_of_any fuel listed a w (fun i hi => ?_) h
  have hl : i < listed.size := by
    rcases Nat.lt_or_ge i listed.size with h | h
    · exact h
    · simp [Array.getElem?_eq_none h] at hi
  have := List.all_eq_true.1 hE i (List.mem_range.2 hl)
  rw [hi] at this
  simpa using this
end

/-- A list of events, but for its first. -/
theorem ERead.tail {w : World} {b o c : Nat} {x : Ev} {xs : List Ev} (h : ERead w (.slice (some ⟨b, o, none⟩) (xs.length + 1) c) (x :: xs)) : ERead w (.slice (some (if c = 1 then ⟨b, o, none⟩ else ⟨b, o + 3, none⟩)) xs.length (c - 1)) xs := by
  obtain ⟨A, c', hv, h1, h2, h3⟩ := h
  injection hv with e1 e2 e3
  subst e1 e3
  simp only [List.length_cons] at h1
  obtain ⟨b', o', hA, hc⟩ := h3 (by simp)
  injection hA with hA
  injection hA with hb ho
  subst hb ho
  refine ⟨_, _, rfl, by omega, by omega, fun hp => ⟨b, o + 3, by rw [if_neg (by omega)], fun j hj => ?_⟩⟩
  obtain ⟨q0, q1, q2⟩ := hc (j + 1) (by simp; omega)
  simp only [List.getElem_cons_succ] at q0 q1 q2
  rw [show o + 3 + j * 3 = o + (j + 1) * 3 by omega]
  exact ⟨q0, q1, q2⟩
theorem ERead.head {w : World} {v : Value} {x : Ev} {xs : List Ev} (h : ERead w v (x :: xs)) : ∃ b o c, v = .slice (some ⟨b, o, none⟩) (xs.length + 1) c ∧ xs.length + 1 ≤ c ∧ c ≤ maxLen ∧ w.cell? ⟨b, o, none⟩ = some (.int .i64 x.k) ∧ w.cell? ⟨b, o + 1, none⟩ = some (.string x.t) ∧ w.cell? ⟨b, o + 2, none⟩ = some (.string x.v) := by
  obtain ⟨A, c, rfl, h1, h2, h3⟩ := h
  obtain ⟨b, o, rfl, hc⟩ := h3 (by simp)
  obtain ⟨q0, q1, q2⟩ := hc 0 (by simp)
  refine ⟨b, o, c, by simp, by simpa using h1, h2, ?_, ?_, ?_⟩
  · simpa using q0
  · simpa using q1
  · simpa using q2

/-- A list of events that lies below a bound. -/
def ELow (B : Nat) (w : World) (v : Value) (xs : List Ev) : Prop := ERead w v xs ∧ (0 < xs.length → ∃ b o l c, v = .slice (some ⟨b, o, none⟩) l c ∧ b < B)
theorem ELow.hold {B : Nat} {w w' : World} {v : Value} {xs : List Ev} (h : ELow B w v xs) (hh : ∀ i, i < B → w'.heap[i]? = w.heap[i]?) : ELow B w' v xs := by
  obtain ⟨⟨A, c, rfl, h1, h2, h3⟩, hl⟩ := h
  refine ⟨⟨A, c, rfl, h1, h2, fun hp => ?_⟩, hl⟩
  obtain ⟨b, o, rfl, hc⟩ := h3 hp
  obtain ⟨b', o', l', c', hv, hb⟩ := hl hp
  injection hv with hv
  injection hv with hv
  injection hv with e1
  subst e1
  have hs := cells_same (hh b hb)
  exact ⟨b, o, rfl, fun j hj => ⟨hs _ _ (hc j hj).1, hs _ _ (hc j hj).2.1, hs _ _ (hc j hj).2.2⟩⟩
theorem ELow.below {B : Nat} {w w' : World} {v : Value} {xs : List Ev} (h : ELow B w v xs) (hb : Below w.heap.size w w') (hB : B ≤ w.heap.size) : ELow B w' v xs := h.hold fun i hi => hb.block i (by omega)
theorem ELow.head {B : Nat} {w : World} {v : Value} {x : Ev} {xs : List Ev} (h : ELow B w v (x :: xs)) : ∃ b o c, v = .slice (some ⟨b, o, none⟩) (xs.length + 1) c ∧ xs.length + 1 ≤ c ∧ c ≤ maxLen ∧ w.cell? ⟨b, o, none⟩ = some (.int .i64 x.k) ∧ w.cell? ⟨b, o + 1, none⟩ = some (.string x.t) ∧ w.cell? ⟨b, o + 2, none⟩ = some (.string x.v) ∧
    ELow B w (.slice (some (if c = 1 then ⟨b, o, none⟩ else ⟨b, o + 3, none⟩)) xs.length (c - 1)) xs := by
  obtain ⟨b, o, c, rfl, h1, h2, q0, q1, q2⟩ := h.1.head
  refine ⟨b, o, c, rfl, h1, h2, q0, q1, q2, ERead.tail h.1, fun hp => ?_⟩
  obtain ⟨b', o', l', c', hv, hb⟩ := h.2 (by simp)
  injection hv with hv
  injection hv with hv
  injection hv with e1
  subst e1
  exact ⟨b, o + 3, _, _, by rw [if_neg (by omega)], hb⟩

/-- What build tells. -/
def BPost (B : Nat) (n : Nd) (rest : List Ev) (w : World) (e : Ending) (w' : World) : Prop :=
  ∃ A c A2 c2, e = .returned (.tuple #[.agg #[.int .i64 n.k, .string n.t, .string n.v, .slice A n.kids.length c], .slice A2 rest.length c2]) ∧ NAt (Fresh w.heap.size w') w' n A c ∧ ELow B w' (.slice A2 rest.length c2) rest ∧ Below w.heap.size w w'
def BuildAt (n : Nd) : Prop := ∀ (B : Nat) (rest : List Ev) (v : Value) (w : World), B ≤ w.heap.size → (∀ x ∈ flat n, x.t.size ≤ 140737488355328 ∧ x.v.size ≤ 140737488355328) → sizeN n ≤ 100000 → ELow B w v (flat n ++ rest) →
  Calls Tryz.prog 32 #[v] w (BPost B n rest w)

theorem set4 (xs : List Value) (L : Nat) (h : xs.length = L * 4) (z0 z1 z2 z3 a b c d : Value) : ((((xs ++ [z0, z1, z2, z3]).set (L * 4) a).set (L * 4 + 1) b).set (L * 4 + 2) c).set (L * 4 + 3) d = xs ++ [a, b, c, d] := by
  rw [List.set_append_right _ _ (by omega), List.set_append_right _ _ (by omega), List.set_append_right _ _ (by omega), List.set_append_right _ _ (by omega), h, Nat.sub_self,
    show L * 4 + 1 - L * 4 = 1 by omega, show L * 4 + 2 - L * 4 = 2 by omega, show L * 4 + 3 - L * 4 = 3 by omega]
  rfl
theorem NRow.fill {w6 w7 W : World} {base g7 c7 : Nat} {v : Value} {ks : List KV} {q : KV} (hN : NRow w6 base v ks) (hO : OStep w6 v w7 (.slice (some ⟨g7, 0, none⟩) (ks.length + 1) c7)) (hq : NAt (fun b o => Fresh base w6 b o ∧ some b ≠ v.ownBlock) w6 q.n q.a q.c)
    (hrow : W.ownsRow base 24 4 (.slice (some ⟨g7, 0, none⟩) (ks.length + 1) c7) (ks.length + 1) (kvCs ks ++ kvC q)) (hh : ∀ i, base ≤ i → i ≠ g7 → W.heap[i]? = w7.heap[i]?) : NRow W base (.slice (some ⟨g7, 0, none⟩) (ks.length + 1) c7) (ks ++ [q]) := by
  have key : ∀ {n : Nd} {A : Option Addr} {c : Nat}, NAt (fun b o => Fresh base w6 b o ∧ some b ≠ v.ownBlock) w6 n A c → NAt (fun b o => Fresh base W b o ∧ some b ≠ (Value.slice (some ⟨g7, 0, none⟩) (ks.length + 1) c7).ownBlock) W n A c := fun h =>
    (own_step h hO).keep fun b o hs hc => by
      have he := hh b hs.1.1 (fun e => hs.2 (by subst e; rfl))
      exact ⟨cells_same he, ⟨hs.1.1, hs.1.2.1, by obtain ⟨cur, h1⟩ := hs.1.2.2; exact ⟨cur, by rw [he]; exact h1⟩⟩, hs.2⟩
  refine ⟨by rw [kvCs_snoc, List.length_append]; exact hrow, fun q' hq' => ?_⟩
  rcases List.mem_append.1 hq' with hq' | hq'
  · exact key (hN.kids q' hq')
  · simp at hq'
    subst hq'
    exact key hq

set_option maxHeartbeats 8000000 in
/-- The closure that takes one kid. -/
theorem take_any (B0 : Nat) (n : Nd) (hB : BuildAt n) (rest : List Ev) (k : Int) (t s : ByteArray) (ks : List KV) (w : World) (lo m rb nb : Nat) (A : Option Addr) (c : Nat) (v : Value) (hlr : lo ≤ rb) (hln : lo ≤ nb) (hrm : rb < m) (hnm : nb < m) (hrn : rb ≠ nb) (hmw : m ≤ w.heap.size) (hsz : ∀ x ∈ flat n, x.t.size ≤ 140737488355328 ∧ x.v.size ≤ 140737488355328) (hn : sizeN n ≤ 100000) (hks : ks.length ≤ 100000)
    (hv : ELow B0 w v (flat n ++ rest)) (hr : Blk w rb 27 #[v]) (hx : Blk w nb 24 #[.int .i64 k, .string t, .string s, .slice A ks.length c]) (hN : NRow w m (.slice A ks.length c) ks) (hb0 : B0 ≤ lo) :
    Calls Tryz.prog 50 #[.pointer (some ⟨rb, 0, none⟩), .pointer (some ⟨nb, 0, none⟩)] w fun e w' => (∃ u, e = .returned u) ∧ ∃ A1 c1 A2 c2 q, q.n = n ∧ Blk w' rb 27 #[.slice A2 rest.length c2] ∧ ELow B0 w' (.slice A2 rest.length c2) rest ∧
      Blk w' nb 24 #[.int .i64 k, .string t, .string s, .slice A1 (ks.length + 1) c1] ∧ NRow w' m (.slice A1 (ks.length + 1) c1) (ks ++ [q]) ∧ Below lo w w' := by
  have hrl := hr.lt
  have hxl := hx.lt
  have r0 : w.cell? ⟨rb, 0, none⟩ = some v := hr.cell 0
  have hal : Below w.heap.size w (w.alloc (.cells #[.int .i64 0, .string ⟨#[]⟩, .string ⟨#[]⟩, .slice none 0 0] 24)) := (Below.refl _ _).alloc (Nat.le_refl _) _
  have hkb := Blk.new w 24 #[.int .i64 0, .string ⟨#[]⟩, .string ⟨#[]⟩, .slice none 0 0]
  obtain ⟨vA, L, vc, rfl⟩ : ∃ A L c, v = .slice A L c := by obtain ⟨⟨A, c, h, _⟩, _⟩ := hv; exact ⟨_, _, _, h⟩
  have hBc := hB B0 rest _ (w.alloc (.cells #[.int .i64 0, .string ⟨#[]⟩, .string ⟨#[]⟩, .slice none 0 0] 24)) (by simp; omega) hsz hn (hv.below hal (by omega))
  unfold BPost at hBc
  clear hv hB
  go_enter Tryz.func50, Tryz.ntmps50
  go_wp2_with fail
  refine hBc.mono ?_
  clear hBc
  rintro e w1 ⟨A3, c3, A2, c2, rfl, hF, hE, hb1⟩
  have hr1 := (hr.below hal hrl).below hb1 (by simp; omega)
  have hx1 := (hx.below hal hxl).below hb1 (by simp; omega)
  have hk1 := hkb.below hb1 hkb.lt
  have N1 := (hN.below hal).below hb1
  have rf : w1.frozen? ⟨rb, 0, none⟩ = false := hr1.frozen 0
  have rc : w1.cell? ⟨rb, 0, none⟩ = some (.slice vA L vc) := hr1.cell 0
  have rl := hr1.lt
  have f0 : w1.frozen? ⟨w.heap.size, 0, none⟩ = false := hk1.frozen 0
  have f1 : w1.frozen? ⟨w.heap.size, 1, none⟩ = false := hk1.frozen 1
  have f2 : w1.frozen? ⟨w.heap.size, 2, none⟩ = false := hk1.frozen 2
  have f3 : w1.frozen? ⟨w.heap.size, 3, none⟩ = false := hk1.frozen 3
  have d0 : w1.cell? ⟨w.heap.size, 0, none⟩ = some (.int .i64 0) := hk1.cell 0
  have d1 : w1.cell? ⟨w.heap.size, 1, none⟩ = some (.string ⟨#[]⟩) := hk1.cell 1
  have d2 : w1.cell? ⟨w.heap.size, 2, none⟩ = some (.string ⟨#[]⟩) := hk1.cell 2
  have d3 : w1.cell? ⟨w.heap.size, 3, none⟩ = some (.slice none 0 0) := hk1.cell 3
  have hne : rb ≠ w.heap.size := by omega
  have hl1 : w.heap.size < w1.heap.size := hk1.lt
  go_wp2_with fail
  obtain ⟨W5, hW5⟩ : ∃ W5, (((((w1.setCell ⟨w.heap.size, 0, none⟩ (.int .i64 n.k)).setCell ⟨w.heap.size, 1, none⟩ (.string n.t)).setCell ⟨w.heap.size, 2, none⟩ (.string n.v)).setCell ⟨w.heap.size, 3, none⟩ (.slice A3 n.kids.length c3)).setCell ⟨rb, 0, none⟩ (.slice A2 rest.length c2)) = W5 := ⟨_, rfl⟩
  rw [hW5]
  have b5 : Below lo w W5 := by
    rw [← hW5]
    exact ((((((hal.mono (by omega : lo ≤ w.heap.size)).trans (hb1.mono (by simp; omega))).setCell (p := ⟨w.heap.size, 0, none⟩) (by simp; omega) _).setCell (p := ⟨w.heap.size, 1, none⟩) (by simp; omega) _).setCell (p := ⟨w.heap.size, 2, none⟩) (by simp; omega) _).setCell (p := ⟨w.heap.size, 3, none⟩) (by simp; omega) _).setCell (p := ⟨rb, 0, none⟩) (by simp; omega) _
  have hr5 : Blk W5 rb 27 #[.slice A2 rest.length c2] := by
    rw [← hW5]
    exact ((((hr1.far (p := ⟨w.heap.size, 0, none⟩) hne _).far (p := ⟨w.heap.size, 1, none⟩) hne _).far (p := ⟨w.heap.size, 2, none⟩) hne _).far (p := ⟨w.heap.size, 3, none⟩) hne _).set_ 0 (.slice A2 rest.length c2)
  have hnx : nb ≠ w.heap.size := by omega
  have hx5 : Blk W5 nb 24 #[.int .i64 k, .string t, .string s, .slice A ks.length c] := by
    rw [← hW5]
    exact ((((hx1.far (p := ⟨w.heap.size, 0, none⟩) hnx _).far (p := ⟨w.heap.size, 1, none⟩) hnx _).far (p := ⟨w.heap.size, 2, none⟩) hnx _).far (p := ⟨w.heap.size, 3, none⟩) hnx _).far (p := ⟨rb, 0, none⟩) (by simp; omega) _
  have hk5 : Blk W5 w.heap.size 24 #[.int .i64 n.k, .string n.t, .string n.v, .slice A3 n.kids.length c3] := by
    rw [← hW5]
    exact ((((hk1.set_ 0 (.int .i64 n.k)).set_ 1 (.string n.t)).set_ 2 (.string n.v)).set_ 3 (.slice A3 n.kids.length c3)).far (p := ⟨rb, 0, none⟩) (by simp; omega) _
  -- what is beyond the kid's box
  have hB5 : Below 0 w1 w1 := Below.refl _ _
  have hsame : ∀ i, i ≠ w.heap.size → i ≠ rb → W5.heap[i]? = w1.heap[i]? := fun i h1 h2 => by
    rw [← hW5]
    refine (Below.heap_setCell _ ⟨rb, 0, none⟩ _ i h2).trans ?_
    refine (Below.heap_setCell _ ⟨w.heap.size, 3, none⟩ _ i h1).trans ?_
    refine (Below.heap_setCell _ ⟨w.heap.size, 2, none⟩ _ i h1).trans ?_
    refine (Below.heap_setCell _ ⟨w.heap.size, 1, none⟩ _ i h1).trans ?_
    exact Below.heap_setCell _ ⟨w.heap.size, 0, none⟩ _ i h1
  have hs5 : W5.heap.size = w1.heap.size := by rw [← hW5]; simp [World.setCell]
  have hw51 : ∀ i, i < w.heap.size → i ≠ rb → W5.heap[i]? = w.heap[i]? := fun i h1 h2 => (hsame i (by omega) h2).trans ((hb1.block i (by simp; omega)).trans (hal.block i h1))
  have N5 : NRow W5 m (.slice A ks.length c) ks := hN.hold fun i h1 h2 => hw51 i h2 (by omega)
  have F5 : NAt (Fresh (w.heap.size + 1) W5) W5 n A3 c3 := by
    rw [World.size_alloc] at hF
    exact Fresh.hold hF fun i h1 h2 => hsame i (by omega) (by omega)
  have E5 : ELow B0 W5 (.slice A2 rest.length c2) rest := hE.hold fun i hi => hsame i (by omega) (by omega)
  have nx3 : W5.cell? ⟨nb, 3, none⟩ = some (.slice A ks.length c) := hx5.cell 3
  have hown : ∀ g, (Value.slice A ks.length c).ownBlock = some g → g < w.heap.size := hN.lt
  have hs1 : w.heap.size < W5.heap.size := by omega
  clear hF hE hsame hw51 hr1 hx1 hk1 N1 rf rc rl f0 f1 f2 f3 d0 d1 d2 d3 hB5 hW5 hr hx hN hkb hal hb1 r0 hl1 hs5
  refine region_g [5, 6, 7, 8, 9] (S := (fun W => W.cell? ⟨nb, 3, none⟩ = some (.slice A ks.length c) ∧ W.cell? ⟨w.heap.size, 0, none⟩ = some (.int .i64 n.k) ∧ W.cell? ⟨w.heap.size, 1, none⟩ = some (.string n.t) ∧ W.cell? ⟨w.heap.size, 2, none⟩ = some (.string n.v) ∧ W.cell? ⟨w.heap.size, 3, none⟩ = some (.slice A3 n.kids.length c3))) (by kernel_rfl) ⟨nx3, hk5.cell 0, hk5.cell 1, hk5.cell 2, hk5.cell 3⟩ (fun hH => ?_)
  refine g_take (i := 0) (v := .pointer (some ⟨nb, 3, none⟩)) (by rfl) (by kernel_rfl) (by kernel_rfl) (by kernel_rfl) (by kernel_rfl) (fun _ _ _ h => (by cases h.1)) (Or.inl ⟨by rfl, fun W hS => (by obtain ⟨s1, s2, s3, s4, s5⟩ := hS; go_simp)⟩) hH ?_
  simp only [Act.put, List.setIfInBounds_toArray, List.set_cons_zero, List.set_cons_succ]
  refine g_take (i := 1) (v := .slice A ks.length c) (by rfl) (by kernel_rfl) (by kernel_rfl) (by kernel_rfl) (by kernel_rfl) (fun _ _ _ h => (by cases h.1)) (Or.inl ⟨by rfl, fun W hS => (by obtain ⟨s1, s2, s3, s4, s5⟩ := hS; go_simp)⟩) hH ?_
  simp only [Act.put, List.setIfInBounds_toArray, List.set_cons_zero, List.set_cons_succ]
  refine g_take (i := 2) (v := .agg #[.int .i64 n.k, .string n.t, .string n.v, .slice A3 n.kids.length c3]) (by rfl) (by kernel_rfl) (by kernel_rfl) (by kernel_rfl) (by kernel_rfl) (fun _ _ _ h => (by cases h.1)) (Or.inl ⟨by rfl, fun W hS => (by obtain ⟨s1, s2, s3, s4, s5⟩ := hS; go_simp)⟩) hH ?_
  simp only [Act.put, List.setIfInBounds_toArray, List.set_cons_zero, List.set_cons_succ]
  refine g_take (i := 3) (v := .int .i64 (ks.length : Int)) (by rfl) (by kernel_rfl) (by kernel_rfl) (by kernel_rfl) (by kernel_rfl) (fun _ _ _ h => (by cases h.1)) (Or.inl ⟨by rfl, fun W hS => (by obtain ⟨s1, s2, s3, s4, s5⟩ := hS; go_simp)⟩) hH ?_
  simp only [Act.put, List.setIfInBounds_toArray, List.set_cons_zero, List.set_cons_succ]
  refine g_one (i := 4) (by kernel_rfl) (by rfl) (fun K hK => ?_)
  go_simp
  refine hK.out _ _ (fun _ => ⟨(hx5.alloc _).cell 3, (hk5.alloc _).cell 0, (hk5.alloc _).cell 1, (hk5.alloc _).cell 2, (hk5.alloc _).cell 3⟩) (fun _ => ?_)
  clear hK K hH
  refine g_free (by kernel_rfl) ?_
  refine wpAny_ready (rs := [5]) (by kernel_rfl) (by simp) ?_
  refine AllReady.cons (by rfl) (fun K hK => ?_) AllReady.nil
  have al5 : Below W5.heap.size W5 (W5.alloc (.cells #[.int .i64 0, .string ⟨#[]⟩, .string ⟨#[]⟩, .slice none 0 0] 24)) := (Below.refl _ _).alloc (Nat.le_refl _) _
  have N6 := N5.below al5
  refine step_appO (by rfl) (.tmp 9) (.tmp 12) 22 (by rfl) m 24 _ 4 64 Tryz.underlying22 Tryz.infoNd (by rfl) (by decide) (.slice A ks.length c) ks.length (kvCs ks) [.int .i64 0, .string ⟨#[]⟩, .string ⟨#[]⟩, .slice none 0 0] (by rfl) (by exact N6.row) (by simp [Value.oneCell']) ⟨W5.heap.size, 0, none⟩ 1 1 (by rfl) (by rfl) (by exact cellsOf4 W5 _ _ _ _ _) (by simp only [maxLen]; omega) (by omega) (by simp; omega) ?_
  intro v7 w7 hown7 hO7
  obtain ⟨g7, c7, rfl⟩ := rowN_shape hown7 (Nat.succ_pos _)
  refine hK _ _ ?_
  clear hK K
  have hnown : ∀ i, i < m → some i ≠ (Value.slice A ks.length c).ownBlock := fun i hi e => by have := (World.ownsRow.lt N6.row i e.symm).1; omega
  have hO7' : OStep (W5.alloc (.cells #[.int .i64 0, .string ⟨#[]⟩, .string ⟨#[]⟩, .slice none 0 0] 24)) (.slice A ks.length c) w7 (.slice (some ⟨g7, 0, none⟩) (ks.length + 1) c7) := ⟨⟨hO7.grown.os, hO7.grown.tape, hO7.grown.output, hO7.grown.size, hO7.grown.block⟩, hO7.own⟩
  have x7 := (hO7'.blk (hx5.alloc _) (hnown nb (by omega))).1
  have r7 := (hO7'.blk (hr5.alloc _) (hnown rb (by omega))).1
  have hg7 : m ≤ g7 := (rowN_block hown7).1
  have fz : ∀ i, w7.frozen? ⟨g7, i, none⟩ = false := (rowN_block hown7).2.2.2.2.2.1
  have gl : g7 < w7.heap.size := (rowN_block hown7).2.1
  have gc7 : ks.length + 1 ≤ c7 := (rowN_block hown7).2.2.1
  have hcl := kvCs_len ks
  have cz : ∀ i, i < 4 → w7.cell? ⟨g7, ks.length * 4 + i, none⟩ = [Value.int .i64 0, .string ⟨#[]⟩, .string ⟨#[]⟩, .slice none 0 0][i]? := fun i hi => by
    rw [rowN_cell hown7 (by omega), List.getElem?_append_right (by omega), hcl]
    congr 1; omega
  have z0 : w7.cell? ⟨g7, ks.length * 4, none⟩ = some (.int .i64 0) := cz 0 (by omega)
  have z1 : w7.cell? ⟨g7, ks.length * 4 + 1, none⟩ = some (.string ⟨#[]⟩) := cz 1 (by omega)
  have z2 : w7.cell? ⟨g7, ks.length * 4 + 2, none⟩ = some (.string ⟨#[]⟩) := cz 2 (by omega)
  have z3 : w7.cell? ⟨g7, ks.length * 4 + 3, none⟩ = some (.slice none 0 0) := cz 3 (by omega)
  have e0 := fz (ks.length * 4)
  have e1 := fz (ks.length * 4 + 1)
  have e2 := fz (ks.length * 4 + 2)
  have e3 := fz (ks.length * 4 + 3)
  have nf : w7.frozen? ⟨nb, 3, none⟩ = false := x7.frozen 3
  have nc : w7.cell? ⟨nb, 3, none⟩ = some (.slice A ks.length c) := x7.cell 3
  have nl := x7.lt
  have nne : nb ≠ g7 := by omega
  have nne' : g7 ≠ nb := by omega
  have b7 : Below lo w w7 := b5.trans ((al5.mono (by omega)).trans (((hO7'.below N6.row (by simp; omega)).mono (by omega))))
  have q6 : NAt (fun b o => Fresh m (W5.alloc (.cells #[.int .i64 0, .string ⟨#[]⟩, .string ⟨#[]⟩, .slice none 0 0] 24)) b o ∧ some b ≠ (Value.slice A ks.length c).ownBlock) (W5.alloc (.cells #[.int .i64 0, .string ⟨#[]⟩, .string ⟨#[]⟩, .slice none 0 0] 24)) n A3 c3 := own_fresh (Fresh.below F5 al5) (by omega) (fun g hg => by have := hown g hg; omega)
  have E7 : ELow B0 w7 (.slice A2 rest.length c2) rest := E5.hold fun i hi => (hO7'.heap (by simp; omega) (hnown i (by omega))).trans (al5.block i (by omega))
  have key : ∀ W, (W = (((((w7.setCell ⟨g7, ks.length * 4, none⟩ (.int .i64 n.k)).setCell ⟨g7, ks.length * 4 + 1, none⟩ (.string n.t)).setCell ⟨g7, ks.length * 4 + 2, none⟩ (.string n.v)).setCell ⟨g7, ks.length * 4 + 3, none⟩ (.slice A3 n.kids.length c3)).setCell ⟨nb, 3, none⟩ (.slice (some ⟨g7, 0, none⟩) (ks.length + 1) c7)) ∨ W = (((((w7.setCell ⟨nb, 3, none⟩ (.slice (some ⟨g7, 0, none⟩) (ks.length + 1) c7)).setCell ⟨g7, ks.length * 4, none⟩ (.int .i64 n.k)).setCell ⟨g7, ks.length * 4 + 1, none⟩ (.string n.t)).setCell ⟨g7, ks.length * 4 + 2, none⟩ (.string n.v)).setCell ⟨g7, ks.length * 4 + 3, none⟩ (.slice A3 n.kids.length c3))) → ∃ A1 c1 A2 c2 q, q.n = n ∧ Blk W rb 27 #[.slice A2 rest.length c2] ∧ ELow B0 W (.slice A2 rest.length c2) rest ∧
      Blk W nb 24 #[.int .i64 k, .string t, .string s, .slice A1 (ks.length + 1) c1] ∧ NRow W m (.slice A1 (ks.length + 1) c1) (ks ++ [q]) ∧ Below lo w W := fun W hW => by
    have hheap : ∀ i, i ≠ g7 → i ≠ nb → W.heap[i]? = w7.heap[i]? := fun i h1 h2 => by
      rcases hW with rfl | rfl
      · exact (Below.heap_setCell _ ⟨nb, 3, none⟩ _ i h2).trans ((Below.heap_setCell _ ⟨g7, ks.length * 4 + 3, none⟩ _ i h1).trans ((Below.heap_setCell _ ⟨g7, ks.length * 4 + 2, none⟩ _ i h1).trans ((Below.heap_setCell _ ⟨g7, ks.length * 4 + 1, none⟩ _ i h1).trans (Below.heap_setCell _ ⟨g7, ks.length * 4, none⟩ _ i h1))))
      · exact (Below.heap_setCell _ ⟨g7, ks.length * 4 + 3, none⟩ _ i h1).trans ((Below.heap_setCell _ ⟨g7, ks.length * 4 + 2, none⟩ _ i h1).trans ((Below.heap_setCell _ ⟨g7, ks.length * 4 + 1, none⟩ _ i h1).trans ((Below.heap_setCell _ ⟨g7, ks.length * 4, none⟩ _ i h1).trans (Below.heap_setCell _ ⟨nb, 3, none⟩ _ i h2))))
    have hsz : W.heap.size = w7.heap.size := by rcases hW with rfl | rfl <;> simp [World.setCell]
    have hnb : Blk W nb 24 #[.int .i64 k, .string t, .string s, (.slice (some ⟨g7, 0, none⟩) (ks.length + 1) c7)] := by
      rcases hW with rfl | rfl
      · exact ((((x7.far (p := ⟨g7, ks.length * 4, none⟩) nne _).far (p := ⟨g7, ks.length * 4 + 1, none⟩) nne _).far (p := ⟨g7, ks.length * 4 + 2, none⟩) nne _).far (p := ⟨g7, ks.length * 4 + 3, none⟩) nne _).set_ 3 (.slice (some ⟨g7, 0, none⟩) (ks.length + 1) c7)
      · exact ((((x7.set_ 3 (.slice (some ⟨g7, 0, none⟩) (ks.length + 1) c7)).far (p := ⟨g7, ks.length * 4, none⟩) nne _).far (p := ⟨g7, ks.length * 4 + 1, none⟩) nne _).far (p := ⟨g7, ks.length * 4 + 2, none⟩) nne _).far (p := ⟨g7, ks.length * 4 + 3, none⟩) nne _
    have hrow : W.ownsRow m 24 4 (.slice (some ⟨g7, 0, none⟩) (ks.length + 1) c7) (ks.length + 1) (kvCs ks ++ kvC ⟨n, A3, c3⟩) := by
      have hk : ∀ {X : World} {xs : List Value} (_ : X.ownsRow m 24 4 (.slice (some ⟨g7, 0, none⟩) (ks.length + 1) c7) (ks.length + 1) xs) (u : Value), (X.setCell ⟨nb, 3, none⟩ u).ownsRow m 24 4 (.slice (some ⟨g7, 0, none⟩) (ks.length + 1) c7) (ks.length + 1) xs := fun h u => World.ownsRow.kept h (only_setCell (g := nb) (p := ⟨nb, 3, none⟩) (World.grownBy.refl _ _) (.inl rfl) u) (.inr fun e => by have e2 : some g7 = some nb := e; injection e2 with e2; omega)
      have h4 : kvCs ks ++ kvC ⟨n, A3, c3⟩ = ((((kvCs ks ++ [Value.int .i64 0, .string ⟨#[]⟩, .string ⟨#[]⟩, .slice none 0 0]).set (ks.length * 4) (.int .i64 n.k)).set (ks.length * 4 + 1) (.string n.t)).set (ks.length * 4 + 2) (.string n.v)).set (ks.length * 4 + 3) (.slice A3 n.kids.length c3) := (set4 _ _ hcl _ _ _ _ _ _ _ _).symm
      rw [h4]
      rcases hW with rfl | rfl
      · exact hk (rowN_set (rowN_set (rowN_set (rowN_set (hown7) (ks.length * 4) (.int .i64 n.k)) (ks.length * 4 + 1) (.string n.t)) (ks.length * 4 + 2) (.string n.v)) (ks.length * 4 + 3) (.slice A3 n.kids.length c3)) _
      · exact rowN_set (rowN_set (rowN_set (rowN_set (hk hown7 _) (ks.length * 4) (.int .i64 n.k)) (ks.length * 4 + 1) (.string n.t)) (ks.length * 4 + 2) (.string n.v)) (ks.length * 4 + 3) (.slice A3 n.kids.length c3)
    refine ⟨some ⟨g7, 0, none⟩, c7, A2, c2, ⟨n, A3, c3⟩, rfl, (hheap rb (by omega) (by omega)).trans r7, E7.hold fun i hi => hheap i (by omega) (by omega), hnb, NRow.fill N6 hO7' q6 hrow fun i h1 h2 => hheap i h2 (by omega), ?_⟩
    rcases hW with rfl | rfl
    · exact ((((b7.setCell (p := ⟨g7, ks.length * 4, none⟩) (by simp; omega) _).setCell (p := ⟨g7, ks.length * 4 + 1, none⟩) (by simp; omega) _).setCell (p := ⟨g7, ks.length * 4 + 2, none⟩) (by simp; omega) _).setCell (p := ⟨g7, ks.length * 4 + 3, none⟩) (by simp; omega) _).setCell (p := ⟨nb, 3, none⟩) (by simp; omega) _
    · exact ((((b7.setCell (p := ⟨nb, 3, none⟩) (by simp; omega) _).setCell (p := ⟨g7, ks.length * 4, none⟩) (by simp; omega) _).setCell (p := ⟨g7, ks.length * 4 + 1, none⟩) (by simp; omega) _).setCell (p := ⟨g7, ks.length * 4 + 2, none⟩) (by simp; omega) _).setCell (p := ⟨g7, ks.length * 4 + 3, none⟩) (by simp; omega) _
  have HKEY := Lib.hid key
  clear key E7 q6 b7 x7 r7 hcl cz fz hown7 hO7 hO7' N6 N5 F5 E5 hnown b5 hr5 hx5 hk5 nx3 al5 hown
  refine wpAny_take (i := 6) (v := .pointer (some ⟨g7, ks.length * 4, none⟩)) (by rfl) (by kernel_rfl) (by kernel_rfl) (by kernel_rfl) (fun _ _ _ h => (by cases h.1)) (Or.inl ⟨by rfl, fun W => (by go_simp; intro h; omega)⟩) ?_
  refine wpAny_take (i := 8) (v := .pointer (some ⟨nb, 3, none⟩)) (by rfl) (by kernel_rfl) (by kernel_rfl) (by kernel_rfl) (fun _ _ _ h => (by cases h.1)) (Or.inl ⟨by rfl, fun W => (by go_simp)⟩) ?_
  refine wpAny_ready (rs := [7, 9]) (by kernel_rfl) (by simp) ?_
  refine AllReady.cons (by rfl) (fun K hK => ?_) (AllReady.cons (by rfl) (fun K hK => ?_) AllReady.nil)
  all_goals
    go_simp
    refine hK _ _ ?_
    clear hK K
  · refine wpAny_ready (rs := [9]) (by kernel_rfl) (by simp) ?_
    refine AllReady.cons (by rfl) (fun K hK => ?_) AllReady.nil
    go_simp
    refine hK _ _ ?_
    clear hK K
    refine wpAny_done (by kernel_rfl) ⟨rfl, ?_⟩ _
    go_wp2
    go_end0
    exact ⟨⟨_, rfl⟩, HKEY.out _ (.inl rfl)⟩
  · refine wpAny_ready (rs := [7]) (by kernel_rfl) (by simp) ?_
    refine AllReady.cons (by rfl) (fun K hK => ?_) AllReady.nil
    go_simp
    refine hK _ _ ?_
    clear hK K
    refine wpAny_done (by kernel_rfl) ⟨rfl, ?_⟩ _
    go_wp2
    go_end0
    exact ⟨⟨_, rfl⟩, HKEY.out _ (.inr rfl)⟩

theorem shape_kids {k : Int} {n : Nat} (h : okShape k n = true) : (opensK k = true) ∨ (opensK k = false ∧ leafK k = true ∧ n = 0 ∧ k ≠ 8) ∨ (opensK k = false ∧ k = 8 ∧ n = 1) := by
  unfold okShape at h
  cases ho : opensK k with
  | true => exact .inl rfl
  | false =>
    rw [ho] at h
    simp only [Bool.false_or, Bool.or_eq_true, Bool.and_eq_true, decide_eq_true_iff] at h
    rcases h with ⟨h1, h2⟩ | ⟨h1, h2⟩
    · exact .inr (.inl ⟨rfl, h1, h2, fun e => by subst e; exact absurd h1 (by decide)⟩)
    · exact .inr (.inr ⟨rfl, h1, h2⟩)
theorem flat_sizes {k : Int} {t v : ByteArray} {kids : List Nd} (h : ∀ x ∈ flat (.mk k t v kids), x.t.size ≤ 140737488355328 ∧ x.v.size ≤ 140737488355328) : (t.size ≤ 140737488355328 ∧ v.size ≤ 140737488355328) ∧ ∀ m ∈ kids, ∀ x ∈ flat m, x.t.size ≤ 140737488355328 ∧ x.v.size ≤ 140737488355328 := by
  refine ⟨h ⟨k, t, v⟩ (by simp [flat]), fun m hm x hx => h x ?_⟩
  obtain ⟨a, b, rfl⟩ := List.append_of_mem hm
  simp [flat, flatL_append, flatL, hx]

end Go.Proofs.YtfilonbhcalkoaaGreatDoor

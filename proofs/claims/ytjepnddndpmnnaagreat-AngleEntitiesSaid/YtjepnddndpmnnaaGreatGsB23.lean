/-
  token: an open number, as it lies in a cell; blanks.
  Whether a name goes on with a byte.
  angle: the machine as it lies, with its entities, its scopes and an Out; what its calls may turn.
-/
import Derived.Test.YtjepnddndpmnnaaGreatGsB04
import Derived.Test.YtjepnddndpmnnaaGreatGsB08
import Derived.Test.YtjepnddndpmnnaaGreatGsB11
import Derived.StillTailTactics
import Derived.Test.YtjepnddndpmnnaaGreatGsB10
import Derived.Test.YtjepnddndpmnnaaGreatGsB22
import Derived.OwnWalk
import Derived.IntWalk
namespace Go.Proofs.YtjepnddndpmnnaaGreat
open Go.RowKit Go.Maps
set_option maxRecDepth 100000
set_option linter.unusedSimpArgs false
set_option linter.unusedVariables false
set_option linter.unusedSectionVars false
variable [Tab] [Fo]

theorem one_str (w : World) (b : UInt8) : (convert 22 9 (.slice (some ⟨w.heap.size, 0, none⟩) 1 1)).run Tryz.prog (w.alloc (.cells #[.int .u8 (b.toNat : Int)] 5)) = .ok (.string ⟨#[b]⟩) (w.alloc (.cells #[.int .u8 (b.toNat : Int)] 5)) :=
  Nm.put_str [b] (ORow.lit w w.heap.size 5 #[.int .u8 (b.toNat : Int)] (Nat.le_refl _) (by simp [maxLen]))
theorem one_strD (w : World) (b : UInt8) : (convert 22 9 (.slice (some ⟨w.heap.size, 0, none⟩) 1 1)).run Tryz.prog (w.alloc (.cells #[.int .u8 (b.toNat : Int)] 5)).drew = .ok (.string ⟨#[b]⟩) (w.alloc (.cells #[.int .u8 (b.toNat : Int)] 5)).drew :=
  Nm.put_str [b] (ORow.drew (ORow.lit w w.heap.size 5 #[.int .u8 (b.toNat : Int)] (Nat.le_refl _) (by simp [maxLen])))
theorem app_one (s : ByteArray) (b : UInt8) : (s ++ (⟨#[b]⟩ : ByteArray)).data.toList = s.data.toList ++ [b] := by simp [ByteArray.append_eq, ByteArray.data_append]

theorem tblank_any (b : UInt8) (w : World) : Calls Tryz.prog 105 #[.int .u8 (b.toNat : Int)] w fun e w' => e = .returned (.bool (blankB b)) ∧ w' = w := by
  go_enter Tryz.func105, Tryz.ntmps105
  go_wp2
  all_goals
    go_ret
    refine ⟨ret_bool ?_, rfl⟩
    unfold blankB
    rw [Bool.eq_iff_iff]
    first | (simp; done) | (simp; omega) | omega

set_option maxHeartbeats 4000000 in
theorem oadd_any (w : World) (m i : Nat) (s : ByteArray) (b : UInt8) (most : Nat) (hc : w.cell? ⟨m, i, none⟩ = some (.string s)) (hf : w.frozen? ⟨m, i, none⟩ = false) (hl : m < w.heap.size) (hs : s.size ≤ 1000) (hmo : most ≤ 1000) :
    Calls Tryz.prog 135 #[.pointer (some ⟨m, i, none⟩), .int .u8 (b.toNat : Int), .int .i64 (most : Int)] w fun e w' =>
      if most ≤ s.size then e = .returned (.int .i64 4) ∧ w' = w
      else e = .returned (.int .i64 0) ∧ Below (w.setCell ⟨m, i, none⟩ (.string (s ++ ⟨#[b]⟩))).heap.size (w.setCell ⟨m, i, none⟩ (.string (s ++ ⟨#[b]⟩))) w' := by
  by_cases h30 : most ≤ s.size
  case pos =>
    simp only [if_pos h30]
    go_enter Tryz.func135, Tryz.ntmps135
    go_wp2
    go_ret
    exact ⟨rfl, rfl⟩
  case neg =>
    simp only [if_neg h30]
    have hcv := one_strD w b
    have al : Below (w.setCell ⟨m, i, none⟩ (.string (s ++ ⟨#[b]⟩))).heap.size (w.setCell ⟨m, i, none⟩ (.string (s ++ ⟨#[b]⟩))) ((w.setCell ⟨m, i, none⟩ (.string (s ++ ⟨#[b]⟩))).alloc (.cells #[.int .u8 (b.toNat : Int)] 5)).drew := below_drew ((Below.refl _ _).alloc (Nat.le_refl _) _)
    have AL := Lib.hid al
    clear al
    go_enter Tryz.func135, Tryz.ntmps135
    go_wp2
    go_region
    go_wp2
    go_ret
    exact ⟨rfl, AL.out⟩
theorem otake_any (w : World) (m i : Nat) (s : ByteArray) (hc : w.cell? ⟨m, i, none⟩ = some (.string s)) (hf : w.frozen? ⟨m, i, none⟩ = false) (hl : m < w.heap.size) :
    Calls Tryz.prog 136 #[.pointer (some ⟨m, i, none⟩)] w fun e w' => e = .returned (.string s) ∧ w' = w.setCell ⟨m, i, none⟩ (.string ⟨#[]⟩) := by
  go_enter Tryz.func136, Tryz.ntmps136
  go_wp2
  go_ret
  exact ⟨rfl, rfl⟩
theorem nadd_any (w : World) (m i : Nat) (s : ByteArray) (b : UInt8) (hc : w.cell? ⟨m, i, none⟩ = some (.string s)) (hf : w.frozen? ⟨m, i, none⟩ = false) (hl : m < w.heap.size) (hs : s.size ≤ 1000) :
    Calls Tryz.prog 122 #[.pointer (some ⟨m, i, none⟩), .int .u8 (b.toNat : Int)] w fun e w' =>
      if 16 ≤ s.size then e = .returned (.int .i64 4) ∧ w' = w
      else e = .returned (.int .i64 0) ∧ Below (w.setCell ⟨m, i, none⟩ (.string (s ++ ⟨#[b]⟩))).heap.size (w.setCell ⟨m, i, none⟩ (.string (s ++ ⟨#[b]⟩))) w' := by
  have hC := Lib.hid (oadd_any w m i s b 16 hc hf hl hs (by decide))
  clear hc hf
  go_enter Tryz.func122, Tryz.ntmps122
  go_wp2_with fail
  refine hC.out.mono ?_
  rintro e w' hq
  by_cases h30 : 16 ≤ s.size
  · rw [if_pos h30] at hq
    obtain ⟨rfl, rfl⟩ := hq
    go_wp2
    go_ret
    exact ⟨rfl, rfl⟩
  · rw [if_neg h30] at hq
    obtain ⟨rfl, hb⟩ := hq
    have HB := Lib.hid hb
    clear hb
    go_wp2
    go_ret
    exact ⟨rfl, by first | exact HB.out | simpa using HB.out⟩

theorem nend_any (w : World) (m i : Nat) (s : ByteArray) (hc : w.cell? ⟨m, i, none⟩ = some (.string s)) (hf : w.frozen? ⟨m, i, none⟩ = false) (hl : m < w.heap.size) (hs : s.size ≤ 1000) :
    Calls Tryz.prog 123 #[.pointer (some ⟨m, i, none⟩)] w fun e w' => e = .returned (.tuple #[.string s, .int .i64 (if s.size = 0 then 2 else 0)]) ∧ w' = w.setCell ⟨m, i, none⟩ (.string ⟨#[]⟩) := by
  have HTk := Lib.hid (otake_any w m i s hc hf hl)
  clear hc hf
  by_cases h0 : s.size = 0
  · rw [if_pos h0]
    obtain rfl : s = ⟨#[]⟩ := ByteArray.ext (Array.eq_empty_of_size_eq_zero h0)
    clear h0
    go_enter Tryz.func123, Tryz.ntmps123
    go_wp2_with fail
    refine HTk.out.mono ?_
    rintro e w1 ⟨rfl, rfl⟩
    go_wp2
    go_ret2
    exact ⟨rfl, rfl⟩
  · rw [if_neg h0]
    have hne : ¬ s = ⟨#[]⟩ := fun e => h0 (by rw [e]; rfl)
    have z1 : s.toList.isEmpty = false := by
      rw [Bool.eq_false_iff]
      intro e
      have h5 := congrArg List.length (List.isEmpty_iff.1 e)
      rw [Lib.toList_data, Array.length_toList] at h5
      exact h0 h5
    clear h0 hne
    go_enter Tryz.func123, Tryz.ntmps123
    go_wp2_with fail
    refine HTk.out.mono ?_
    rintro e w1 ⟨rfl, rfl⟩
    go_wp2
    go_ret2
    exact ⟨rfl, rfl⟩
end Go.Proofs.YtjepnddndpmnnaaGreat
namespace Go.Proofs.YtjepnddndpmnnaaGreat
open Go.RowKit Go.Maps
set_option maxRecDepth 100000
set_option linter.unusedSimpArgs false
set_option linter.unusedVariables false
set_option linter.unusedSectionVars false
variable [Tab] [Fo]

/-- Whether a name goes on with a byte. -/
def nGo (s : ByteArray) (b : UInt8) : Bool := localL (s.data.toList.take 1 ++ [b])
theorem ngoes_any (w : World) (m i : Nat) (s : ByteArray) (b : UInt8) (hc : w.cell? ⟨m, i, none⟩ = some (.string s)) (hl : m < w.heap.size) (hs : s.size ≤ 1000) :
    Calls Tryz.prog 121 #[.pointer (some ⟨m, i, none⟩), .int .u8 (b.toNat : Int)] w fun e w' => e = .returned (.bool (nGo s b)) ∧ Below w.heap.size w w' := by
  unfold nGo
  have h1 := one_str w b
  have al : Below w.heap.size w (w.alloc (.cells #[.int .u8 (b.toNat : Int)] 5)) := (Below.refl _ _).alloc (Nat.le_refl _) _
  have AL := Lib.hid al
  clear al
  by_cases h0 : s.size = 0
  · obtain rfl : s = ⟨#[]⟩ := ByteArray.ext (Array.eq_empty_of_size_eq_zero h0)
    have hL := Lib.hid (local_any (⟨#[b]⟩ : ByteArray) (w.alloc (.cells #[.int .u8 (b.toNat : Int)] 5)) (by show (1 : Nat) ≤ _; decide))
    clear h0
    go_enter Tryz.func121, Tryz.ntmps121
    go_wp2_with fail
    refine hL.out.mono ?_
    rintro e w' ⟨rfl, rfl⟩
    go_wp2
    go_ret
    exact ⟨rfl, AL.out⟩
  · have z1 : s.toList.isEmpty = false := by
      rw [Bool.eq_false_iff]
      intro e
      have h5 := congrArg List.length (List.isEmpty_iff.1 e)
      rw [Lib.toList_data, Array.length_toList] at h5
      exact h0 h5
    have hs1 : 1 ≤ s.size := by omega
    have hL := Lib.hid (fun (t : ByteArray) (ht : t.size ≤ 1000) => local_any t (w.alloc (.cells #[.int .u8 (b.toNat : Int)] 5)) (by omega))
    clear h0
    go_enter Tryz.func121, Tryz.ntmps121
    go_wp2_with fail
    refine (hL.out _ ?_).mono ?_
    · have hb1 : (⟨#[b]⟩ : ByteArray).size = 1 := rfl
      simp [ByteArray.size_append, ByteArray.size_extract, hb1]
      try omega
    rintro e w' ⟨rfl, rfl⟩
    go_wp2
    go_ret
    exact ⟨rfl, AL.out⟩
end Go.Proofs.YtjepnddndpmnnaaGreat
namespace Go.Proofs.YtjepnddndpmnnaaGreat
open Go.RowKit Go.Maps
set_option maxRecDepth 100000
set_option linter.unusedSimpArgs false
set_option linter.unusedVariables false
set_option linter.unusedSectionVars false
variable [Tab]

def sv (t : List UInt8) : Value := .string ⟨t.toArray⟩
def pv (k : Nat) : Value := .pointer (some ⟨k, 0, none⟩)
def agCells (M : Ag) (e g : Nat) (av ov : Value) : Array Value :=
  #[.int .i64 M.a, sv M.rest, sv M.ent, sv M.nmd, pv e, pv e, sv M.rt, .bool M.rr, sv M.rn, sv M.nt, sv M.np, sv M.el.p, sv M.el.l, sv M.an.p, sv M.an.l, av, sv M.en.p, sv M.en.l, ov, pv g]
def atCells (l : List (Na × List UInt8)) : List Value := l.flatMap fun a => [sv a.1.p, sv a.1.l, sv a.2]
def naCells (l : List Na) : List Value := l.flatMap fun a => [sv a.p, sv a.l]
theorem atCells_len (l : List (Na × List UInt8)) : (atCells l).length = l.length * 3 := by
  unfold atCells
  induction l with
  | nil => rfl
  | cons a l ih => simp only [List.flatMap_cons, List.length_append, ih, List.length_cons, List.length_nil]; omega
theorem naCells_len (l : List Na) : (naCells l).length = l.length * 2 := by
  unfold naCells
  induction l with
  | nil => rfl
  | cons a l ih => simp only [List.flatMap_cons, List.length_append, ih, List.length_cons, List.length_nil]; omega
def agO : Obj → Prop
  | .cells _ t _ => t = 101 ∨ t = 197 ∨ t = 97
  | _ => False
def agOnly : Obj → Prop
  | .cells _ t _ => t = 101
  | _ => False
theorem ag_of {o : Obj} (h : agOnly o) : agO o := by cases o <;> simp only [agOnly, agO] at h ⊢; exact .inl h
/-- What the calls of the machine may turn. -/
def axO (o : Obj) : Prop := tX o ∨ agO o
theorem ax_of {o : Obj} (h : agOnly o) : axO o := .inr (ag_of h)
theorem tx_ag (o : Obj) (h : tX o) : ¬ agO o := by
  intro hc
  cases o with
  | cells cs t fr =>
    simp only [agO] at hc
    rcases h with h | h | h
    · simp only [tObj] at h
      rcases hc with rfl | rfl | rfl <;> exact absurd h (by decide)
    · simp only [Ns.sObj] at h
      rcases hc with rfl | rfl | rfl <;> exact absurd h (by decide)
    · simp only [entO] at h
      rcases hc with rfl | rfl | rfl <;> exact absurd h (by decide)
  | map es c => exact hc
  | _ => exact hc
section
variable [fo : Fo]
/-- The machine at block m: its cells, its two rows. -/
structure AgAt (w : World) (base m : Nat) (M : Ag) (e g : Nat) (av ov : Value) : Prop where
  blk : Blk w m 101 (agCells M e g av ov)
  ats : w.ownsRow base 197 3 av M.ats.length (atCells M.ats)
  opn : w.ownsRow base 97 2 ov M.op.length (naCells M.op)
  nfa : NF av
  nfo : NF ov
  bm : base ≤ m
  nf : ¬ Fo.F m
  lim : Fo.lim ≤ w.heap.size
variable {w w' : World} {base m o ck e mb g : Nat} {M M' : Ag} {av ov : Value} {s : As}
theorem AgAt.lt (h : AgAt w base m M e g av ov) : m < w.heap.size := h.blk.lt
theorem AgAt.hb (h : AgAt w base m M e g av ov) : base ≤ w.heap.size := Nat.le_trans h.bm (Nat.le_of_lt h.blk.lt)
theorem AgAt.tch {p : Obj → Prop} (h : AgAt w base m M e g av ov) (ht : Tch base p w w') (hp : ∀ cs t fr, t = 101 ∨ t = 197 ∨ t = 97 → ¬ p (.cells cs t fr)) : AgAt w' base m M e g av ov :=
  ⟨h.blk.tch ht (.inr (hp _ _ _ (.inl rfl))), row_tch h.ats ht (fun _ _ => hp _ _ _ (.inr (.inl rfl))), row_tch h.opn ht (fun _ _ => hp _ _ _ (.inr (.inr rfl))), h.nfa, h.nfo, h.bm, h.nf, Nat.le_trans h.lim ht.size⟩
theorem AgAt.below (h : AgAt w base m M e g av ov) (hb : Below w.heap.size w w') : AgAt w' base m M e g av ov := h.tch (p := fun _ => False) (Tch.of_below hb) (fun _ _ _ _ => id)
theorem AgAt.of_x (h : AgAt w base m M e g av ov) (ht : Tch base tX w w') : AgAt w' base m M e g av ov :=
  h.tch ht fun cs t fr h1 hc => tx_ag _ hc (by simpa only [agO] using h1)
theorem AgAt.touch (h : AgAt w base m M e g av ov) (i : Nat) (u : Value) : Tch base agOnly w (w.setCell ⟨m, i, none⟩ u) :=
  (Tch.refl _ _ _).set h.blk h.bm h.nf (show agOnly (.cells _ _ _) from rfl) i u
/-- A store into a cell of the machine's block that is not a row. -/
theorem AgAt.set (h : AgAt w base m M e g av ov) (i : Nat) (u : Value) {M' : Ag} (hc : (agCells M e g av ov).setIfInBounds i u = agCells M' e g av ov) (ha : M'.ats = M.ats) (ho : M'.op = M.op) : AgAt (w.setCell ⟨m, i, none⟩ u) base m M' e g av ov := by
  have ht := h.touch i u
  refine ⟨by rw [← hc]; exact h.blk.set_ i u, ?_, ?_, h.nfa, h.nfo, h.bm, h.nf, Nat.le_trans h.lim ht.size⟩
  · rw [ha]; exact row_tch h.ats ht (fun _ _ => by simp only [agOnly]; decide)
  · rw [ho]; exact row_tch h.opn ht (fun _ _ => by simp only [agOnly]; decide)
theorem AgAt.as (h : AgAt w base m M e g av ov) (hc : agCells M' e g av ov = agCells M e g av ov) (ha : M'.ats = M.ats) (ho : M'.op = M.op) : AgAt w base m M' e g av ov :=
  ⟨by rw [hc]; exact h.blk, by rw [ha]; exact h.ats, by rw [ho]; exact h.opn, h.nfa, h.nfo, h.bm, h.nf, h.lim⟩
theorem AgAt.frz (h : AgAt w base m M e g av ov) (i : Nat) : w.frozen? ⟨m, i, none⟩ = false := h.blk.frozen i
theorem AgAt.cells (h : AgAt w base m M e g av ov) : w.cell? ⟨m, 0, none⟩ = some (.int .i64 M.a) ∧ w.cell? ⟨m, 1, none⟩ = some (.string ⟨M.rest.toArray⟩) ∧ w.cell? ⟨m, 2, none⟩ = some (.string ⟨M.ent.toArray⟩) ∧ w.cell? ⟨m, 3, none⟩ = some (.string ⟨M.nmd.toArray⟩) ∧ w.cell? ⟨m, 4, none⟩ = some (.pointer (some ⟨e, 0, none⟩)) ∧ w.cell? ⟨m, 5, none⟩ = some (.pointer (some ⟨e, 0, none⟩)) ∧ w.cell? ⟨m, 6, none⟩ = some (.string ⟨M.rt.toArray⟩) ∧ w.cell? ⟨m, 7, none⟩ = some (.bool M.rr) ∧ w.cell? ⟨m, 8, none⟩ = some (.string ⟨M.rn.toArray⟩) ∧ w.cell? ⟨m, 9, none⟩ = some (.string ⟨M.nt.toArray⟩) ∧ w.cell? ⟨m, 10, none⟩ = some (.string ⟨M.np.toArray⟩) :=
  ⟨h.blk.cell 0, h.blk.cell 1, h.blk.cell 2, h.blk.cell 3, h.blk.cell 4, h.blk.cell 5, h.blk.cell 6, h.blk.cell 7, h.blk.cell 8, h.blk.cell 9, h.blk.cell 10⟩
theorem AgAt.cells2 (h : AgAt w base m M e g av ov) : w.cell? ⟨m, 11, none⟩ = some (.string ⟨M.el.p.toArray⟩) ∧ w.cell? ⟨m, 12, none⟩ = some (.string ⟨M.el.l.toArray⟩) ∧ w.cell? ⟨m, 13, none⟩ = some (.string ⟨M.an.p.toArray⟩) ∧ w.cell? ⟨m, 14, none⟩ = some (.string ⟨M.an.l.toArray⟩) ∧ w.cell? ⟨m, 15, none⟩ = some av ∧ w.cell? ⟨m, 16, none⟩ = some (.string ⟨M.en.p.toArray⟩) ∧ w.cell? ⟨m, 17, none⟩ = some (.string ⟨M.en.l.toArray⟩) ∧ w.cell? ⟨m, 18, none⟩ = some ov ∧ w.cell? ⟨m, 19, none⟩ = some (.pointer (some ⟨g, 0, none⟩)) :=
  ⟨h.blk.cell 11, h.blk.cell 12, h.blk.cell 13, h.blk.cell 14, h.blk.cell 15, h.blk.cell 16, h.blk.cell 17, h.blk.cell 18, h.blk.cell 19⟩

/-- The machine beside what it holds, and an Out. -/
structure AX (w : World) (base m o ck e mb g : Nat) (s : As) : Prop where
  mc : ∃ av ov, AgAt w base m s.m e g av ov
  xo : ∃ S, XO w base o ck e mb g s.m.L s.m.told s.m.sc s.st s.l S
/-- What a call of the machine leaves. -/
def APo (w : World) (base m o ck e mb g : Nat) (r : Ar) (E : Ending) (w' : World) : Prop :=
  E = .returned (.int .i64 r.e) ∧ AX w' base m o ck e mb g r.b ∧ Tch base axO w w'
theorem AX.hb (h : AX w base m o ck e mb g s) : base ≤ w.heap.size := by obtain ⟨_, _, h⟩ := h.mc; exact h.hb
theorem AX.lt (h : AX w base m o ck e mb g s) : m < w.heap.size := by obtain ⟨_, _, h⟩ := h.mc; exact h.lt
theorem AX.frz (h : AX w base m o ck e mb g s) (i : Nat) : w.frozen? ⟨m, i, none⟩ = false := by obtain ⟨_, _, h⟩ := h.mc; exact h.frz i
theorem AX.tchO (h : AX w base m o ck e mb g s) (ht : Tch base agO w w') (hM : ∃ av ov, AgAt w' base m M' e g av ov) (hL : M'.L = s.m.L) (htl : M'.told = s.m.told) (hsc : M'.sc = s.m.sc) : AX w' base m o ck e mb g { s with m := M' } := by
  obtain ⟨S, hx⟩ := h.xo
  refine ⟨hM, S, ?_⟩
  show XO w' base o ck e mb g M'.L M'.told M'.sc s.st s.l S
  rw [hL, htl, hsc]
  exact hx.tch ht tx_ag
theorem AX.below (h : AX w base m o ck e mb g s) (hb : Below w.heap.size w w') : AX w' base m o ck e mb g s := by
  obtain ⟨av, ov, hM⟩ := h.mc
  obtain ⟨S, hx⟩ := h.xo
  exact ⟨⟨av, ov, hM.below hb⟩, S, hx.below hb⟩
/-- A store into a cell of the machine's block that is not a row. -/
theorem AX.set (h : AX w base m o ck e mb g s) (i : Nat) (u : Value) (M' : Ag) (hc : ∀ av ov, (agCells s.m e g av ov).setIfInBounds i u = agCells M' e g av ov) (ha : M'.ats = s.m.ats) (ho : M'.op = s.m.op) (hL : M'.L = s.m.L) (htl : M'.told = s.m.told) (hsc : M'.sc = s.m.sc) :
    AX (w.setCell ⟨m, i, none⟩ u) base m o ck e mb g { s with m := M' } ∧ Tch base axO w (w.setCell ⟨m, i, none⟩ u) := by
  obtain ⟨av, ov, hM⟩ := h.mc
  have ht := hM.touch i u
  exact ⟨h.tchO (ht.wide fun _ => ag_of) ⟨av, ov, hM.set i u (hc av ov) ha ho⟩ hL htl hsc, ht.wide fun _ => ax_of⟩
theorem APo.pre {w0 : World} {r : Ar} {E : Ending} (h : APo w base m o ck e mb g r E w') (ht : Tch base axO w0 w) : APo w0 base m o ck e mb g r E w' := ⟨h.1, h.2.1, ht.trans h.2.2⟩
/-- Tell. -/
def ATell (w : World) (base m o ck e mb g : Nat) (s : As) (x : Ev) (E : Ending) (w' : World) : Prop :=
  E = .returned (.int .i64 (stepE s.st x)) ∧ AX w' base m o ck e mb g (tellA s x).b ∧ Tch base tX w w'
/-- The same, where the machine's own cells have not turned. -/
def TPo (w : World) (base m o ck e mb g : Nat) (r : Ar) (E : Ending) (w' : World) : Prop :=
  E = .returned (.int .i64 r.e) ∧ AX w' base m o ck e mb g r.b ∧ Tch base tX w w'
theorem TPo.a {r : Ar} {E : Ending} (h : TPo w base m o ck e mb g r E w') : APo w base m o ck e mb g r E w' := ⟨h.1, h.2.1, h.2.2.wide fun _ h => (.inl h : axO _)⟩
theorem AX.tell (h : AX w base m o ck e mb g s) (x : Ev) (hg : Good s.st) (hk : x.k ≠ 3) (hx : x.t.size ≤ 140737488355328) (hl : s.l.length ≤ 1000000) :
    Calls Tryz.prog 133 #[.pointer (some ⟨o, 0, none⟩), .agg #[.int .i64 x.k, .string x.t, .string x.v], .slice none 0 0] w (ATell w base m o ck e mb g s x) := by
  obtain ⟨av, ov, hM⟩ := h.mc
  obtain ⟨S, hX⟩ := h.xo
  refine (xo_tell x hX hg hk hx hl).mono ?_
  rintro E w' ⟨rfl, hO, ht⟩
  exact ⟨rfl, ⟨⟨av, ov, hM.of_x (ht.wide fun _ => .inl)⟩, S, hO⟩, ht.wide fun _ => .inl⟩
/-- Behind a call of the Entities. -/
theorem AX.entc (h : AX w base m o ck e mb g s) {L' : EnL} {told' : Nat} (hE : EnAt w' e mb L' told') (ht : T2 e mb w w') : AX w' base m o ck e mb g { s with m := { s.m with L := L', told := told' } } ∧ Tch base axO w w' := by
  obtain ⟨av, ov, hM⟩ := h.mc
  obtain ⟨S, hX⟩ := h.xo
  obtain ⟨hX', hT⟩ := hX.entc hE ht
  exact ⟨⟨⟨av, ov, (hM.of_x (hT.wide fun _ => .inr)).as rfl rfl rfl⟩, S, hX'⟩, hT.wide fun _ h => .inl (.inr h)⟩
theorem AX.ent (h : AX w base m o ck e mb g s) : EnAt w e mb s.m.L s.m.told := by obtain ⟨S, hX⟩ := h.xo; exact hX.x.ent
end
end Go.Proofs.YtjepnddndpmnnaaGreat

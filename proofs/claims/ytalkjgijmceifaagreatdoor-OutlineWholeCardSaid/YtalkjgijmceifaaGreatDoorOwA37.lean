/-
  outline: endLine, Step and End of the machine.
-/
import Derived.Test.YtalkjgijmceifaaGreatDoorOwA36
namespace Go.Proofs.YtalkjgijmceifaaGreatDoor
open Go.RowKit Go.Maps
set_option maxRecDepth 100000
set_option linter.unusedSimpArgs false
set_option linter.unusedVariables false
set_option linter.unusedSectionVars false
set_option linter.unusedSectionVars false
variable [Tab] [Fo]

def maOo : Obj → Prop
  | .cells _ t _ => t = 94
  | _ => False
theorem oma_lm (q : Obj) (h : maOo q) : lmOo q := by
  cases q <;> simp only [maOo] at h
  exact .inl h
/-- The machine between the bytes: the bytes of the line that has not ended, and what is known. -/
structure OmAt (base m p o ck an g : Nat) (op : List UInt8) (x : Ox) (w : World) : Prop where
  blk : ∃ ov, Blk w m 94 #[.iface 69 (.pointer (some ⟨p, 0, none⟩)), .slice (some ⟨g, 0, none⟩) 1 1, ov] ∧ ORow w base 5 ov (op.map bV) ∧ NF ov
  bm : base ≤ m ∧ ¬ Fo.F m
  b : OlZ base p o ck an g x w
section
variable {base m p o ck an g : Nat} {op : List UInt8} {x : Ox} {w w' : World}
theorem OmAt.other (h : OmAt base m p o ck an g op x w) {q : Obj → Prop} {y : Ox} (ht : Tch base q w w') (hq : ∀ cs t fr, t = 94 ∨ t = 5 → ¬ q (.cells cs t fr)) (hb : OlZ base p o ck an g y w') : OmAt base m p o ck an g op y w' := by
  obtain ⟨ov, h1, h2, h3⟩ := h.blk
  exact ⟨⟨ov, h1.tch ht (.inr (hq _ _ _ (.inl rfl))), row_tch h2 ht (fun _ _ => hq _ _ _ (.inr rfl)), h3⟩, h.bm, hb⟩
theorem oorow_zero {A : Option Addr} {n c : Nat} {e : TypeId} {xs : List Value} (h : ORow w base e (.slice A n c) xs) : ORow w base e (.slice A 0 c) [] := by
  refine ⟨rfl, ?_⟩
  rcases h.2 with ⟨hv, h0⟩ | ⟨g, cap, cur, hv, hg, hh, hnc, hm, hs, ht⟩
  · injection hv with e1 e2 e3
    exact .inl ⟨by rw [e1, e3], rfl⟩
  · injection hv with e1 e2 e3
    exact .inr ⟨g, c, cur, by rw [e1]; rfl, hg, hh, Nat.zero_le _, by rw [e3]; exact hm, by rw [e3]; exact hs, by rfl⟩
theorem OmAt.setop (h : OmAt base m p o ck an g op x w) {ov : Value} {op' : List UInt8} (ht0 : Tch base lmOo w w') (hrow : ORow w' base 5 ov (op'.map bV)) (hnf : NF ov) (hm : ∃ ov0, Blk w' m 94 #[.iface 69 (.pointer (some ⟨p, 0, none⟩)), .slice (some ⟨g, 0, none⟩) 1 1, ov0]) :
    OmAt base m p o ck an g op' x (w'.setCell ⟨m, 2, none⟩ ov) ∧ Tch base onObj w (w'.setCell ⟨m, 2, none⟩ ov) := by
  obtain ⟨ov0, hB⟩ := hm
  have ht0' : Tch base maOo w' (w'.setCell ⟨m, 2, none⟩ ov) := (Tch.refl _ _ _).set hB h.bm.1 h.bm.2 (show maOo (.cells _ _ _) from rfl) 2 ov
  have ht := ht0'.wide oma_lm
  refine ⟨⟨⟨ov, hB.set_ 2 ov, ?_, hnf⟩, h.bm, (h.b.lm ht0).lm ht⟩, (ht0.wide ol_n).trans (ht.wide ol_n)⟩
  exact row_tch hrow ht0' (fun _ _ => by simp only [maOo]; decide)
theorem oline_any (w : World) (m o : Nat) (s : ByteArray) (T : TypeId) (pv ov : Value) (hB : Blk w m 94 #[pv, .slice (some ⟨g, 0, none⟩) 1 1, ov]) :
    Calls Tryz.prog 159 #[.pointer (some ⟨m, 0, none⟩), .string s, .pointer (some ⟨o, 0, none⟩)] w fun e w' => e = .returned (.pointer (some ⟨w.heap.size, 0, none⟩)) ∧ w' = w.alloc (.cells #[.string s, .int .i64 0, .pointer (some ⟨o, 0, none⟩), .slice (some ⟨g, 0, none⟩) 1 1] 213) := by
  have c1 : w.cell? ⟨m, 1, none⟩ = some (.slice (some ⟨g, 0, none⟩) 1 1) := hB.cell 1
  have hl := hB.lt
  clear hB
  go_enter Tryz.func159, Tryz.ntmps159
  go_wp2
  go_ret
  exact ⟨rfl, rfl⟩
/-- What must hold ahead of a line. -/
structure OnOk (x : Ox) : Prop where
  l : lenO x + x.bk.length ≤ 500000
  bn : x.bk.length ≤ 800
theorem OnOk.ll (h : OnOk x) : x.l.length ≤ 500000 := by have h1 := h.l; have h2 : x.l.length ≤ lenO x := Nat.le_add_right _ _; omega
theorem orow_below {b : Nat} {e : TypeId} {size n : Nat} {v : Value} {xs : List Value} (h : w.ownsRow b e size v n xs) (hb : Below w.heap.size w w') : w'.ownsRow b e size v n xs := by
  refine ⟨h.1, ?_⟩
  rcases h.2 with hn | ⟨g, cap, cur, hv, hg, hh, r⟩
  · exact .inl hn
  · exact .inr ⟨g, cap, cur, hv, hg, (hb.block g (Array.getElem?_eq_some_iff.1 hh).1).trans hh, r⟩
/-- How a call of the machine ends. -/
def OmP (base m p o ck an g n : Nat) (r : Option (List UInt8 × Ox)) (w : World) (e : Ending) (w' : World) : Prop :=
  ((∃ y, r = some y ∧ e = .returned (.int .i64 0) ∧ OmAt base m p o ck an g y.1 y.2 w') ∨ (r = none ∧ ∃ k l back, k ≠ 0 ∧ back ≤ n ∧ e = .returned (.int .i64 k) ∧ OutE w' base o ck back l)) ∧ Tch base onObj w w'
set_option maxHeartbeats 4000000 in
theorem endLine_O (h : OmAt base m p o ck an g op x w) (hx : OnOk x) (hop : op.length ≤ 160) :
    Calls Tryz.prog 158 #[.pointer (some ⟨m, 0, none⟩), .pointer (some ⟨o, 0, none⟩)] w (OmP base m p o ck an g op.length ((lineO op x).map fun y => ([], y)) w) := by
  obtain ⟨ov, hB, hrow, hnf⟩ := h.blk
  obtain ⟨A, cap, hv⟩ := hrow.shape
  have hln : (op.map bV).length = op.length := List.length_map ..
  rw [hln] at hv
  subst hv
  have hcv := Nm.put_str op hrow
  have hmf : ∀ (fn : Fn) (first cap : Array Value) (w : World), (Instr.makeFunc fn first cap).run Tryz.prog w = .ok (.func fn first cap) w := fun _ _ _ _ => rfl
  obtain ⟨R, hR⟩ : ∃ R, lineO op x = R := ⟨_, rfl⟩
  rw [hR]
  have HR := Lib.hid hR
  have c2 : w.cell? ⟨m, 2, none⟩ = some (.slice A op.length cap) := hB.cell 2
  have hml := hB.lt
  have HLn := Lib.hid (oline_any w m o ⟨op.toArray⟩ 0 _ _ hB)
  -- the line is made
  have al : Below w.heap.size w (w.alloc (.cells #[.string ⟨op.toArray⟩, .int .i64 0, .pointer (some ⟨o, 0, none⟩), .slice (some ⟨g, 0, none⟩) 1 1] 213)) := (Below.refl _ _).alloc (Nat.le_refl _) _
  have hLB : LAt (w.alloc (.cells #[.string ⟨op.toArray⟩, .int .i64 0, .pointer (some ⟨o, 0, none⟩), .slice (some ⟨g, 0, none⟩) 1 1] 213)) w.heap.size (oL o g) op 0 := Blk.new w _ _
  obtain ⟨L, hL⟩ : ∃ L, w.heap.size = L := ⟨_, rfl⟩
  obtain ⟨W, hW⟩ : ∃ W, w.alloc (.cells #[.string ⟨op.toArray⟩, .int .i64 0, .pointer (some ⟨o, 0, none⟩), .slice (some ⟨g, 0, none⟩) 1 1] 213) = W := ⟨_, rfl⟩
  have hbL : base ≤ L := by rw [← hL]; exact h.b.pl.1
  have hfL : ¬ Fo.F L := by rw [← hL]; exact nf_new h.b.pl.2.2.1
  rw [hW] at al hLB
  rw [hL] at hLB
  have hBW := hB.below al hB.lt
  have hset := OmAt.setop (w := W) (w' := W) ⟨⟨_, hBW, orow_below hrow al, hnf⟩, h.bm, h.b.below al⟩ (Tch.refl _ _ _) (op' := []) (ov := .slice A 0 cap) (oorow_zero (orow_below hrow al)) (fun g hg => hnf g (by cases A <;> exact hg)) ⟨_, hBW⟩
  have d2 : W.cell? ⟨m, 2, none⟩ = some (.slice A op.length cap) := hBW.cell 2
  have f2 := hBW.frozen 2
  have hmW := hBW.lt
  have hLB2 : LAt (W.setCell ⟨m, 2, none⟩ (.slice A 0 cap)) L (oL o g) op 0 := by
    have ht : Tch base maOo W (W.setCell ⟨m, 2, none⟩ (.slice A 0 cap)) := (Tch.refl _ _ _).set hBW h.bm.1 h.bm.2 (show maOo (.cells _ _ _) from rfl) 2 _
    exact Blk.tch hLB ht (.inr (by simp only [maOo]; decide))
  have hI := OlZ.line hset.1.b hLB2 (Nat.zero_le _) hop hbL hfL
  have HT := Lib.hid (Tch.trans (Tch.of_below al) hset.2 : Tch base onObj w _)
  have HS := Lib.hid hset.1
  have hEx := examine_O hI "Parse" 168 (fun a w => by kernel_rfl) (fun args w => enters_of Tryz.func168 (by kernel_rfl) rfl args w) R (fun w1 h1 => by
    have := parse_O (by have := hx.l; omega) hx.bn h1
    rw [HR.out] at this
    exact this)
  have HEx := Lib.hid hEx
  obtain ⟨ov2, hB2, _⟩ := hset.1.blk
  have d0 := hB2.cell 0
  have hml2 := hB2.lt
  clear h hB hrow hnf hR al hLB hBW hset hLB2 hI hEx hB2
  go_enter Tryz.func158, Tryz.ntmps158
  go_wp2_with fail
  refine HLn.out.mono ?_
  rintro e w1 ⟨rfl, rfl⟩
  rw [hL, hW]
  clear c2 hcv HLn
  generalize hW2 : W.setCell ⟨m, 2, none⟩ (.slice A 0 cap) = W2 at *
  go_wp2_with fail
  refine HEx.out.mono ?_
  rintro e w3 ⟨⟨y, hr, rfl, hb⟩ | ⟨hr, k, hk0, rfl, l, back, hle, hO⟩, ht⟩
  · have HF := Lib.hid (show (R.map fun y => (([], y) : List UInt8 × Ox)) = some ([], y) ∧ OmAt base m p o ck an g [] y w3 ∧ Tch base onObj w w3 from ⟨by rw [hr]; rfl, HS.out.other ht (fun cs t fr h => om_no cs t fr (by rcases h with h | h; exact .inl h; exact .inr (.inl h))) hb, HT.out.trans (ht.wide om_n)⟩)
    clear hr hb ht HEx
    go_wp2
    go_ret
    exact ⟨.inl ⟨_, HF.out.1, rfl, HF.out.2.1⟩, HF.out.2.2⟩
  · have HF := Lib.hid (show (R.map fun y => (([], y) : List UInt8 × Ox)) = none ∧ k ≠ 0 ∧ OutE w3 base o ck back l ∧ Tch base onObj w w3 from ⟨by rw [hr]; rfl, hk0, hO, HT.out.trans (ht.wide om_n)⟩)
    clear hr hk0 hO ht HEx
    go_wp2
    go_ret
    exact ⟨.inr ⟨HF.out.1, k, l, back, HF.out.2.1, hle, rfl, HF.out.2.2.1⟩, HF.out.2.2.2⟩
end
section
variable {base m p o ck an g : Nat} {op : List UInt8} {x : Ox} {w w' : World}
def stepOm (y : List UInt8 × Ox) (b : UInt8) : Option (List UInt8 × Ox) :=
  if b = 10 then (lineO y.1 y.2).map fun z => ([], z) else if y.1.length = 160 then none else some (y.1 ++ [b], y.2)
def lastOm (y : List UInt8 × Ox) : Option (List UInt8 × Ox) := if 0 < y.1.length then (lineO y.1 y.2).map fun z => ([], z) else some ([], y.2)
def finOm (y : List UInt8 × Ox) : Option Ox := (lastOm y).bind fun z => finO z.2
set_option maxHeartbeats 4000000 in
theorem stepOm_any (b : UInt8) (h : OmAt base m p o ck an g op x w) (hx : OnOk x) (hop : op.length ≤ 160) :
    Calls Tryz.prog 157 #[.pointer (some ⟨m, 0, none⟩), .int .u8 (b.toNat : Int), .pointer (some ⟨o, 0, none⟩)] w (OmP base m p o ck an g op.length (stepOm (op, x) b) w) := by
  obtain ⟨R, hR⟩ : ∃ R, stepOm (op, x) b = R := ⟨_, rfl⟩
  rw [hR]
  unfold stepOm at hR
  have HR := Lib.hid hR
  clear hR
  by_cases h10 : (b.toNat : Int) = 10
  · have hb : b = 10 := by
      rw [← UInt8.toNat_inj]
      show b.toNat = 10
      omega
    rw [if_pos hb] at HR
    have hE := endLine_O h hx hop
    rw [show ((lineO op x).map fun y => (([], y) : List UInt8 × Ox)) = R from HR.out] at hE
    have HE := Lib.hid hE
    clear h hE hb
    go_enter Tryz.func157, Tryz.ntmps157
    go_wp2_with fail
    refine HE.out.mono ?_
    rintro e w1 ⟨⟨y, hr, rfl, h1⟩ | ⟨hr, k, l, back, hk0, hle, rfl, hO⟩, ht⟩
    · have HF := Lib.hid (And.intro hr (And.intro h1 ht))
      clear hr h1 ht HE
      go_wp2
      go_ret
      exact ⟨.inl ⟨y, HF.out.1, rfl, HF.out.2.1⟩, HF.out.2.2⟩
    · have HF := Lib.hid (And.intro hr (And.intro hk0 (And.intro hO ht)))
      clear hr hk0 hO ht HE
      go_wp2
      go_ret
      exact ⟨.inr ⟨HF.out.1, k, l, back, HF.out.2.1, hle, rfl, HF.out.2.2.1⟩, HF.out.2.2.2⟩
  · have hb : ¬ b = 10 := by
      rintro rfl
      exact h10 rfl
    rw [if_neg hb] at HR
    have e10 : ((b.toNat : Int) == 10) = false := by rw [beq_eq_false_iff_ne]; exact h10
    obtain ⟨ov, hB, hrow, hnf⟩ := h.blk
    obtain ⟨A, cap, hv⟩ := hrow.shape
    have hln : (op.map bV).length = op.length := List.length_map ..
    rw [hln] at hv
    subst hv
    have c2 : w.cell? ⟨m, 2, none⟩ = some (.slice A op.length cap) := hB.cell 2
    have hml := hB.lt
    by_cases hfull : op.length = 160
    · rw [if_pos hfull] at HR
      have HF := Lib.hid (And.intro h.b.bad (Tch.refl base onObj w))
      rw [hfull] at c2
      clear h hB hrow hnf hb h10
      go_enter Tryz.func157, Tryz.ntmps157
      go_wp2
      go_ret
      exact ⟨.inr ⟨HR.out.symm, 4, x.l, 0, by decide, Nat.zero_le _, rfl, HF.out.1⟩, HF.out.2⟩
    · rw [if_neg hfull] at HR
      have hlt : op.length < 160 := by omega
      have e160 : ((op.length : Int) == 160) = false := by rw [beq_eq_false_iff_ne]; omega
      have HB := Lib.hid hB
      have HH := Lib.hid h
      have h63 : (op.map bV).length + 1 ≤ maxLen := by rw [hln]; simp [maxLen]; omega
      have h8b : ((op.map bV).length + 1) * 1 ≤ 140737488355328 := by rw [hln]; omega
      have hbk : base ≤ w.heap.size := h.b.pl.1
      have hrow' : ORow w base 5 (.slice A op.length cap) (op.map bV) := hrow
      have HNF := Lib.hid hnf
      clear h hB hnf hb h10 hrow
      go_enter Tryz.func157, Tryz.ntmps157
      go_wp2_with (first
        | (at_builtin; refine wp_app1 rfl _ _ 22 rfl base 5 (.int .u8 0) 1 Tryz.underlying22 Tryz.info5 rfl (.slice A op.length cap) (op.map bV) (.int .u8 (b.toNat : Int)) rfl (by exact hrow') rfl 1 rfl h63 h8b hbk ?_; intro v1 w1 hown1 hg1 hnb1; replace hown1 : ORow w1 base 5 v1 ((op ++ [b]).map bV) := (by rw [List.map_append]; exact hown1); have hTa : Tch base lmOo w w1 := Tch.of_row hrow' hg1 (Nat.le_refl _) HNF.out (fun _ => .inr rfl); have hBm1 : Blk w1 m 94 _ := HB.out.grown hg1 (fun e => by (have h1 := row_obj hrow' (g := m) e.symm; obtain ⟨cur, h1⟩ := h1; have h2 := HB.out; unfold Blk at h2; rw [h2] at h1; injection h1 with h1; injection h1 with _ h1; exact absurd h1 (by decide))); have hnf1 : NF v1 := HNF.out.nb (w := w) (hnb1.imp id fun e => ⟨_, e, Nat.le_succ _⟩) HH.out.b.pl.2.2.1; obtain ⟨A1, c1, ev⟩ := hown1.shape; rw [show ((op ++ [b]).map bV).length = op.length + 1 from (by simp)] at ev; subst ev; have hset := HH.out.setop hTa hown1 hnf1 ⟨_, hBm1⟩; have d2 := hBm1.cell 2; have f2 := hBm1.frozen 2; have hm1 := hBm1.lt; have HSet := Lib.hid hset; clear hset hTa hBm1 hnf1 hown1 hg1 hnb1 c2))
      go_ret
      exact ⟨.inl ⟨_, HR.out.symm, rfl, HSet.out.1⟩, HSet.out.2⟩
set_option maxHeartbeats 8000000 in
theorem endOm_any (h : OmAt base m p o ck an g op x w) (hx : OnOk x) (hy : ∀ y, lastOm (op, x) = some y → TkO y.2 → y.2.l.length ≤ 600000) (hop : op.length ≤ 160) :
    Calls Tryz.prog 156 #[.pointer (some ⟨m, 0, none⟩), .pointer (some ⟨o, 0, none⟩)] w fun e w' => ((∃ z y, lastOm (op, x) = some z ∧ TkO z.2 ∧ finO z.2 = some y ∧ e = .returned (.int .i64 0) ∧ OlZ base p o ck an g y w') ∨ (finOm (op, x) = none ∧ ∃ k l back, k ≠ 0 ∧ back ≤ op.length ∧ e = .returned (.int .i64 k) ∧ OutE w' base o ck back l)) ∧ Tch base onObj w w' := by
  have hmf : ∀ (fn : Fn) (first cap : Array Value) (w : World), (Instr.makeFunc fn first cap).run Tryz.prog w = .ok (.func fn first cap) w := fun _ _ _ _ => rfl
  -- the end, behind the last line
  have hend : Hid (∀ (w1 : World) (op1 : List UInt8) (y : Ox), OmAt base m p o ck an g op1 y w1 → y.l.length ≤ 600000 → ∃ ov, Blk w1 m 94 #[.iface 69 (.pointer (some ⟨p, 0, none⟩)), .slice (some ⟨g, 0, none⟩) 1 1, ov] ∧
      Calls Tryz.prog 160 #[.pointer (some ⟨w1.heap.size, 0, none⟩), .func (.method "End") #[.iface 69 (.pointer (some ⟨p, 0, none⟩))] #[]] (w1.alloc (.cells #[.string ⟨#[]⟩, .int .i64 0, .pointer (some ⟨o, 0, none⟩), .slice (some ⟨g, 0, none⟩) 1 1] 213)) (ExO base p o ck an g 0 (finO y) (w1.alloc (.cells #[.string ⟨#[]⟩, .int .i64 0, .pointer (some ⟨o, 0, none⟩), .slice (some ⟨g, 0, none⟩) 1 1] 213)))) := Lib.hid (fun w1 op1 y h1 hl => by
    obtain ⟨ov, hB, _⟩ := h1.blk
    refine ⟨ov, hB, ?_⟩
    have al : Below w1.heap.size w1 (w1.alloc (.cells #[.string ⟨#[]⟩, .int .i64 0, .pointer (some ⟨o, 0, none⟩), .slice (some ⟨g, 0, none⟩) 1 1] 213)) := (Below.refl _ _).alloc (Nat.le_refl _) _
    have hLB : LAt (w1.alloc (.cells #[.string ⟨#[]⟩, .int .i64 0, .pointer (some ⟨o, 0, none⟩), .slice (some ⟨g, 0, none⟩) 1 1] 213)) w1.heap.size (oL o g) [] 0 := Blk.new w1 _ _
    have hI := OlZ.line (h1.b.below al) hLB (Nat.le_refl _) (Nat.zero_le _) h1.b.pl.1 (nf_new h1.b.pl.2.2.1)
    exact examine_O hI "End" 167 (fun a w => by kernel_rfl) (fun args w => enters_of Tryz.func167 (by kernel_rfl) rfl args w) (finO y) (fun w1 h1 => fin_O hl h1))
  obtain ⟨ov, hB, hrow, hnf⟩ := h.blk
  obtain ⟨A, cap, hv⟩ := hrow.shape
  have hln : (op.map bV).length = op.length := List.length_map ..
  rw [hln] at hv
  subst hv
  have c2 : w.cell? ⟨m, 2, none⟩ = some (.slice A op.length cap) := hB.cell 2
  have hml := hB.lt
  obtain ⟨R, hR⟩ : ∃ R, finOm (op, x) = R := ⟨_, rfl⟩
  obtain ⟨Z, hZ⟩ : ∃ Z, lastOm (op, x) = Z := ⟨_, rfl⟩
  rw [hR, hZ]
  unfold finOm at hR
  rw [hZ] at hR hy
  unfold lastOm at hZ
  have HY := Lib.hid hy
  have HR := Lib.hid hR
  have HZ := Lib.hid hZ
  clear hy hR hZ
  by_cases h0 : 0 < op.length
  · rw [if_pos h0] at HZ
    have HE := Lib.hid (endLine_O h hx hop)
    have hd0 : decide ((0 : Int) < (op.length : Int)) = true := by simp; omega
    clear h hB hrow hnf
    go_enter Tryz.func156, Tryz.ntmps156
    go_wp2_with fail
    refine HE.out.mono ?_
    rintro e w1 ⟨⟨y, hr, rfl, h1⟩ | ⟨hr, k, l, back, hk0, hle, rfl, hO⟩, ht⟩
    case inr =>
      have e1 : (k == 0) = false := by rw [beq_eq_false_iff_ne]; exact hk0
      have e2 : (k != 0) = true := by simp [bne, e1]
      have HF := Lib.hid (show R = none ∧ k ≠ 0 ∧ OutE w1 base o ck back l ∧ Tch base onObj w w1 from ⟨by have hZn := HZ.out.symm.trans hr; rw [← HR.out, hZn]; rfl, hk0, hO, ht⟩)
      clear hr hk0 hO ht HE
      go_wp2
      go_ret
      exact ⟨.inr ⟨HF.out.1, k, l, back, HF.out.2.1, hle, rfl, HF.out.2.2.1⟩, HF.out.2.2.2⟩
    have hZy : Z = some y := HZ.out.symm.trans hr
    have hy2 := HY.out y hZy h1.b.tk
    rw [hZy] at HR
    have HR2 : Hid (finO y.2 = R) := Lib.hid HR.out
    have HZ2 := Lib.hid (And.intro hZy h1.b.tk)
    have h1d : OmAt base m p o ck an g y.1 y.2 w1.drew := ⟨h1.blk, h1.bm, h1.b.below (below_drew (Below.refl _ _))⟩
    obtain ⟨ov1, hB1, hEx⟩ := hend.out w1.drew y.1 y.2 h1d hy2
    rw [HR2.out] at hEx
    have HT1 := Lib.hid (ht.trans (Tch.of_below (below_drew (Below.refl _ _))))
    clear hr h1 ht h1d hy2 HE HR HY hend c2 hd0 HZ hZy
    have hLn := Lib.hid (oline_any w1.drew m o ⟨#[]⟩ 0 _ _ hB1)
    have HEx := Lib.hid hEx
    have d0 : w1.drew.cell? ⟨m, 0, none⟩ = some (.iface 69 (.pointer (some ⟨p, 0, none⟩))) := hB1.cell 0
    have d0a : (w1.drew.alloc (.cells #[.string ⟨#[]⟩, .int .i64 0, .pointer (some ⟨o, 0, none⟩), .slice (some ⟨g, 0, none⟩) 1 1] 213)).cell? ⟨m, 0, none⟩ = some (.iface 69 (.pointer (some ⟨p, 0, none⟩))) := (hB1.alloc _).cell 0
    have HB1a := Lib.hid (hB1.alloc (.cells #[.string ⟨#[]⟩, .int .i64 0, .pointer (some ⟨o, 0, none⟩), .slice (some ⟨g, 0, none⟩) 1 1] 213))
    clear hEx hB1
    go_wp2
    refine region_g [] (S := (fun W => W.cell? ⟨m, 0, none⟩ = some (.iface 69 (.pointer (some ⟨p, 0, none⟩))))) (by kernel_rfl) d0 (fun hH => ?_)
    refine g_take (i := 0) (v := .pointer (some ⟨m, 0, none⟩)) (by rfl) (by kernel_rfl) (by kernel_rfl) (by kernel_rfl) (by kernel_rfl) (fun _ _ _ h => (by cases h.1)) (Or.inl ⟨by kernel_rfl, fun W hS => (by go_simp)⟩) hH ?_
    simp only [Act.put, List.setIfInBounds_toArray, List.set_cons_zero, List.set_cons_succ]
    refine g_take (i := 1) (v := .pointer (some ⟨o, 0, none⟩)) (by rfl) (by kernel_rfl) (by kernel_rfl) (by kernel_rfl) (by kernel_rfl) (fun _ _ _ h => (by cases h.1)) (Or.inl ⟨by kernel_rfl, fun W hS => (by go_simp)⟩) hH ?_
    simp only [Act.put, List.setIfInBounds_toArray, List.set_cons_zero, List.set_cons_succ]
    refine g_take (i := 3) (v := .pointer (some ⟨m, 0, none⟩)) (by rfl) (by kernel_rfl) (by kernel_rfl) (by kernel_rfl) (by kernel_rfl) (fun _ _ _ h => (by cases h.1)) (Or.inl ⟨by kernel_rfl, fun W hS => (by go_simp)⟩) hH ?_
    simp only [Act.put, List.setIfInBounds_toArray, List.set_cons_zero, List.set_cons_succ]
    refine g_take (i := 4) (v := .pointer (some ⟨m, 0, none⟩)) (by rfl) (by kernel_rfl) (by kernel_rfl) (by kernel_rfl) (by kernel_rfl) (fun _ _ _ h => (by cases h.1)) (Or.inl ⟨by kernel_rfl, fun W hS => (by go_simp)⟩) hH ?_
    simp only [Act.put, List.setIfInBounds_toArray, List.set_cons_zero, List.set_cons_succ]
    refine g_take (i := 5) (v := .pointer (some ⟨m, 0, none⟩)) (by rfl) (by kernel_rfl) (by kernel_rfl) (by kernel_rfl) (by kernel_rfl) (fun _ _ _ h => (by cases h.1)) (Or.inl ⟨by kernel_rfl, fun W hS => (by go_simp)⟩) hH ?_
    simp only [Act.put, List.setIfInBounds_toArray, List.set_cons_zero, List.set_cons_succ]
    refine g_take (i := 6) (v := .iface 69 (.pointer (some ⟨p, 0, none⟩))) (by rfl) (by kernel_rfl) (by kernel_rfl) (by kernel_rfl) (by kernel_rfl) (fun _ _ _ h => (by cases h.1)) (Or.inl ⟨by kernel_rfl, fun W hS => (by go_simp)⟩) hH ?_
    simp only [Act.put, List.setIfInBounds_toArray, List.set_cons_zero, List.set_cons_succ]
    refine g_take (i := 7) (v := .iface 69 (.pointer (some ⟨p, 0, none⟩))) (by rfl) (by kernel_rfl) (by kernel_rfl) (by kernel_rfl) (by kernel_rfl) (fun _ _ _ h => (by cases h.1)) (Or.inl ⟨by kernel_rfl, fun W hS => (by go_simp)⟩) hH ?_
    simp only [Act.put, List.setIfInBounds_toArray, List.set_cons_zero, List.set_cons_succ]
    refine g_take (i := 8) (v := .func (.method "End") #[.iface 69 (.pointer (some ⟨p, 0, none⟩))] #[]) (by rfl) (by kernel_rfl) (by kernel_rfl) (by kernel_rfl) (by kernel_rfl) (fun _ _ _ h => (by cases h.1)) (Or.inl ⟨by kernel_rfl, fun W hS => (by go_simp)⟩) hH ?_
    simp only [Act.put, List.setIfInBounds_toArray, List.set_cons_zero, List.set_cons_succ]
    refine g_one (i := 2) (by kernel_rfl) (by rfl) (fun K hK => ?_)
    go_simp
    refine hLn.out.mono ?_
    rintro e w2 ⟨rfl, rfl⟩
    refine hK.out _ _ (fun _ => d0a) (fun _ => ?_)
    clear hK K hH hLn
    refine g_one (i := 9) (by kernel_rfl) (by rfl) (fun K hK => ?_)
    go_simp
    refine HEx.out.mono ?_
    rintro e w3 ⟨hq, ht3⟩
    have e0 : w3.cell? ⟨m, 0, none⟩ = some (.iface 69 (.pointer (some ⟨p, 0, none⟩))) := (Blk.tch HB1a.out ht3 (.inr (om_no _ _ _ (.inl rfl)))).cell 0
    have HT3 := Lib.hid ((HT1.out.trans (Tch.of_below ((Below.refl _ _).alloc (Nat.le_refl _) _))).trans (ht3.wide om_n))
    clear HEx HB1a HT1 d0 d0a ht3
    rcases hq with ⟨y3, hr3, rfl, hb3⟩ | ⟨hr3, k, hk0, rfl, l, back, hle, hO⟩
    · have HF := Lib.hid (And.intro hr3 hb3)
      refine hK.out _ _ (fun _ => e0) (fun _ => ?_)
      clear hK K hr3 hb3
      refine g_one (i := 10) (by kernel_rfl) (by rfl) (fun K hK => ?_)
      go_simp
      refine hK.out _ _ (fun _ => e0) (fun _ => ?_)
      clear hK K
      refine g_done (by kernel_rfl) ⟨by first | rfl | trivial, ?_⟩ _
      go_wp2
      go_ret
      exact ⟨.inl ⟨_, y3, HZ2.out.1, HZ2.out.2, HR2.out.trans HF.out.1, rfl, HF.out.2⟩, HT3.out⟩
    · have HF := Lib.hid (And.intro hr3 (And.intro hk0 hO))
      refine hK.out _ _ (fun _ => e0) (fun _ => ?_)
      clear hK K hr3 hO hk0
      refine g_one (i := 10) (by kernel_rfl) (by rfl) (fun K hK => ?_)
      go_simp
      refine hK.out _ _ (fun _ => e0) (fun _ => ?_)
      clear hK K
      refine g_done (by kernel_rfl) ⟨by first | rfl | trivial, ?_⟩ _
      go_wp2
      go_ret
      exact ⟨.inr ⟨HF.out.1, k, l, back, HF.out.2.1, Nat.le_trans hle (Nat.zero_le _), rfl, HF.out.2.2⟩, HT3.out⟩
  · rw [if_neg h0] at HZ
    have hZy : Z = some (([], x) : List UInt8 × Ox) := HZ.out.symm
    rw [hZy] at HR
    have HR2 : Hid (finO x = R) := Lib.hid HR.out
    have HZ2 := Lib.hid (And.intro hZy h.b.tk)
    have h00 : op.length = 0 := by omega
    have hd0 : decide ((0 : Int) < (op.length : Int)) = false := by rw [h00]; rfl
    have h1d : OmAt base m p o ck an g op x w.drew := ⟨h.blk, h.bm, h.b.below (below_drew (Below.refl _ _))⟩
    obtain ⟨ov1, hB1, hEx⟩ := hend.out w.drew op x h1d (by have := hx.ll; omega)
    rw [HR2.out] at hEx
    have HT1 := Lib.hid (Tch.of_below (below_drew (Below.refl w.heap.size w)) : Tch base onObj w w.drew)
    clear h hB hrow hnf HY HR hend h1d HZ hZy
    go_enter Tryz.func156, Tryz.ntmps156
    have hLn := Lib.hid (oline_any w.drew m o ⟨#[]⟩ 0 _ _ hB1)
    have HEx := Lib.hid hEx
    have d0 : w.drew.cell? ⟨m, 0, none⟩ = some (.iface 69 (.pointer (some ⟨p, 0, none⟩))) := hB1.cell 0
    have d0a : (w.drew.alloc (.cells #[.string ⟨#[]⟩, .int .i64 0, .pointer (some ⟨o, 0, none⟩), .slice (some ⟨g, 0, none⟩) 1 1] 213)).cell? ⟨m, 0, none⟩ = some (.iface 69 (.pointer (some ⟨p, 0, none⟩))) := (hB1.alloc _).cell 0
    have HB1a := Lib.hid (hB1.alloc (.cells #[.string ⟨#[]⟩, .int .i64 0, .pointer (some ⟨o, 0, none⟩), .slice (some ⟨g, 0, none⟩) 1 1] 213))
    clear hEx hB1
    go_wp2
    refine region_g [] (S := (fun W => W.cell? ⟨m, 0, none⟩ = some (.iface 69 (.pointer (some ⟨p, 0, none⟩))))) (by kernel_rfl) d0 (fun hH => ?_)
    refine g_take (i := 0) (v := .pointer (some ⟨m, 0, none⟩)) (by rfl) (by kernel_rfl) (by kernel_rfl) (by kernel_rfl) (by kernel_rfl) (fun _ _ _ h => (by cases h.1)) (Or.inl ⟨by kernel_rfl, fun W hS => (by go_simp)⟩) hH ?_
    simp only [Act.put, List.setIfInBounds_toArray, List.set_cons_zero, List.set_cons_succ]
    refine g_take (i := 1) (v := .pointer (some ⟨o, 0, none⟩)) (by rfl) (by kernel_rfl) (by kernel_rfl) (by kernel_rfl) (by kernel_rfl) (fun _ _ _ h => (by cases h.1)) (Or.inl ⟨by kernel_rfl, fun W hS => (by go_simp)⟩) hH ?_
    simp only [Act.put, List.setIfInBounds_toArray, List.set_cons_zero, List.set_cons_succ]
    refine g_take (i := 3) (v := .pointer (some ⟨m, 0, none⟩)) (by rfl) (by kernel_rfl) (by kernel_rfl) (by kernel_rfl) (by kernel_rfl) (fun _ _ _ h => (by cases h.1)) (Or.inl ⟨by kernel_rfl, fun W hS => (by go_simp)⟩) hH ?_
    simp only [Act.put, List.setIfInBounds_toArray, List.set_cons_zero, List.set_cons_succ]
    refine g_take (i := 4) (v := .pointer (some ⟨m, 0, none⟩)) (by rfl) (by kernel_rfl) (by kernel_rfl) (by kernel_rfl) (by kernel_rfl) (fun _ _ _ h => (by cases h.1)) (Or.inl ⟨by kernel_rfl, fun W hS => (by go_simp)⟩) hH ?_
    simp only [Act.put, List.setIfInBounds_toArray, List.set_cons_zero, List.set_cons_succ]
    refine g_take (i := 5) (v := .pointer (some ⟨m, 0, none⟩)) (by rfl) (by kernel_rfl) (by kernel_rfl) (by kernel_rfl) (by kernel_rfl) (fun _ _ _ h => (by cases h.1)) (Or.inl ⟨by kernel_rfl, fun W hS => (by go_simp)⟩) hH ?_
    simp only [Act.put, List.setIfInBounds_toArray, List.set_cons_zero, List.set_cons_succ]
    refine g_take (i := 6) (v := .iface 69 (.pointer (some ⟨p, 0, none⟩))) (by rfl) (by kernel_rfl) (by kernel_rfl) (by kernel_rfl) (by kernel_rfl) (fun _ _ _ h => (by cases h.1)) (Or.inl ⟨by kernel_rfl, fun W hS => (by go_simp)⟩) hH ?_
    simp only [Act.put, List.setIfInBounds_toArray, List.set_cons_zero, List.set_cons_succ]
    refine g_take (i := 7) (v := .iface 69 (.pointer (some ⟨p, 0, none⟩))) (by rfl) (by kernel_rfl) (by kernel_rfl) (by kernel_rfl) (by kernel_rfl) (fun _ _ _ h => (by cases h.1)) (Or.inl ⟨by kernel_rfl, fun W hS => (by go_simp)⟩) hH ?_
    simp only [Act.put, List.setIfInBounds_toArray, List.set_cons_zero, List.set_cons_succ]
    refine g_take (i := 8) (v := .func (.method "End") #[.iface 69 (.pointer (some ⟨p, 0, none⟩))] #[]) (by rfl) (by kernel_rfl) (by kernel_rfl) (by kernel_rfl) (by kernel_rfl) (fun _ _ _ h => (by cases h.1)) (Or.inl ⟨by kernel_rfl, fun W hS => (by go_simp)⟩) hH ?_
    simp only [Act.put, List.setIfInBounds_toArray, List.set_cons_zero, List.set_cons_succ]
    refine g_one (i := 2) (by kernel_rfl) (by rfl) (fun K hK => ?_)
    go_simp
    refine hLn.out.mono ?_
    rintro e w2 ⟨rfl, rfl⟩
    refine hK.out _ _ (fun _ => d0a) (fun _ => ?_)
    clear hK K hH hLn
    refine g_one (i := 9) (by kernel_rfl) (by rfl) (fun K hK => ?_)
    go_simp
    refine HEx.out.mono ?_
    rintro e w3 ⟨hq, ht3⟩
    have e0 : w3.cell? ⟨m, 0, none⟩ = some (.iface 69 (.pointer (some ⟨p, 0, none⟩))) := (Blk.tch HB1a.out ht3 (.inr (om_no _ _ _ (.inl rfl)))).cell 0
    have HT3 := Lib.hid ((HT1.out.trans (Tch.of_below ((Below.refl _ _).alloc (Nat.le_refl _) _))).trans (ht3.wide om_n))
    clear HEx HB1a HT1 d0 d0a ht3
    rcases hq with ⟨y3, hr3, rfl, hb3⟩ | ⟨hr3, k, hk0, rfl, l, back, hle, hO⟩
    · have HF := Lib.hid (And.intro hr3 hb3)
      refine hK.out _ _ (fun _ => e0) (fun _ => ?_)
      clear hK K hr3 hb3
      refine g_one (i := 10) (by kernel_rfl) (by rfl) (fun K hK => ?_)
      go_simp
      refine hK.out _ _ (fun _ => e0) (fun _ => ?_)
      clear hK K
      refine g_done (by kernel_rfl) ⟨by first | rfl | trivial, ?_⟩ _
      go_wp2
      go_ret
      exact ⟨.inl ⟨_, y3, HZ2.out.1, HZ2.out.2, HR2.out.trans HF.out.1, rfl, HF.out.2⟩, HT3.out⟩
    · have HF := Lib.hid (And.intro hr3 (And.intro hk0 hO))
      refine hK.out _ _ (fun _ => e0) (fun _ => ?_)
      clear hK K hr3 hO hk0
      refine g_one (i := 10) (by kernel_rfl) (by rfl) (fun K hK => ?_)
      go_simp
      refine hK.out _ _ (fun _ => e0) (fun _ => ?_)
      clear hK K
      refine g_done (by kernel_rfl) ⟨by first | rfl | trivial, ?_⟩ _
      go_wp2
      go_ret
      exact ⟨.inr ⟨HF.out.1, k, l, back, HF.out.2.1, Nat.le_trans hle (Nat.zero_le _), rfl, HF.out.2.2⟩, HT3.out⟩
end
end Go.Proofs.YtalkjgijmceifaaGreatDoor

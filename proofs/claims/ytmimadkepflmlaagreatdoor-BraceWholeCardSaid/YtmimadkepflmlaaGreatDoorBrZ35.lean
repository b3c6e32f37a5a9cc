/-
  Words for the laws of decoders: bytes appended that came in; bytes as a string; rows that are written over.
  The laws of brace: lives, few.
  stream: what was told is a run of the events' machine; when the end is OK it is a document: for any machine of which it holds step by step. No program is read here.
-/
import Derived.Test.YtmimadkepflmlaaGreatDoorBrZ24
import Derived.Test.YtmimadkepflmlaaGreatDoorBrZ20
import Derived.Deep.Upon
import Derived.Lib.BufferRead
import Derived.Test.YtmimadkepflmlaaGreatDoorBrZ34
import Derived.Lib.SlBytesConst
import Derived.Test.YtmimadkepflmlaaGreatDoorBrZ28
namespace Go.Proofs.YtmimadkepflmlaaGreatDoor
open Go.RowKit Go.Maps
set_option maxRecDepth 100000
set_option linter.unusedSimpArgs false
set_option linter.unusedVariables false
set_option linter.unusedSectionVars false
variable [Tab] [Fo]

section
variable {P : Program} {w : World}
theorem src_none (size : Nat) (tx e : TypeId) (ht : P.underlying tx = some (.slice e)) (c : Nat) : Src P size tx (.slice none 0 c) 0 [] w :=
  ⟨.inl ⟨e, ht⟩, fun w' => by simp [Builtin.lenOf], by simp [Builtin.firstCells], by simp [Builtin.firstCells], by simp, by simp⟩
/-- Bytes appended that came in. -/
theorem wp_appT {ops : Array Oper} {rest : List Oper} {o : Oper} {a : Act} {Q : Exit → Act → World → Prop} (hgd : o.guard = none) (s x : Operand) (t : TypeId)
    (ho : o.op = .call { callee := .builtin .append, args := #[s, x], argTypes := #[t, t] })
    (base : Nat) (e : TypeId) (ht : P.underlying t = some (.slice e)) (hinfo : (P.info? e).map (fun i => (i.zero, i.size, i.bytes)) = some (some (.int .u8 0), 1, 1))
    (v vx : Value) (l bs : List UInt8) (hs : a.eval s = v) (hown : ORow w base e v (l.map bV)) (hx : a.eval x = vx) (hr : BRead w vx bs)
    (h63 : l.length + bs.length ≤ 140737488355328) (hbase : base ≤ w.heap.size)
    (h : ∀ v' w', ORow w' base e v' ((l ++ bs).map bV) → w.grownBy w' v.ownBlock → NB w v v' → wpList P ops Q rest (a.put o.dst v') w') :
    wpList P ops Q (o :: rest) a w := by
  obtain ⟨A, c, rfl, hc⟩ := hr
  by_cases hb : 0 < bs.length
  · obtain ⟨ad, rfl, hcell⟩ := hc hb
    refine Qt.wp_appSg hgd s x t ho base e (.int .u8 0) 1 ht hinfo rfl v (l.map bV) (bs.map bV) hs hown (by intro u hu; simp at hu; obtain ⟨b, _, rfl⟩ := hu; rfl) ad bs.length c (by simp) hx (fun j u hj => ?_) (by simp [maxLen]; omega) (by simp; omega) hbase fun v' w' h1 h2 h3 => h v' w' (by rw [List.map_append]; exact h1) h2 h3
    have hjl : j < bs.length := by have := (List.getElem?_eq_some_iff.1 hj).1; simpa using this
    rw [hcell j hjl, List.getElem?_map, List.getElem?_eq_getElem hjl] at *
    simpa [bV] using hj
  · obtain rfl : bs = [] := List.eq_nil_of_length_eq_zero (by omega)
    cases A with
    | some ad =>
      refine Qt.wp_appSg hgd s x t ho base e (.int .u8 0) 1 ht hinfo rfl v (l.map bV) [] hs hown (by simp) ad 0 c rfl hx (by simp) (by simp [maxLen]; simp at h63; omega) (by simp; simp at h63; omega) hbase fun v' w' h1 h2 h3 => h v' w' (by simpa using h1) h2 h3
    | none =>
      obtain ⟨i, hi, hz, hsize, hby⟩ := info_parts hinfo
      refine wpList_plain hgd fun K hK => ?_
      obtain ⟨A', cap, hv⟩ := hown.shape
      have hle : (l.map bV).length ≤ cap := by
        rcases hown.form with ⟨hv', h0⟩ | ⟨g, cap', hv', _, _, hle, _⟩
        · rw [h0]; exact Nat.zero_le _
        · rw [hv] at hv'
          injection hv' with _ _ e3
          subst e3
          exact hle
      subst hv
      have hrun := run_append_nothing (P := P) w t t o.type e i ht hi A' (l.map bV).length cap hle (.slice none 0 c) (src_none _ _ _ ht c)
      unfold Oper.wp execOp
      simp only [ho, resolve, invoke, builtin, Sem.run_bind, Sem.run_pure, Result.andThen_ok, List.map_toArray, List.map_cons, List.map_nil, hs, hx, List.length_nil, hrun]
      exact hK _ _ (h _ _ (by simpa using hown) (World.grownBy.refl _ _) (.inl rfl))
/-- string(b), b having come in. -/
theorem str_of_read {v : Value} {l : List UInt8} (src dst e : TypeId) (hs : P.underlying src = some (.slice e)) (he : P.underlying e = some (.int .u8)) (hd : P.underlying dst = some .string) (h : BRead w v l) :
    (convert src dst v).run P w = .ok (.string ⟨l.toArray⟩) w := by
  obtain ⟨A, c, rfl, hc⟩ := h
  cases A with
  | some ad =>
    refine run_convert_bytes_back w src dst e ad c l hs he hd fun j hj => ?_
    obtain ⟨ad', e1, hcell⟩ := hc (by omega)
    injection e1 with e1
    subst e1
    exact hcell j hj
  | none =>
    have h0 : l = [] := by
      rcases Nat.eq_zero_or_pos l.length with h | h
      · exact List.eq_nil_of_length_eq_zero h
      · obtain ⟨_, e1, _⟩ := hc h; cases e1
    subst h0
    exact Lib.run_convert_nil_bytes w src dst e c hs he hd
end
theorem row_len {w : World} {b : Nat} {e : TypeId} {size n : Nat} {v : Value} {xs : List Value} (h : w.ownsRow b e size v n xs) : xs.length = n * size := h.1
theorem row_get {w : World} {base r : Nat} {e : TypeId} {size n cap : Nat} {xs : List Value} (h : w.ownsRow base e size (.slice (some ⟨r, 0, none⟩) n cap) n xs) {i : Nat} (hi : i < n * size) : ∃ u, w.cell? ⟨r, i, none⟩ = some u := by
  have hl := row_len h
  exact ⟨xs[i]'(by omega), by rw [rowN_cell h hi]; exact List.getElem?_eq_getElem (by omega)⟩
theorem rowX_shape {w : World} {base : Nat} {e : TypeId} {size n : Nat} {v : Value} {xs : List Value} (h : w.ownsRow base e size v n xs) : ∃ A c, v = .slice A n c ∧ (0 < n → ∃ r, A = some ⟨r, 0, none⟩) := by
  rcases h.2 with ⟨rfl, rfl⟩ | ⟨g, cap, cur, rfl, _⟩
  · exact ⟨none, 0, rfl, fun h => absurd h (Nat.lt_irrefl _)⟩
  · exact ⟨_, _, rfl, fun _ => ⟨_, rfl⟩⟩
theorem below_gr {base : Nat} {w w' : World} {v : Value} {e : TypeId} {size n : Nat} {xs : List Value} (h : w.ownsRow base e size v n xs) (hg : w.grownBy w' v.ownBlock) (hb : base ≤ w.heap.size) : Below base w w' :=
  ⟨hg.os, hg.tape, hg.output, hg.size, fun k hk => hg.block k (by omega) fun hc => by have := World.ownsRow.lt h k hc.symm; omega⟩
end Go.Proofs.YtmimadkepflmlaaGreatDoor
namespace Go.Proofs.YtmimadkepflmlaaGreatDoor
open Go.RowKit Go.Maps
set_option maxRecDepth 100000
set_option linter.unusedSimpArgs false
set_option linter.unusedVariables false
set_option linter.unusedSectionVars false
variable [Tab] [Fo]

def liveT_B : List UInt8 := [91, 49, 44, 32, 34, 97, 34, 93]
def liveL_B : List Ev := [⟨5, ⟨#[]⟩, ⟨#[]⟩⟩, ⟨3, ⟨#[49]⟩, ⟨#[]⟩⟩, ⟨4, ⟨#[97]⟩, ⟨#[]⟩⟩, ⟨6, ⟨#[]⟩, ⟨#[]⟩⟩]
theorem live_e_B : bEr liveT_B = 0 := by kernel_rfl
theorem live_rd_B : bRd liveT_B = 8 := by kernel_rfl
theorem live_l_B : bEv liveT_B = liveL_B := by kernel_rfl

set_option maxHeartbeats 4000000 in
theorem lives_B (w : World) (hw : Nm.StdW w) (hfl : Fo.lim ≤ w.heap.size) : Calls Tryz.prog 8 #[] w fun e w' => e = .returned (.bool true) ∧ Below w.heap.size w w' := by
  have al : Below w.heap.size w (w.alloc (.cells #[.int .u8 91, .int .u8 49, .int .u8 44, .int .u8 32, .int .u8 34, .int .u8 97, .int .u8 34, .int .u8 93] 5 (8, 9))) := (Below.refl _ _).alloc (Nat.le_refl _) _
  have hR : BRead (w.alloc (.cells #[.int .u8 91, .int .u8 49, .int .u8 44, .int .u8 32, .int .u8 34, .int .u8 97, .int .u8 34, .int .u8 93] 5 (8, 9))) (.slice (some ⟨w.heap.size, 0, none⟩) 8 8) liveT_B := by
    refine ⟨_, _, rfl, fun _ => ⟨_, rfl, fun j hj => ?_⟩⟩
    rw [addr_add0, World.cell?_alloc_mark]
    have hj' : j < 8 := hj
    match j, hj' with
    | 0, _ => rfl
    | 1, _ => rfl
    | 2, _ => rfl
    | 3, _ => rfl
    | 4, _ => rfl
    | 5, _ => rfl
    | 6, _ => rfl
    | 7, _ => rfl
  have hC := bdecode_any _ _ liveT_B (by decide) hR (hw.below al) (Nat.le_trans hfl al.size)
  rw [live_e_B, live_rd_B, live_l_B] at hC
  have hcv := Lib.run_convert_bytes_const (P := Tryz.prog) w 22 5 #[.int .u8 91, .int .u8 49, .int .u8 44, .int .u8 32, .int .u8 34, .int .u8 97, .int .u8 34, .int .u8 93] 8 8 Tryz.underlying22 Tryz.underlying5
  simp only [List.size_toArray, List.length_cons, List.length_nil, Nat.zero_add, Nat.reduceAdd] at hcv
  clear hR
  have HAL := Lib.hid al
  clear al
  go_enter Tryz.func8, Tryz.ntmps8
  go_wp2_with fail
  refine hC.mono ?_
  rintro e w1 ⟨lv, rfl, hRow, hb1⟩
  have HB := Lib.hid (HAL.out.trans (hb1.mono HAL.out.size))
  obtain ⟨A, c, hlv, _, _, hr⟩ := hRow.read
  obtain ⟨b, o, rfl, hcell⟩ := hr (by decide)
  have hlv' : lv = .slice (some ⟨b, o, none⟩) 4 c := hlv
  subst hlv'
  obtain ⟨x0, x1, x2⟩ := hcell 1 (by decide)
  obtain ⟨y0, y1, y2⟩ := hcell 2 (by decide)
  have x0' : w1.cell? ⟨b, o + 3, none⟩ = some (.int .i64 3) := x0
  have x1' : w1.cell? ⟨b, o + 4, none⟩ = some (.string ⟨#[49]⟩) := x1
  have x2' : w1.cell? ⟨b, o + 5, none⟩ = some (.string ⟨#[]⟩) := x2
  have y0' : w1.cell? ⟨b, o + 6, none⟩ = some (.int .i64 4) := y0
  have y1' : w1.cell? ⟨b, o + 7, none⟩ = some (.string ⟨#[97]⟩) := y1
  have y2' : w1.cell? ⟨b, o + 8, none⟩ = some (.string ⟨#[]⟩) := y2
  clear hRow hb1 hr hcell hlv x0 x1 x2 y0 y1 y2 hC hcv
  go_wp2
  go_ret
  exact ⟨rfl, HB.out⟩

theorem few_B (w : World) (A : Option Addr) (c : Nat) (bs : List UInt8) (hv : BRead w (.slice A bs.length c) bs) (hc : bs.length ≤ c) :
    Calls Tryz.prog 5 #[.slice A bs.length c] w fun e w' => e = .returned (.slice A (bs.take 600).length c) ∧ BRead w (.slice A (bs.take 600).length c) (bs.take 600) ∧ w = w' := by
  by_cases h6 : 600 < bs.length
  · obtain ⟨A', c', he, hr⟩ := hv
    injection he with e1 _ e3
    subst e1 e3
    obtain ⟨ad, rfl, hcell⟩ := hr (by omega)
    have hz : decide ((600 : Int) < (bs.length : Int)) = true := by simp; omega
    have hle : 600 ≤ c := by omega
    have hl : (bs.take 600).length = 600 := by rw [List.length_take]; omega
    have HV : BRead w (.slice (some ad) (bs.take 600).length c) (bs.take 600) := by
      refine ⟨some ad, c, rfl, fun _ => ⟨ad, rfl, fun j hj => ?_⟩⟩
      rw [List.getElem_take]
      exact hcell j (by omega)
    have HR := Lib.hid HV
    rw [hl]
    rw [hl] at HR
    clear hcell hr HV hl
    generalize bs.take 600 = ts at *
    go_enter Tryz.func5, Tryz.ntmps5
    go_wp2
    go_ret
    exact ⟨rfl, HR.out, rfl⟩
  · have hz : decide ((600 : Int) < (bs.length : Int)) = false := by simp; omega
    rw [List.take_of_length_le (by omega)]
    have HV := Lib.hid hv
    clear hv
    go_enter Tryz.func5, Tryz.ntmps5
    go_wp2
    go_ret
    exact ⟨rfl, HV.out, rfl⟩
end Go.Proofs.YtmimadkepflmlaaGreatDoor
namespace Go.Proofs.YtmimadkepflmlaaGreatDoor
set_option maxRecDepth 100000
set_option linter.unusedSimpArgs false
set_option linter.unusedVariables false
set_option linter.unusedSectionVars false
variable [Tab] [Fo]

/-- What was told is a run. -/
structure TkM (M : Mach) (x : M.σ) : Prop where
  ok : allOk [topP] (M.l x)
  run : M.st x = runS [topP] (M.l x)
  sz : ∀ e ∈ M.l x, okE e
structure MachW (M : Mach) where
  PI : M.σ → Prop
  tk : ∀ {x}, PI x → TkM M x
  pi0 : PI M.x0
  step : ∀ {x n} b, PI x → M.Inv x n → TkM M (M.stp x b) ∧ (M.ste x b = 0 → PI (M.stp x b))
  fin : ∀ {x n}, PI x → M.Inv x n → TkM M (M.fin x) ∧ (M.fne x = 0 → doneB (M.st (M.fin x)) = true)
  len : ∀ {x n}, M.Inv x n → (M.l (M.fin x)).length ≤ 2 * (n + 1)
variable {M : Mach} (F : MachW M)
structure FI (x : Ss M) (k : Nat) : Prop where
  tk : TkM M x.b
  pi : x.e = 0 → F.PI x.b
  rd : x.e = 0 → x.rd = k
theorem fi_feed1 {x : Ss M} {k : Nat} (h : FI F x k) (hi : SInv x k) (c : UInt8) : FI F (feed1 x c) (k + 1) := by
  unfold feed1
  split
  · rename_i he; exact ⟨h.tk, fun h0 => absurd h0 he, fun h0 => absurd h0 he⟩
  · rename_i he
    have he' : x.e = 0 := by simpa using he
    split
    · have hp := F.step c (h.pi he') hi.b
      exact ⟨hp.1, hp.2, fun h0 => by have h0' : M.ste x.b c = 0 := h0; simp only [if_pos h0']; rw [h.rd he']⟩
    · exact ⟨h.tk, fun h0 => absurd (show (3 : Int) = 0 from h0) (by decide), fun h0 => absurd (show (3 : Int) = 0 from h0) (by decide)⟩
theorem fi_feedG : ∀ (l : List UInt8) (x : Ss M) (k : Nat), FI F x k → SInv x k → FI F (feedG x l) (k + l.length)
  | [], _, _, h, _ => h
  | c :: l, x, k, h, hi => by
    have := fi_feedG l (feed1 x c) (k + 1) (fi_feed1 F h hi c) (sinv_feed1 hi c)
    rw [feedG_cons, List.length_cons]
    rwa [show k + (l.length + 1) = k + 1 + l.length from by omega]
theorem fi0 : FI F (ss0 M) 0 := ⟨F.tk F.pi0, fun _ => F.pi0, fun _ => rfl⟩
/-- All of a text. -/
theorem text_facts (F : MachW M) (bs : List UInt8) : (M.l (closeBs (feedG (ss0 M) bs))).length ≤ 4 * bs.length + 2 ∧ (feedG (ss0 M) bs).rd ≤ bs.length ∧ (closeE (feedG (ss0 M) bs) = 0 → (feedG (ss0 M) bs).rd = bs.length)
    ∧ (∀ x ∈ (M.l (closeBs (feedG (ss0 M) bs))), okE x)
    ∧ wholeGo 0 [topP] (M.l (closeBs (feedG (ss0 M) bs))) = ((M.l (closeBs (feedG (ss0 M) bs))).length, if doneB (M.st (closeBs (feedG (ss0 M) bs))) then 0 else 19)
    ∧ (closeE (feedG (ss0 M) bs) = 0 → doneB (M.st (closeBs (feedG (ss0 M) bs))) = true) := by
  have hf := fi_feedG F bs (ss0 M) 0 (fi0 F) sinv0
  have hs := sinv_feedG bs (ss0 M) 0 sinv0
  rw [Nat.zero_add] at hf hs
  generalize feedG (ss0 M) bs = y at *
  have hE : TkM M (closeBs y) ∧ (closeE y = 0 → y.e = 0 ∧ doneB (M.st (closeBs y)) = true) := by
    unfold closeE closeBs endE endBs
    by_cases he : y.e = 0
    · by_cases hz : y.sl = 0
      · simp only [he, hz, ne_eq, not_true_eq_false, if_false, if_true, true_and]
        have := F.fin (hf.pi he) hs.b
        exact ⟨this.1, fun h => this.2 h⟩
      · simp only [he, hz, ne_eq, not_true_eq_false, if_false, true_and]
        exact ⟨hf.tk, fun h => absurd h (by decide)⟩
    · simp only [he, ne_eq, not_false_eq_true, if_true, false_and]
      exact ⟨hf.tk, fun h => h⟩
  have hlen : (M.l (closeBs y)).length ≤ 4 * bs.length + 2 := by
    have h1 := F.len hs.b
    have h2 := M.inv_len hs.b
    unfold closeBs endBs
    split
    · omega
    · split <;> omega
  refine ⟨hlen, hs.rd, fun h => hf.rd (hE.2 h).1, hE.1.sz, ?_, fun h => (hE.2 h).2⟩
  rw [whole_of hE.1.ok, ← hE.1.run]
end Go.Proofs.YtmimadkepflmlaaGreatDoor

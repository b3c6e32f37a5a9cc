/-
  quote: the values of digits and letters, the map of escapes; a Quote is a block of four cells, and add, Text, endEscape turn it.
  Words for the laws of decoders: bytes appended that came in; bytes as a string; rows that are written over.
  The laws of delim: lives, few.
-/
import Derived.Test.YtfciacigamjfkabGreatDmC34
import Derived.Test.YtfciacigamjfkabGreatDmC06
import Derived.Test.YtfciacigamjfkabGreatDmC15
import Derived.Maps.OwnSet
import Derived.Maps.OwnOps
import Derived.Test.YtfciacigamjfkabGreatDmC21
import Derived.Deep.Upon
import Derived.Lib.BufferRead
import Derived.Test.YtfciacigamjfkabGreatDmC33
import Derived.Lib.SlBytesConst
namespace Go.Proofs.YtfciacigamjfkabGreat.Qt
open Go.RowKit Go.Maps
set_option maxRecDepth 100000
set_option linter.unusedSectionVars false
variable [Fo]

section
variable {P : Program} {w : World}
/-- Elements appended that lie somewhere. -/
theorem wp_appS {ops : Array Oper} {rest : List Oper} {o : Oper} {a : Act} {Q : Exit → Act → World → Prop} (hgd : o.guard = none) (s x : Operand) (t : TypeId)
    (ho : o.op = .call { callee := .builtin .append, args := #[s, x], argTypes := #[t, t] })
    (base : Nat) (e : TypeId) (z : Value) (bytes : Nat) (ht : P.underlying t = some (.slice e)) (hinfo : (P.info? e).map (fun i => (i.zero, i.size, i.bytes)) = some (some z, 1, bytes)) (hz1 : z.cells.size = 1)
    (v : Value) (xs news : List Value) (hs : a.eval s = v) (hown : ORow w base e v xs) (hu : ∀ u ∈ news, u.oneCell' = true)
    (A : Addr) (m c : Nat) (hm : news.length = m) (hx : a.eval x = .slice (some A) m c) (hc : ∀ j u, news[j]? = some u → w.cell? (A.add j) = some u)
    (h63 : xs.length + m ≤ maxLen) (hbytes : (xs.length + m) * bytes ≤ 140737488355328) (hbase : base ≤ w.heap.size)
    (h : ∀ v' w', ORow w' base e v' (xs ++ news) → Below base w w' → wpList P ops Q rest (a.put o.dst v') w') :
    wpList P ops Q (o :: rest) a w := by
  obtain ⟨i, hi, hz, hsize, hby⟩ := info_parts hinfo
  refine wpList_plain hgd fun K hK => ?_
  obtain ⟨v', w', hrun, h2, h3, _, h5⟩ := run_append_own_at (P := P) w base t o.type e i z 1 bytes ht hi hz hsize hby hz1 (by decide) v xs.length xs hown
    A m c news (by simp [hm]) hc hu h63 hbytes hbase
  unfold Oper.wp execOp
  simp only [ho, resolve, invoke, builtin, Sem.run_bind, Sem.run_pure, Result.andThen_ok, List.map_toArray, List.map_cons, List.map_nil, hs, hx, hrun]
  refine hK _ _ (h v' w' ?_ ?_)
  · unfold ORow
    rw [List.length_append, hm]
    exact h2
  · refine ⟨h3.os, h3.tape, h3.output, h3.size, fun k hk => h3.block k (by omega) fun hcc => ?_⟩
    have := World.ownsRow.lt hown k hcc.symm
    omega
end
section
variable {P : Program} {w : World}
/-- Elements appended that lie somewhere: which block has turned, and where the row lies then. -/
theorem wp_appSg {ops : Array Oper} {rest : List Oper} {o : Oper} {a : Act} {Q : Exit → Act → World → Prop} (hgd : o.guard = none) (s x : Operand) (t : TypeId)
    (ho : o.op = .call { callee := .builtin .append, args := #[s, x], argTypes := #[t, t] })
    (base : Nat) (e : TypeId) (z : Value) (bytes : Nat) (ht : P.underlying t = some (.slice e)) (hinfo : (P.info? e).map (fun i => (i.zero, i.size, i.bytes)) = some (some z, 1, bytes)) (hz1 : z.cells.size = 1)
    (v : Value) (xs news : List Value) (hs : a.eval s = v) (hown : ORow w base e v xs) (hu : ∀ u ∈ news, u.oneCell' = true)
    (A : Addr) (m c : Nat) (hm : news.length = m) (hx : a.eval x = .slice (some A) m c) (hc : ∀ j u, news[j]? = some u → w.cell? (A.add j) = some u)
    (h63 : xs.length + m ≤ maxLen) (hbytes : (xs.length + m) * bytes ≤ 140737488355328) (hbase : base ≤ w.heap.size)
    (h : ∀ v' w', ORow w' base e v' (xs ++ news) → w.grownBy w' v.ownBlock → NB w v v' → wpList P ops Q rest (a.put o.dst v') w') :
    wpList P ops Q (o :: rest) a w := by
  obtain ⟨i, hi, hz, hsize, hby⟩ := info_parts hinfo
  refine wpList_plain hgd fun K hK => ?_
  obtain ⟨v', w', hrun, h2, h3, _, h5⟩ := run_append_own_at (P := P) w base t o.type e i z 1 bytes ht hi hz hsize hby hz1 (by decide) v xs.length xs hown
    A m c news (by simp [hm]) hc hu h63 hbytes hbase
  unfold Oper.wp execOp
  simp only [ho, resolve, invoke, builtin, Sem.run_bind, Sem.run_pure, Result.andThen_ok, List.map_toArray, List.map_cons, List.map_nil, hs, hx, hrun]
  refine hK _ _ (h v' w' ?_ h3 (h5.imp id fun e => ⟨_, e, Nat.le_refl _⟩))
  unfold ORow
  rw [List.length_append, hm]
  exact h2
end
theorem _root_.Go.Proofs.YtfciacigamjfkabGreat.ORow.set_far {w : World} {base : Nat} {e : TypeId} {v : Value} {xs : List Value} (h : ORow w base e v xs) {p : Addr} (hp : p.block < base) (u : Value) : ORow (w.setCell p u) base e v xs := by
  refine ⟨h.1, ?_⟩
  rcases h.2 with hn | ⟨g, cap, cur, hv, hg, hh, r⟩
  · exact .inl hn
  · exact .inr ⟨g, cap, cur, hv, hg, (Below.heap_setCell w p u g (by omega)).trans hh, r⟩

theorem ret_pair {a b : Int} {x y : Bool} (h : a = b) (h' : x = y) : Ending.returned (.tuple #[.int .i64 a, .bool x]) = .returned (.tuple #[.int .i64 b, .bool y]) := by rw [h, h']
theorem ret_pair8 {a b : Int} {x y : Bool} (h : a = b) (h' : x = y) : Ending.returned (.tuple #[.int .u8 a, .bool x]) = .returned (.tuple #[.int .u8 b, .bool y]) := by rw [h, h']

def hexV (b : Int) : Int := if hexI b < 0 then 0 else hexI b
def escV (b : Int) : Int := if escI b < 0 then 0 else escI b

theorem dig_any (b : Int) (h0 : 0 ≤ b) (h1 : b ≤ 255) (w : World) :
    Calls Tryz.prog 303 #[.int .u8 b] w fun e w' => e = .returned (.tuple #[.int .i64 (hexV b), .bool (decide (0 ≤ hexI b))]) ∧ w = w' := by
  go_enter Tryz.func303, Tryz.ntmps303
  go_wp2
  all_goals go_ret2
  all_goals refine ⟨ret_pair ?_ ?_, rfl⟩
  all_goals try rw [Bool.eq_iff_iff, decide_eq_true_eq]
  all_goals simp only [hexV, hexI]
  all_goals repeat (first | rw [if_pos (by omega)] | rw [if_neg (by omega)])
  all_goals first | omega | (simp; omega) | simp

theorem hex_any (b : Int) (h0 : 0 ≤ b) (h1 : b ≤ 255) (w : World) :
    Calls Tryz.prog 106 #[.int .u8 b] w fun e w' => e = .returned (.int .i64 (hexI b)) ∧ w = w' := by
  go_enter Tryz.func106, Tryz.ntmps106
  go_wp2
  all_goals go_ret
  all_goals refine ⟨ret_int ?_, rfl⟩
  all_goals simp only [hexI]
  all_goals repeat (first | rw [if_pos (by omega)] | rw [if_neg (by omega)])

theorem plain_any (b : Int) (h0 : 0 ≤ b) (_h1 : b ≤ 255) (w : World) :
    Calls Tryz.prog 105 #[.int .u8 b] w fun e w' => e = .returned (.tuple #[.int .u8 (escV b), .bool (decide (0 ≤ escI b))]) ∧ w = w' := by
  go_enter Tryz.func105, Tryz.ntmps105
  go_wp2
  all_goals go_ret2
  all_goals refine ⟨ret_pair8 ?_ ?_, rfl⟩
  all_goals simp only [beq_iff_eq, beq_eq_false_iff_ne] at *
  all_goals try rw [Bool.eq_iff_iff, decide_eq_true_eq]
  all_goals simp only [escV, escI]
  all_goals repeat (first | rw [if_pos (by omega)] | rw [if_neg (by omega)])
  all_goals first | omega | (simp; omega) | simp

/-! The map of escapes. -/
def denPairs : List (Int × Int) := [(34, 34), (92, 92), (47, 47), (110, 10), (116, 9), (114, 13), (98, 8), (102, 12)]
def denD : DataW Unit := denPairs.foldl (fun m p => m.put (.int .u8 p.1) (.lit (.int .u8 p.2))) (.map [])
theorem keyLaw : Keyed Tryz.prog 5 := int_keyed Tryz.underlying5
theorem zeroB (w : World) : (zeroValue 5).run Tryz.prog w = .ok (.int .u8 0) w := by kernel_rfl
theorem wf_b {b : Int} (h0 : 0 ≤ b) (h1 : b ≤ 255) : (Lit.int .u8 b).wf = true := by simp [Lit.wf, IntKind.min, IntKind.max, IntKind.signed, IntKind.bits]; omega
theorem has_put1 (D : DataW Unit) (hD : IsMap D) (a k : Int) (d : DataW Unit) : Maps.has (D.put (.int .u8 a) d) (.int .u8 k) = if k = a then true else Maps.has D (.int .u8 k) := by
  split
  · rename_i h
    subst h
    exact has_put_same hD (by simp [WideAt.IsKeyLit]) d
  · rename_i h
    exact has_put_other (by intro hc; injection hc with _ hc; exact h hc) d
theorem at_put1 (D : DataW Unit) (hD : IsMap D) (a k : Int) (d z : DataW Unit) : (D.put (.int .u8 a) d).atKey (.int .u8 k) z = if k = a then d else D.atKey (.int .u8 k) z := by
  split
  · rename_i h
    subst h
    exact atKey_put_same hD (by simp [WideAt.IsKeyLit]) d z
  · rename_i h
    exact atKey_put_other (by intro hc; injection hc with _ hc; exact h hc) d z
theorem den_has (b : Int) : Maps.has denD (.int .u8 b) = decide (0 ≤ escI b) := by
  have hm := isMap_empty (H := Unit)
  simp only [denD, denPairs, List.foldl_cons, List.foldl_nil]
  repeat rw [has_put1 _ (by repeat (first | exact hm | apply IsMap.put))]
  unfold escI
  repeat' split
  all_goals first | rfl | (exfalso; omega) | simp_all
theorem den_at (b : Int) (h : 0 ≤ escI b) : denD.atKey (.int .u8 b) (.lit (.int .u8 0)) = .lit (.int .u8 (escI b)) := by
  have hm := isMap_empty (H := Unit)
  simp only [denD, denPairs, List.foldl_cons, List.foldl_nil]
  repeat rw [at_put1 _ (by repeat (first | exact hm | apply IsMap.put))]
  unfold escI at h ⊢
  repeat' split
  all_goals first | rfl | (exfalso; omega) | simp_all
end Go.Proofs.YtfciacigamjfkabGreat.Qt
namespace Go.Proofs.YtfciacigamjfkabGreat
open Go.RowKit Go.Maps
set_option maxRecDepth 100000
set_option linter.unusedSimpArgs false
set_option linter.unusedVariables false
set_option linter.unusedSectionVars false
variable [Tab] [Fo]

section
variable {P : Program} {w : World}
theorem src_none (size : Nat) (tx e : TypeId) (ht : P.underlying tx = some (.slice e)) (c : Nat) : Src P size tx (.slice none 0 c) 0 [] w :=
  ⟨.inl ⟨e, ht⟩, fun w' => by simp [Builtin.lenOf], by simp [Builtin.firstCells], by simp [Builtin.firstCells], by simp, by simp⟩
/-- Bytes appended that came in. -/
theorem wp_appT {ops : Array Oper} {rest : List Oper} {o : Oper} {a : Act} {Q : Exit → Act → World → Prop} (hgd : o.guard = none) (s x : Operand) (t : TypeId)
    (ho : o.op = .call { callee := .builtin .append, args := #[s, x], argTypes := #[t, t] })
    (base : Nat) (e : TypeId) (ht : P.underlying t = some (.slice e)) (hinfo : (P.info? e).map (fun i => (i.zero, i.size, i.bytes)) = some (some (.int .u8 0), 1, 1))
    (v vx : Value) (l bs : List UInt8) (hs : a.eval s = v) (hown : ORow w base e v (l.map bV)) (hx : a.eval x = vx) (hr : BRead w vx bs)
    (h63 : l.length + bs.length ≤ 140737488355328) (hbase : base ≤ w.heap.size)
    (h : ∀ v' w', ORow w' base e v' ((l ++ bs).map bV) → w.grownBy w' v.ownBlock → NB w v v' → wpList P ops Q rest (a.put o.dst v') w') :
    wpList P ops Q (o :: rest) a w := by
  obtain ⟨A, c, rfl, hc⟩ := hr
  by_cases hb : 0 < bs.length
  · obtain ⟨ad, rfl, hcell⟩ := hc hb
    refine Qt.wp_appSg hgd s x t ho base e (.int .u8 0) 1 ht hinfo rfl v (l.map bV) (bs.map bV) hs hown (by intro u hu; simp at hu; obtain ⟨b, _, rfl⟩ := hu; rfl) ad bs.length c (by simp) hx (fun j u hj => ?_) (by simp [maxLen]; omega) (by simp; omega) hbase fun v' w' h1 h2 h3 => h v' w' (by rw [List.map_append]; exact h1) h2 h3
    have hjl : j < bs.length := by have := (List.getElem?_eq_some_iff.1 hj).1; simpa using this
    rw [hcell j hjl, List.getElem?_map, List.getElem?_eq_getElem hjl] at *
    simpa [bV] using hj
  · obtain rfl : bs = [] := List.eq_nil_of_length_eq_zero (by omega)
    cases A with
    | some ad =>
      refine Qt.wp_appSg hgd s x t ho base e (.int .u8 0) 1 ht hinfo rfl v (l.map bV) [] hs hown (by simp) ad 0 c rfl hx (by simp) (by simp [maxLen]; simp at h63; omega) (by simp; simp at h63; omega) hbase fun v' w' h1 h2 h3 => h v' w' (by simpa using h1) h2 h3
    | none =>
      obtain ⟨i, hi, hz, hsize, hby⟩ := info_parts hinfo
      refine wpList_plain hgd fun K hK => ?_
      obtain ⟨A', cap, hv⟩ := hown.shape
      have hle : (l.map bV).length ≤ cap := by
        rcases hown.form with ⟨hv', h0⟩ | ⟨g, cap', hv', _, _, hle, _⟩
        · rw [h0]; exact Nat.zero_le _
        · rw [hv] at hv'
          injection hv' with _ _ e3
          subst e3
          exact hle
      subst hv
      have hrun := run_append_nothing (P := P) w t t o.type e i ht hi A' (l.map bV).length cap hle (.slice none 0 c) (src_none _ _ _ ht c)
      unfold Oper.wp execOp
      simp only [ho, resolve, invoke, builtin, Sem.run_bind, Sem.run_pure, Result.andThen_ok, List.map_toArray, List.map_cons, List.map_nil, hs, hx, List.length_nil, hrun]
      exact hK _ _ (h _ _ (by simpa using hown) (World.grownBy.refl _ _) (.inl rfl))
/-- string(b), b having come in. -/
theorem str_of_read {v : Value} {l : List UInt8} (src dst e : TypeId) (hs : P.underlying src = some (.slice e)) (he : P.underlying e = some (.int .u8)) (hd : P.underlying dst = some .string) (h : BRead w v l) :
    (convert src dst v).run P w = .ok (.string ⟨l.toArray⟩) w := by
  obtain ⟨A, c, rfl, hc⟩ := h
  cases A with
  | some ad =>
    refine run_convert_bytes_back w src dst e ad c l hs he hd fun j hj => ?_
    obtain ⟨ad', e1, hcell⟩ := hc (by omega)
    injection e1 with e1
    subst e1
    exact hcell j hj
  | none =>
    have h0 : l = [] := by
      rcases Nat.eq_zero_or_pos l.length with h | h
      · exact List.eq_nil_of_length_eq_zero h
      · obtain ⟨_, e1, _⟩ := hc h; cases e1
    subst h0
    exact Lib.run_convert_nil_bytes w src dst e c hs he hd
end
theorem row_len {w : World} {b : Nat} {e : TypeId} {size n : Nat} {v : Value} {xs : List Value} (h : w.ownsRow b e size v n xs) : xs.length = n * size := h.1
theorem row_get {w : World} {base r : Nat} {e : TypeId} {size n cap : Nat} {xs : List Value} (h : w.ownsRow base e size (.slice (some ⟨r, 0, none⟩) n cap) n xs) {i : Nat} (hi : i < n * size) : ∃ u, w.cell? ⟨r, i, none⟩ = some u := by
  have hl := row_len h
  exact ⟨xs[i]'(by omega), by rw [rowN_cell h hi]; exact List.getElem?_eq_getElem (by omega)⟩
theorem rowX_shape {w : World} {base : Nat} {e : TypeId} {size n : Nat} {v : Value} {xs : List Value} (h : w.ownsRow base e size v n xs) : ∃ A c, v = .slice A n c ∧ (0 < n → ∃ r, A = some ⟨r, 0, none⟩) := by
  rcases h.2 with ⟨rfl, rfl⟩ | ⟨g, cap, cur, rfl, _⟩
  · exact ⟨none, 0, rfl, fun h => absurd h (Nat.lt_irrefl _)⟩
  · exact ⟨_, _, rfl, fun _ => ⟨_, rfl⟩⟩
theorem below_gr {base : Nat} {w w' : World} {v : Value} {e : TypeId} {size n : Nat} {xs : List Value} (h : w.ownsRow base e size v n xs) (hg : w.grownBy w' v.ownBlock) (hb : base ≤ w.heap.size) : Below base w w' :=
  ⟨hg.os, hg.tape, hg.output, hg.size, fun k hk => hg.block k (by omega) fun hc => by have := World.ownsRow.lt h k hc.symm; omega⟩
end Go.Proofs.YtfciacigamjfkabGreat
namespace Go.Proofs.YtfciacigamjfkabGreat
open Go.RowKit Go.Maps
set_option maxRecDepth 100000
set_option linter.unusedSimpArgs false
set_option linter.unusedVariables false
set_option linter.unusedSectionVars false
variable [Tab] [Fo]

def liveT_D : List UInt8 := [97, 44, 98, 10, 49, 44, 34, 120, 34, 34, 121, 34, 10]
def liveL_D : List Ev := [⟨5, ⟨#[]⟩, ⟨#[]⟩⟩, ⟨7, ⟨#[]⟩, ⟨#[]⟩⟩, ⟨8, ⟨#[97]⟩, ⟨#[]⟩⟩, ⟨4, ⟨#[49]⟩, ⟨#[]⟩⟩, ⟨8, ⟨#[98]⟩, ⟨#[]⟩⟩, ⟨4, ⟨#[120, 34, 121]⟩, ⟨#[]⟩⟩, ⟨9, ⟨#[]⟩, ⟨#[]⟩⟩, ⟨6, ⟨#[]⟩, ⟨#[]⟩⟩]
theorem live_e_D : dEr liveT_D = 0 := by kernel_rfl
theorem live_rd_D : dRd liveT_D = 13 := by kernel_rfl
theorem live_l_D : dEv liveT_D = liveL_D := by kernel_rfl

set_option maxHeartbeats 4000000 in
theorem lives_D (w : World) (hfl : Fo.lim ≤ w.heap.size) : Calls Tryz.prog 17 #[] w fun e w' => e = .returned (.bool true) ∧ Below w.heap.size w w' := by
  have al : Below w.heap.size w (w.alloc (.cells #[.int .u8 97, .int .u8 44, .int .u8 98, .int .u8 10, .int .u8 49, .int .u8 44, .int .u8 34, .int .u8 120, .int .u8 34, .int .u8 34, .int .u8 121, .int .u8 34, .int .u8 10] 5 (13, 14))) := (Below.refl _ _).alloc (Nat.le_refl _) _
  have hR : BRead (w.alloc (.cells #[.int .u8 97, .int .u8 44, .int .u8 98, .int .u8 10, .int .u8 49, .int .u8 44, .int .u8 34, .int .u8 120, .int .u8 34, .int .u8 34, .int .u8 121, .int .u8 34, .int .u8 10] 5 (13, 14))) (.slice (some ⟨w.heap.size, 0, none⟩) 13 13) liveT_D := by
    refine ⟨_, _, rfl, fun _ => ⟨_, rfl, fun j hj => ?_⟩⟩
    rw [addr_add0, World.cell?_alloc_mark]
    have hj' : j < 13 := hj
    match j, hj' with
    | 0, _ => rfl
    | 1, _ => rfl
    | 2, _ => rfl
    | 3, _ => rfl
    | 4, _ => rfl
    | 5, _ => rfl
    | 6, _ => rfl
    | 7, _ => rfl
    | 8, _ => rfl
    | 9, _ => rfl
    | 10, _ => rfl
    | 11, _ => rfl
    | 12, _ => rfl
  have hC := ddecode_any _ _ liveT_D (by decide) hR (Nat.le_trans hfl al.size)
  rw [live_e_D, live_rd_D, live_l_D] at hC
  have hcv := Lib.run_convert_bytes_const (P := Tryz.prog) w 22 5 #[.int .u8 97, .int .u8 44, .int .u8 98, .int .u8 10, .int .u8 49, .int .u8 44, .int .u8 34, .int .u8 120, .int .u8 34, .int .u8 34, .int .u8 121, .int .u8 34, .int .u8 10] 13 13 Tryz.underlying22 Tryz.underlying5
  simp only [List.size_toArray, List.length_cons, List.length_nil, Nat.zero_add, Nat.reduceAdd] at hcv
  clear hR
  have HAL := Lib.hid al
  clear al
  go_enter Tryz.func17, Tryz.ntmps17
  go_wp2_with fail
  refine hC.mono ?_
  rintro e w1 ⟨lv, rfl, hRow, hb1⟩
  have HB := Lib.hid (HAL.out.trans (hb1.mono HAL.out.size))
  obtain ⟨A, c, hlv, _, _, hr⟩ := hRow.read
  obtain ⟨b, o, rfl, hcell⟩ := hr (by decide)
  have hlv' : lv = .slice (some ⟨b, o, none⟩) 8 c := hlv
  subst hlv'
  obtain ⟨x0, x1, x2⟩ := hcell 3 (by decide)
  obtain ⟨y0, y1, y2⟩ := hcell 5 (by decide)
  have x0' : w1.cell? ⟨b, o + 9, none⟩ = some (.int .i64 4) := x0
  have x1' : w1.cell? ⟨b, o + 10, none⟩ = some (.string ⟨#[49]⟩) := x1
  have x2' : w1.cell? ⟨b, o + 11, none⟩ = some (.string ⟨#[]⟩) := x2
  have y0' : w1.cell? ⟨b, o + 15, none⟩ = some (.int .i64 4) := y0
  have y1' : w1.cell? ⟨b, o + 16, none⟩ = some (.string ⟨#[120, 34, 121]⟩) := y1
  have y2' : w1.cell? ⟨b, o + 17, none⟩ = some (.string ⟨#[]⟩) := y2
  clear hRow hb1 hr hcell hlv x0 x1 x2 y0 y1 y2 hC hcv
  go_wp2
  go_ret
  exact ⟨rfl, HB.out⟩

theorem few_D (w : World) (A : Option Addr) (c : Nat) (bs : List UInt8) (hv : BRead w (.slice A bs.length c) bs) (hc : bs.length ≤ c) :
    Calls Tryz.prog 13 #[.slice A bs.length c] w fun e w' => e = .returned (.slice A (bs.take 600).length c) ∧ BRead w (.slice A (bs.take 600).length c) (bs.take 600) ∧ w = w' := by
  by_cases h6 : 600 < bs.length
  · obtain ⟨A', c', he, hr⟩ := hv
    injection he with e1 _ e3
    subst e1 e3
    obtain ⟨ad, rfl, hcell⟩ := hr (by omega)
    have hz : decide ((600 : Int) < (bs.length : Int)) = true := by simp; omega
    have hle : 600 ≤ c := by omega
    have hl : (bs.take 600).length = 600 := by rw [List.length_take]; omega
    have HV : BRead w (.slice (some ad) (bs.take 600).length c) (bs.take 600) := by
      refine ⟨some ad, c, rfl, fun _ => ⟨ad, rfl, fun j hj => ?_⟩⟩
      rw [List.getElem_take]
      exact hcell j (by omega)
    have HR := Lib.hid HV
    rw [hl]
    rw [hl] at HR
    clear hcell hr HV hl
    generalize bs.take 600 = ts at *
    go_enter Tryz.func13, Tryz.ntmps13
    go_wp2
    go_ret
    exact ⟨rfl, HR.out, rfl⟩
  · have hz : decide ((600 : Int) < (bs.length : Int)) = false := by simp; omega
    rw [List.take_of_length_le (by omega)]
    have HV := Lib.hid hv
    clear hv
    go_enter Tryz.func13, Tryz.ntmps13
    go_wp2
    go_ret
    exact ⟨rfl, HV.out, rfl⟩
end Go.Proofs.YtfciacigamjfkabGreat

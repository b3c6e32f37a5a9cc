/-
  quote: the values of digits and letters, the map of escapes; a Quote is a block of four cells, and add, Text, endEscape turn it.
  quote: New, denoted, add, Text, endEscape: a Quote is a block of four cells, and what was said lies in a row of its own.
  quote: letter, digit and Step: what a byte does is the machine's step.
  quote: digit and Step: what a byte does is the machine's step.
  quote: Step is the machine's step; the steps of a text.
-/
import Derived.Test.YtalkjgijmceifaaGreatDoorOwA24
import Derived.Test.YtalkjgijmceifaaGreatDoorOwA04
import Derived.Test.YtalkjgijmceifaaGreatDoorOwA08
import Derived.Maps.OwnSet
import Derived.Maps.OwnOps
import Derived.Lib.Strings
namespace Go.Proofs.YtalkjgijmceifaaGreatDoor.Qt
open Go.RowKit Go.Maps
set_option maxRecDepth 100000
set_option linter.unusedSectionVars false
variable [Fo]

section
variable {P : Program} {w : World}
/-- Elements appended that lie somewhere. -/
theorem wp_appS {ops : Array Oper} {rest : List Oper} {o : Oper} {a : Act} {Q : Exit → Act → World → Prop} (hgd : o.guard = none) (s x : Operand) (t : TypeId)
    (ho : o.op = .call { callee := .builtin .append, args := #[s, x], argTypes := #[t, t] })
    (base : Nat) (e : TypeId) (z : Value) (bytes : Nat) (ht : P.underlying t = some (.slice e)) (hinfo : (P.info? e).map (fun i => (i.zero, i.size, i.bytes)) = some (some z, 1, bytes)) (hz1 : z.cells.size = 1)
    (v : Value) (xs news : List Value) (hs : a.eval s = v) (hown : ORow w base e v xs) (hu : ∀ u ∈ news, u.oneCell' = true)
    (A : Addr) (m c : Nat) (hm : news.length = m) (hx : a.eval x = .slice (some A) m c) (hc : ∀ j u, news[j]? = some u → w.cell? (A.add j) = some u)
    (h63 : xs.length + m ≤ maxLen) (hbytes : (xs.length + m) * bytes ≤ 140737488355328) (hbase : base ≤ w.heap.size)
    (h : ∀ v' w', ORow w' base e v' (xs ++ news) → Below base w w' → wpList P ops Q rest (a.put o.dst v') w') :
    wpList P ops Q (o :: rest) a w := by
  obtain ⟨i, hi, hz, hsize, hby⟩ := info_parts hinfo
  refine wpList_plain hgd fun K hK => ?_
  obtain ⟨v', w', hrun, h2, h3, _, h5⟩ := run_append_own_at (P := P) w base t o.type e i z 1 bytes ht hi hz hsize hby hz1 (by decide) v xs.length xs hown
    A m c news (by simp [hm]) hc hu h63 hbytes hbase
  unfold Oper.wp execOp
  simp only [ho, resolve, invoke, builtin, Sem.run_bind, Sem.run_pure, Result.andThen_ok, List.map_toArray, List.map_cons, List.map_nil, hs, hx, hrun]
  refine hK _ _ (h v' w' ?_ ?_)
  · unfold ORow
    rw [List.length_append, hm]
    exact h2
  · refine ⟨h3.os, h3.tape, h3.output, h3.size, fun k hk => h3.block k (by omega) fun hcc => ?_⟩
    have := World.ownsRow.lt hown k hcc.symm
    omega
end
section
variable {P : Program} {w : World}
/-- Elements appended that lie somewhere: which block has turned, and where the row lies then. -/
theorem wp_appSg {ops : Array Oper} {rest : List Oper} {o : Oper} {a : Act} {Q : Exit → Act → World → Prop} (hgd : o.guard = none) (s x : Operand) (t : TypeId)
    (ho : o.op = .call { callee := .builtin .append, args := #[s, x], argTypes := #[t, t] })
    (base : Nat) (e : TypeId) (z : Value) (bytes : Nat) (ht : P.underlying t = some (.slice e)) (hinfo : (P.info? e).map (fun i => (i.zero, i.size, i.bytes)) = some (some z, 1, bytes)) (hz1 : z.cells.size = 1)
    (v : Value) (xs news : List Value) (hs : a.eval s = v) (hown : ORow w base e v xs) (hu : ∀ u ∈ news, u.oneCell' = true)
    (A : Addr) (m c : Nat) (hm : news.length = m) (hx : a.eval x = .slice (some A) m c) (hc : ∀ j u, news[j]? = some u → w.cell? (A.add j) = some u)
    (h63 : xs.length + m ≤ maxLen) (hbytes : (xs.length + m) * bytes ≤ 140737488355328) (hbase : base ≤ w.heap.size)
    (h : ∀ v' w', ORow w' base e v' (xs ++ news) → w.grownBy w' v.ownBlock → NB w v v' → wpList P ops Q rest (a.put o.dst v') w') :
    wpList P ops Q (o :: rest) a w := by
  obtain ⟨i, hi, hz, hsize, hby⟩ := info_parts hinfo
  refine wpList_plain hgd fun K hK => ?_
  obtain ⟨v', w', hrun, h2, h3, _, h5⟩ := run_append_own_at (P := P) w base t o.type e i z 1 bytes ht hi hz hsize hby hz1 (by decide) v xs.length xs hown
    A m c news (by simp [hm]) hc hu h63 hbytes hbase
  unfold Oper.wp execOp
  simp only [ho, resolve, invoke, builtin, Sem.run_bind, Sem.run_pure, Result.andThen_ok, List.map_toArray, List.map_cons, List.map_nil, hs, hx, hrun]
  refine hK _ _ (h v' w' ?_ h3 (h5.imp id fun e => ⟨_, e, Nat.le_refl _⟩))
  unfold ORow
  rw [List.length_append, hm]
  exact h2
end
theorem _root_.Go.Proofs.YtalkjgijmceifaaGreatDoor.ORow.set_far {w : World} {base : Nat} {e : TypeId} {v : Value} {xs : List Value} (h : ORow w base e v xs) {p : Addr} (hp : p.block < base) (u : Value) : ORow (w.setCell p u) base e v xs := by
  refine ⟨h.1, ?_⟩
  rcases h.2 with hn | ⟨g, cap, cur, hv, hg, hh, r⟩
  · exact .inl hn
  · exact .inr ⟨g, cap, cur, hv, hg, (Below.heap_setCell w p u g (by omega)).trans hh, r⟩

theorem ret_pair {a b : Int} {x y : Bool} (h : a = b) (h' : x = y) : Ending.returned (.tuple #[.int .i64 a, .bool x]) = .returned (.tuple #[.int .i64 b, .bool y]) := by rw [h, h']
theorem ret_pair8 {a b : Int} {x y : Bool} (h : a = b) (h' : x = y) : Ending.returned (.tuple #[.int .u8 a, .bool x]) = .returned (.tuple #[.int .u8 b, .bool y]) := by rw [h, h']

def hexV (b : Int) : Int := if hexI b < 0 then 0 else hexI b
def escV (b : Int) : Int := if escI b < 0 then 0 else escI b

theorem dig_any (b : Int) (h0 : 0 ≤ b) (h1 : b ≤ 255) (w : World) :
    Calls Tryz.prog 222 #[.int .u8 b] w fun e w' => e = .returned (.tuple #[.int .i64 (hexV b), .bool (decide (0 ≤ hexI b))]) ∧ w = w' := by
  go_enter Tryz.func222, Tryz.ntmps222
  go_wp2
  all_goals go_ret2
  all_goals refine ⟨ret_pair ?_ ?_, rfl⟩
  all_goals try rw [Bool.eq_iff_iff, decide_eq_true_eq]
  all_goals simp only [hexV, hexI]
  all_goals repeat (first | rw [if_pos (by omega)] | rw [if_neg (by omega)])
  all_goals first | omega | (simp; omega) | simp

/-! The map of escapes. -/
def denPairs : List (Int × Int) := [(34, 34), (92, 92), (47, 47), (110, 10), (116, 9), (114, 13), (98, 8), (102, 12)]
def denD : DataW Unit := denPairs.foldl (fun m p => m.put (.int .u8 p.1) (.lit (.int .u8 p.2))) (.map [])
theorem keyLaw : Keyed Tryz.prog 5 := int_keyed Tryz.underlying5
theorem zeroB (w : World) : (zeroValue 5).run Tryz.prog w = .ok (.int .u8 0) w := by kernel_rfl
theorem wf_b {b : Int} (h0 : 0 ≤ b) (h1 : b ≤ 255) : (Lit.int .u8 b).wf = true := by simp [Lit.wf, IntKind.min, IntKind.max, IntKind.signed, IntKind.bits]; omega
theorem has_put1 (D : DataW Unit) (hD : IsMap D) (a k : Int) (d : DataW Unit) : Maps.has (D.put (.int .u8 a) d) (.int .u8 k) = if k = a then true else Maps.has D (.int .u8 k) := by
  split
  · rename_i h
    subst h
    exact has_put_same hD (by simp [WideAt.IsKeyLit]) d
  · rename_i h
    exact has_put_other (by intro hc; injection hc with _ hc; exact h hc) d
theorem at_put1 (D : DataW Unit) (hD : IsMap D) (a k : Int) (d z : DataW Unit) : (D.put (.int .u8 a) d).atKey (.int .u8 k) z = if k = a then d else D.atKey (.int .u8 k) z := by
  split
  · rename_i h
    subst h
    exact atKey_put_same hD (by simp [WideAt.IsKeyLit]) d z
  · rename_i h
    exact atKey_put_other (by intro hc; injection hc with _ hc; exact h hc) d z
theorem den_has (b : Int) : Maps.has denD (.int .u8 b) = decide (0 ≤ escI b) := by
  have hm := isMap_empty (H := Unit)
  simp only [denD, denPairs, List.foldl_cons, List.foldl_nil]
  repeat rw [has_put1 _ (by repeat (first | exact hm | apply IsMap.put))]
  unfold escI
  repeat' split
  all_goals first | rfl | (exfalso; omega) | simp_all
theorem den_at (b : Int) (h : 0 ≤ escI b) : denD.atKey (.int .u8 b) (.lit (.int .u8 0)) = .lit (.int .u8 (escI b)) := by
  have hm := isMap_empty (H := Unit)
  simp only [denD, denPairs, List.foldl_cons, List.foldl_nil]
  repeat rw [at_put1 _ (by repeat (first | exact hm | apply IsMap.put))]
  unfold escI at h ⊢
  repeat' split
  all_goals first | rfl | (exfalso; omega) | simp_all
end Go.Proofs.YtalkjgijmceifaaGreatDoor.Qt
namespace Go.Proofs.YtalkjgijmceifaaGreatDoor.Qt
open Go.RowKit Go.Maps
set_option maxRecDepth 100000
set_option linter.unusedSectionVars false
variable [Fo]

/-- The Quote at block g: what was said, what may be next, the digits and their number. -/
def QRaw (w : World) (g : Nat) (xs : List UInt8) (st d n : Int) : Prop :=
  ∃ v, Blk w g 237 #[v, .int .i64 st, .int .i64 d, .int .i64 n] ∧ ORow w (g + 1) 5 v (xs.map bV) ∧ NF v ∧ ¬ Fo.F g ∧ Fo.lim ≤ w.heap.size
/-- What its calls may turn. -/
def qObj : Obj → Prop
  | .cells _ t _ => t = 237 ∨ t = 5
  | _ => False
theorem size_set (w : World) (p : Addr) (u : Value) : (w.setCell p u).heap.size = w.heap.size := by simp [World.setCell]
def QAt (w : World) (g : Nat) (q : QS) : Prop := ∃ d n, QRaw w g q.xs q.st d n ∧ (q.st = 2 → d = q.d ∧ n = q.n)

theorem QRaw.lt {w : World} {g : Nat} {xs : List UInt8} {st d n : Int} (h : QRaw w g xs st d n) : g < w.heap.size := by obtain ⟨v, hb, _⟩ := h; exact hb.lt
theorem QAt.lt {w : World} {g : Nat} {q : QS} (h : QAt w g q) : g < w.heap.size := by obtain ⟨_, _, h, _⟩ := h; exact h.lt
theorem QRaw.below {w w' : World} {g : Nat} {xs : List UInt8} {st d n : Int} (h : QRaw w g xs st d n) (hb : Below w.heap.size w w') : QRaw w' g xs st d n := by
  obtain ⟨v, hk, ho, h1, h2, h3⟩ := h
  exact ⟨v, hk.below hb hk.lt, ho.below hb (fun g' hg => (World.ownsRow.lt ho g' hg).2), h1, h2, Nat.le_trans h3 hb.size⟩
theorem QAt.below {w w' : World} {g : Nat} {q : QS} (h : QAt w g q) (hb : Below w.heap.size w w') : QAt w' g q := by
  obtain ⟨d, n, h, h'⟩ := h
  exact ⟨d, n, h.below hb, h'⟩
theorem QRaw.set {w : World} {g : Nat} {xs : List UInt8} {st d n : Int} (h : QRaw w g xs st d n) (st' : Int) : QRaw (w.setCell ⟨g, 1, none⟩ (.int .i64 st')) g xs st' d n := by
  obtain ⟨v, hk, ho, h1, h2, h3⟩ := h
  exact ⟨v, hk.set_ 1 _, ho.set_far (by simp) _, h1, h2, by rw [size_set]; exact h3⟩
theorem QRaw.set2 {w : World} {g : Nat} {xs : List UInt8} {st d n : Int} (h : QRaw w g xs st d n) (d' : Int) : QRaw (w.setCell ⟨g, 2, none⟩ (.int .i64 d')) g xs st d' n := by
  obtain ⟨v, hk, ho, h1, h2, h3⟩ := h
  exact ⟨v, hk.set_ 2 _, ho.set_far (by simp) _, h1, h2, by rw [size_set]; exact h3⟩
theorem QRaw.set3 {w : World} {g : Nat} {xs : List UInt8} {st d n : Int} (h : QRaw w g xs st d n) (n' : Int) : QRaw (w.setCell ⟨g, 3, none⟩ (.int .i64 n')) g xs st d n' := by
  obtain ⟨v, hk, ho, h1, h2, h3⟩ := h
  exact ⟨v, hk.set_ 3 _, ho.set_far (by simp) _, h1, h2, by rw [size_set]; exact h3⟩

theorem QRaw.touch {w : World} {g : Nat} {xs : List UInt8} {st d n : Int} (h : QRaw w g xs st d n) (i : Nat) (u : Value) : Tch g qObj w (w.setCell ⟨g, i, none⟩ u) := by
  obtain ⟨v, hk, _, _, hf, _⟩ := h
  exact (Tch.refl _ _ _).set hk (Nat.le_refl _) hf (.inl rfl) i u
theorem _root_.Go.Proofs.YtalkjgijmceifaaGreatDoor.Tch.of_up {g g' : Nat} {p : Obj → Prop} {w w' : World} (h : Tch g' p w w') (hg : g ≤ g') : Tch g p w w' := ⟨h.os, h.tape, h.output, h.size, fun k o ho hc => h.block k o ho (hc.imp (fun hk => Nat.lt_of_lt_of_le hk hg) id)⟩
theorem qnew_any (w : World) (hfl : Fo.lim ≤ w.heap.size) : Calls Tryz.prog 202 #[] w fun e w' => e = .returned (.pointer (some ⟨w.heap.size, 0, none⟩)) ∧ QAt w' w.heap.size (plainQ []) ∧ Below w.heap.size w w' := by
  go_enter Tryz.func202, Tryz.ntmps202
  go_wp2
  go_ret
  exact ⟨rfl, ⟨0, 0, ⟨_, Blk.new w _ _, ORow.nil _ _ _, NF.nil, nf_new hfl, by simp; omega⟩, fun h => by cases h⟩, (Below.refl _ _).alloc (Nat.le_refl _) _⟩

theorem den_any (w : World) : Calls Tryz.prog 220 #[] w fun e w' => ∃ B, e = .returned (.map (some B)) ∧ w'.ownsMap Tryz.prog 5 (plainElem Tryz.prog 5) B 8 denD ∧ Below w.heap.size w w' := by
  have hmm := @run_makeMap Tryz.prog
  have hown0 := World.ownsMap_made (H := Unit) w Tryz.prog 5 (plainElem Tryz.prog 5)
  go_enter Tryz.func220, Tryz.ntmps220
  go_wp2
  obtain ⟨w1, hrun, hown1, hg1⟩ := hown0.update (t := 253) (key := .int .u8 34) (val := .int .u8 34) keyLaw Tryz.underlying253 (by simp [maxLen]) (keyOf_int_mk Tryz.underlying5 (by decide)) (plainElem_int Tryz.underlying5 (by decide))
  rw [hrun]
  clear hrun
  go_wp2
  obtain ⟨w2, hrun, hown2, hg2⟩ := hown1.update (t := 253) (key := .int .u8 92) (val := .int .u8 92) keyLaw Tryz.underlying253 (by simp [maxLen]) (keyOf_int_mk Tryz.underlying5 (by decide)) (plainElem_int Tryz.underlying5 (by decide))
  rw [hrun]
  clear hrun
  go_wp2
  obtain ⟨w3, hrun, hown3, hg3⟩ := hown2.update (t := 253) (key := .int .u8 47) (val := .int .u8 47) keyLaw Tryz.underlying253 (by simp [maxLen]) (keyOf_int_mk Tryz.underlying5 (by decide)) (plainElem_int Tryz.underlying5 (by decide))
  rw [hrun]
  clear hrun
  go_wp2
  obtain ⟨w4, hrun, hown4, hg4⟩ := hown3.update (t := 253) (key := .int .u8 110) (val := .int .u8 10) keyLaw Tryz.underlying253 (by simp [maxLen]) (keyOf_int_mk Tryz.underlying5 (by decide)) (plainElem_int Tryz.underlying5 (by decide))
  rw [hrun]
  clear hrun
  go_wp2
  obtain ⟨w5, hrun, hown5, hg5⟩ := hown4.update (t := 253) (key := .int .u8 116) (val := .int .u8 9) keyLaw Tryz.underlying253 (by simp [maxLen]) (keyOf_int_mk Tryz.underlying5 (by decide)) (plainElem_int Tryz.underlying5 (by decide))
  rw [hrun]
  clear hrun
  go_wp2
  obtain ⟨w6, hrun, hown6, hg6⟩ := hown5.update (t := 253) (key := .int .u8 114) (val := .int .u8 13) keyLaw Tryz.underlying253 (by simp [maxLen]) (keyOf_int_mk Tryz.underlying5 (by decide)) (plainElem_int Tryz.underlying5 (by decide))
  rw [hrun]
  clear hrun
  go_wp2
  obtain ⟨w7, hrun, hown7, hg7⟩ := hown6.update (t := 253) (key := .int .u8 98) (val := .int .u8 8) keyLaw Tryz.underlying253 (by simp [maxLen]) (keyOf_int_mk Tryz.underlying5 (by decide)) (plainElem_int Tryz.underlying5 (by decide))
  rw [hrun]
  clear hrun
  go_wp2
  obtain ⟨w8, hrun, hown8, hg8⟩ := hown7.update (t := 253) (key := .int .u8 102) (val := .int .u8 12) keyLaw Tryz.underlying253 (by simp [maxLen]) (keyOf_int_mk Tryz.underlying5 (by decide)) (plainElem_int Tryz.underlying5 (by decide))
  rw [hrun]
  clear hrun
  go_wp2
  go_ret
  refine ⟨_, rfl, hown8, ?_⟩
  have h0 : Below w.heap.size w (w.alloc (.map #[] 0)) := (Below.refl _ _).alloc (Nat.le_refl _) _
  have hs : w.heap.size ≤ w.heap.size := Nat.le_refl _
  have h1 := below_only h0 hg1 h0.size hs
  have h2 := below_only h1 hg2 h1.size hs
  have h3 := below_only h2 hg3 h2.size hs
  have h4 := below_only h3 hg4 h3.size hs
  have h5 := below_only h4 hg5 h4.size hs
  have h6 := below_only h5 hg6 h5.size hs
  have h7 := below_only h6 hg7 h6.size hs
  exact below_only h7 hg8 h7.size hs

theorem text_any (w : World) (g : Nat) (xs : List UInt8) (st d n : Int) (hq : QRaw w g xs st d n) :
    Calls Tryz.prog 204 #[.pointer (some ⟨g, 0, none⟩)] w fun e w' => e = .returned (.string ⟨xs.toArray⟩) ∧ w = w' := by
  obtain ⟨v, hk, ho, _⟩ := hq
  have hc : w.cell? ⟨g, 0, none⟩ = some v := hk.cell 0
  have hstr := put_str _ ho
  go_enter Tryz.func204, Tryz.ntmps204
  go_wp2
  first | rw [hstr] | skip
  go_wp2
  go_ret
  exact ⟨rfl, rfl⟩

def addE (xs ch : List UInt8) : Int := if 48 < xs.length + ch.length then 4 else 0
def addX (xs ch : List UInt8) : List UInt8 := if 48 < xs.length + ch.length then xs else xs ++ ch

theorem add_any (w : World) (g : Nat) (xs : List UInt8) (st d n : Int) (hq : QRaw w g xs st d n) (hl : xs.length ≤ 48) (A : Addr) (ch : List UInt8) (c : Nat) (h4 : ch.length ≤ 4)
    (hc : ∀ j u, (ch.map bV)[j]? = some u → w.cell? (A.add j) = some u) :
    Calls Tryz.prog 213 #[.pointer (some ⟨g, 0, none⟩), .slice (some A) ch.length c] w fun e w' => e = .returned (.int .i64 (addE xs ch)) ∧ QRaw w' g (addX xs ch) st d n ∧ Tch g qObj w w' := by
  by_cases hov : 48 < xs.length + ch.length
  · unfold addE addX
    rw [if_pos hov, if_pos hov]
    have hq' := hq
    obtain ⟨v, hk, ho, _⟩ := hq'
    obtain ⟨A', cap, rfl⟩ := ho.shape
    have hc0 : w.cell? ⟨g, 0, none⟩ = some (.slice A' (xs.map bV).length cap) := hk.cell 0
    rw [List.length_map] at hc0
    clear hk ho
    go_enter Tryz.func213, Tryz.ntmps213
    go_wp2
    go_ret
    exact ⟨rfl, hq, Tch.refl _ _ _⟩
  · unfold addE addX
    rw [if_neg hov, if_neg hov]
    obtain ⟨v, hk, ho, hnf, hfg, hfl⟩ := hq
    have ho' := ho
    obtain ⟨A', cap, hv⟩ := ho'.shape
    subst hv
    clear ho'
    have hc0 : w.cell? ⟨g, 0, none⟩ = some (.slice A' xs.length cap) := by have := hk.cell 0; simpa using this
    have hlt := hk.lt
    have hvs : (Value.slice A' (xs.map bV).length cap) = .slice A' xs.length cap := by rw [List.length_map]
    rw [hvs] at ho hk hnf
    have HN := Lib.hid (And.intro hnf (And.intro hfg hfl))
    clear hnf hfg hfl
    go_enter Tryz.func213, Tryz.ntmps213
    go_wp2_with (first
      | (at_builtin; refine wp_appSg rfl _ _ 22 rfl (g + 1) 5 (.int .u8 0) 1 Tryz.underlying22 Tryz.info5 rfl _ _ (ch.map bV) rfl (by exact ho) (by intro u hu; simp at hu; obtain ⟨b, _, rfl⟩ := hu; rfl) A ch.length c (by simp) rfl hc (by simp [maxLen]; omega) (by simp; omega) (by omega) ?_; intro v1 w1 hown1 hb1 hnb1; obtain ⟨A1, c1, rfl⟩ := hown1.shape; have hk1 := hk.grown hb1 (ho.not_own (Nat.lt_succ_self _)); have HG1 := Lib.hid (And.intro hb1 hnb1); clear hb1 hnb1; have hc1 : w1.cell? ⟨g, 0, none⟩ = some (.slice A' xs.length cap) := hk1.cell 0; have hf1 := hk1.frozen 0; have hlt1 := hk1.lt))
    go_ret
    obtain ⟨hb1, hnb1⟩ := HG1.out
    obtain ⟨hnf, hfg, hfl⟩ := HN.out
    refine ⟨rfl, ⟨_, hk1.set_ 0 _, ?_, hnf.nb (w := w) ?_ hfl, hfg, by rw [size_set]; exact Nat.le_trans hfl hb1.size⟩, ?_⟩
    · rw [List.map_append]
      rw [List.length_append, List.length_map, List.length_map] at hown1
      exact ORow.set_far hown1 (Nat.lt_succ_self _) _
    · have h := hnb1
      rw [List.length_append, List.length_map, List.length_map] at h
      exact h
    · exact (Tch.of_row ho hb1 (Nat.le_succ g) hnf (fun _ => .inr rfl)).set hk1 (Nat.le_refl g) hfg (.inl rfl) 0 _

theorem qadd_eq {q : QS} {ch : List UInt8} : qAdd q ch = ⟨false, addE q.xs ch, if 48 < q.xs.length + ch.length then q else plainQ (q.xs ++ ch)⟩ := by
  unfold qAdd addE; split <;> rfl

theorem end_any (w : World) (g : Nat) (xs : List UInt8) (st d n : Int) (hq : QRaw w g xs st d n) (hl : xs.length ≤ 48) (A : Addr) (ch : List UInt8) (c : Nat) (h4 : ch.length ≤ 4)
    (hc : ∀ j u, (ch.map bV)[j]? = some u → w.cell? (A.add j) = some u) :
    Calls Tryz.prog 221 #[.pointer (some ⟨g, 0, none⟩), .slice (some A) ch.length c] w fun e w' => e = .returned (.int .i64 (addE xs ch)) ∧ QRaw w' g (addX xs ch) (if 48 < xs.length + ch.length then st else 0) d n ∧ Tch g qObj w w' := by
  have hlt := hq.lt
  by_cases hov : 48 < xs.length + ch.length
  · have e1 : addE xs ch = 4 := if_pos hov
    rw [if_pos hov, e1]
    go_enter Tryz.func221, Tryz.ntmps221
    go_wp2_with fail
    refine (add_any w g xs st d n hq hl A ch c h4 hc).mono ?_
    rintro e w1 ⟨rfl, hq1, hb1⟩
    rw [e1]
    go_wp2
    go_ret
    exact ⟨rfl, hq1, hb1⟩
  · have e1 : addE xs ch = 0 := if_neg hov
    rw [if_neg hov, e1]
    go_enter Tryz.func221, Tryz.ntmps221
    go_wp2_with fail
    refine (add_any w g xs st d n hq hl A ch c h4 hc).mono ?_
    rintro e w1 ⟨rfl, hq1, hb1⟩
    rw [e1]
    have hc1 : w1.cell? ⟨g, 1, none⟩ = some (.int .i64 st) := by obtain ⟨v, hk, _⟩ := hq1; exact hk.cell 1
    have hf1 : w1.frozen? ⟨g, 1, none⟩ = false := by obtain ⟨v, hk, _⟩ := hq1; exact hk.frozen 1
    have hlt1 := hq1.lt
    go_wp2
    go_ret
    exact ⟨rfl, hq1.set 0, hb1.trans (hq1.touch 1 _)⟩
end Go.Proofs.YtalkjgijmceifaaGreatDoor.Qt
namespace Go.Proofs.YtalkjgijmceifaaGreatDoor.Qt
open Go.RowKit Go.Maps
set_option maxRecDepth 100000
set_option linter.unusedSectionVars false
variable [Fo]

theorem qat_add {w : World} {g : Nat} {q : QS} {ch : List UInt8} {d n : Int} (h' : q.st = 2 → d = q.d ∧ n = q.n) (h : QRaw w g (addX q.xs ch) (if 48 < q.xs.length + ch.length then q.st else 0) d n) : QAt w g (qAdd q ch).q := by
  rw [qadd_eq]
  unfold addX at h
  simp only
  split
  · rename_i hov
    rw [if_pos hov, if_pos hov] at h
    exact ⟨d, n, h, h'⟩
  · rename_i hov
    rw [if_neg hov, if_neg hov] at h
    exact ⟨d, n, h, fun hc => by cases hc⟩

/-- A step's word: what it tells, and the Quote as the machine has it. -/
def Stepd (w : World) (g : Nat) (r : QR) (w' : World) : Prop := QAt w' g r.q ∧ Tch g qObj w w'

theorem letter_u (w : World) (g : Nat) (q : QS) (hq : QAt w g q) :
    Calls Tryz.prog 211 #[.pointer (some ⟨g, 0, none⟩), .int .u8 117] w fun e w' => e = .returned (.int .i64 (qLetter q 117).e) ∧ Stepd w g (qLetter q 117) w' := by
  obtain ⟨d, n, hq, _⟩ := hq
  have hlt := hq.lt
  have hq' := hq
  obtain ⟨v, hk, _⟩ := hq'
  have c1 : w.cell? ⟨g, 1, none⟩ = some (.int .i64 q.st) := hk.cell 1
  have c2 : w.cell? ⟨g, 2, none⟩ = some (.int .i64 d) := hk.cell 2
  have c3 : w.cell? ⟨g, 3, none⟩ = some (.int .i64 n) := hk.cell 3
  have f1 := hk.frozen 1
  have f2 := hk.frozen 2
  have f3 := hk.frozen 3
  clear hk
  go_enter Tryz.func211, Tryz.ntmps211
  go_wp2
  go_ret
  exact ⟨rfl, ⟨0, 0, ((hq.set 2).set2 0).set3 0, fun _ => ⟨rfl, rfl⟩⟩, ((hq.touch 1 _).trans ((hq.set 2).touch 2 _)).trans (((hq.set 2).set2 0).touch 3 _)⟩

theorem letter_any (w : World) (g : Nat) (q : QS) (b : Int) (h0 : 0 ≤ b) (h1 : b ≤ 255) (hq : QAt w g q) (hl : q.xs.length ≤ 48) :
    Calls Tryz.prog 211 #[.pointer (some ⟨g, 0, none⟩), .int .u8 b] w fun e w' => e = .returned (.int .i64 (qLetter q b).e) ∧ Stepd w g (qLetter q b) w' := by
  by_cases hu : b = 117
  · subst hu; exact letter_u w g q hq
  have hub : (b == 117) = false := beq_eq_false_iff_ne.2 hu
  have hkey := keyOf_int_mk Tryz.underlying5 (wf_b h0 h1)
  have hhas := den_has b
  by_cases he : escI b < 0
  · have hr : qLetter q b = ⟨false, 9, q⟩ := by unfold qLetter; rw [if_neg hu, if_pos he]
    rw [hr]
    rw [show decide (0 ≤ escI b) = false from by simp; omega] at hhas
    have HH := Lib.hid hhas
    clear hhas hr he hu
    go_enter Tryz.func211, Tryz.ntmps211
    go_wp2_with (first
      | (go_at_call 220; refine (den_any _).mono ?_; rintro e w1 ⟨B, rfl, hown, hb1⟩)
      | (at_lookup; refine wpList_lookup_own_ok_int _ rfl _ _ 253 rfl 5 5 .u8 keyLaw Tryz.underlying253 Tryz.underlying5 (zeroB _) B 8 denD rfl hown _ _ rfl hkey ?_; intro c hat hwc; rw [HH.out]; clear hat))
    go_ret
    exact ⟨rfl, hq.below hb1, Tch.of_below hb1⟩
  · have hr : qLetter q b = qAdd q [b8 (escI b)] := by unfold qLetter; rw [if_neg hu, if_neg he]
    have hat0 := den_at b (by omega)
    rw [show decide (0 ≤ escI b) = true from by simp; omega] at hhas
    have hel := escI_lt b
    have HH := Lib.hid hhas
    rw [hr]
    obtain ⟨d, n, hq, h2⟩ := hq
    have hq9 := hq.lt
    have HA := Lib.hid hat0
    have e0 : (qAdd q [b8 (escI b)]).e = addE q.xs [b8 (escI b)] := by rw [qadd_eq]
    rw [e0]
    clear hhas hr hu hat0 e0
    go_enter Tryz.func211, Tryz.ntmps211
    go_wp2_with (first
      | (go_at_call 220; refine (den_any _).mono ?_; rintro e w1 ⟨B, rfl, hown, hb1⟩)
      | (at_lookup; refine wpList_lookup_own_ok_int _ rfl _ _ 253 rfl 5 5 .u8 keyLaw Tryz.underlying253 Tryz.underlying5 (zeroB _) B 8 denD rfl hown _ _ rfl hkey ?_; intro c hat hwc; rw [HH.out]))
    have hce : c = escI b := by
      rw [HA.out] at hat
      injection hat with hat
      injection hat with _ hat
      exact hat.symm
    subst hce
    have hqa : QRaw (w1.alloc (.cells #[.int .u8 (escI b)] 5)) g q.xs q.st d n := (hq.below hb1).below ((Below.refl _ _).alloc (Nat.le_refl _) _)
    refine (end_any _ g q.xs q.st d n hqa hl ⟨w1.heap.size, 0, none⟩ [b8 (escI b)] 1 (by simp) ?_).mono ?_
    · have := cell_one_new w1 (.int .u8 (escI b)) 5
      simp only [List.map_cons, List.map_nil]
      rw [bV_b8 _ (by omega) hel]
      exact this
    rintro e w2 ⟨rfl, hq2, hb2⟩
    go_wp2
    go_ret
    refine ⟨rfl, qat_add h2 hq2, ?_⟩
    exact ((Tch.of_below hb1).alloc _).trans hb2
end Go.Proofs.YtalkjgijmceifaaGreatDoor.Qt
namespace Go.Proofs.YtalkjgijmceifaaGreatDoor.Qt
open Go.RowKit Go.Maps
set_option maxRecDepth 100000
set_option linter.unusedSectionVars false
variable [Fo]

/-- '[]byte(s)': a new row of its bytes. -/
theorem bytes_of (w : World) (l : List UInt8) :
    ∃ c w', (convert 9 22 (.string ⟨l.toArray⟩)).run Tryz.prog w = .ok (.slice (some ⟨w.heap.size, 0, none⟩) l.length c) w' ∧
      (∀ j u, (l.map bV)[j]? = some u → w'.cell? ((⟨w.heap.size, 0, none⟩ : Addr).add j) = some u) ∧ Below w.heap.size w w' := by
  have h := run_bytes_of_string (P := Tryz.prog) w 9 22 5 ⟨l.toArray⟩ Tryz.underlying9 Tryz.underlying22 Tryz.underlying5
  have hs : (ByteArray.mk l.toArray).size = l.length := by simp [ByteArray.size]
  rw [hs] at h
  refine ⟨_, _, h, ?_, ?_⟩
  · intro j u hj
    rw [addr_add0]
    have hjl : j < l.length := by
      rcases Nat.lt_or_ge j l.length with h | h
      · exact h
      · rw [List.getElem?_eq_none (by simpa using h)] at hj; cases hj
    have hc := World.cell?_alloc_mark w.drew (bytesRow ⟨l.toArray⟩ (grownCap w l.length 0 5)) 5 ((bytesRow ⟨l.toArray⟩ (grownCap w l.length 0 5)).size, (bytesRow ⟨l.toArray⟩ (grownCap w l.length 0 5)).size + 1) j
    have hh : w.drew.heap.size = w.heap.size := rfl
    rw [hh] at hc
    rw [hc, bytesRow_at _ _ _ (by simpa using hjl)]
    rw [List.getElem?_map, List.getElem?_eq_getElem hjl] at hj
    simpa [bV] using hj
  · exact (below_drew (Below.refl _ _)).alloc (Nat.le_refl _) _

theorem digit_any (w : World) (g : Nat) (q : QS) (b : Int) (h0 : 0 ≤ b) (h1 : b ≤ 255) (hq : QAt w g q) (hst : q.st = 2) (hinv : QInv q) :
    Calls Tryz.prog 212 #[.pointer (some ⟨g, 0, none⟩), .int .u8 b] w fun e w' => e = .returned (.int .i64 (qDigit q b).e) ∧ Stepd w g (qDigit q b) w' := by
  obtain ⟨d, n, hq, h2⟩ := hq
  obtain ⟨rfl, rfl⟩ := h2 hst
  obtain ⟨hl, hs⟩ := hinv
  have hn : 0 ≤ q.n ∧ q.n < 4096 ∧ 0 ≤ q.d ∧ q.d ≤ 3 := by rcases hs with h | h | h | h <;> omega
  obtain ⟨hn0, hn1, hd0, hd1⟩ := hn
  clear hs
  have hlt := hq.lt
  have hx := hexI_lt b
  by_cases hneg : hexI b < 0
  · have hr : qDigit q b = ⟨false, 9, q⟩ := by unfold qDigit; rw [if_pos hneg]
    have hdec : decide (0 ≤ hexI b) = false := by simp; omega
    rw [hr]
    have HD := Lib.hid hdec
    clear hr hdec hneg
    go_enter Tryz.func212, Tryz.ntmps212
    go_wp2_with (first
      | (go_at_call 222; refine (dig_any b h0 h1 _).mono ?_; rintro e w' ⟨rfl, rfl⟩; rw [HD.out]))
    go_ret
    exact ⟨rfl, ⟨_, _, hq, fun _ => ⟨rfl, rfl⟩⟩, Tch.refl _ _ _⟩
  have hv : hexV b = hexI b := by unfold hexV; rw [if_neg hneg]
  have hdec : decide (0 ≤ hexI b) = true := by simp; omega
  have hj : bits .or .i64 (q.n * 16) (hexI b) = q.n * 16 + hexI b := bits_join .i64 63 (by decide) (fun n a b => by rw [IntKind.wrap_i64]; omega) 4 (q.n * 16) (hexI b) (by omega) (by omega) (by omega) (by omega) (by omega) (by omega)
  have HD := Lib.hid hdec
  have HJ := Lib.hid hj
  have HV := Lib.hid hv
  have hq' := hq
  obtain ⟨v, hk, _⟩ := hq'
  have c2 : w.cell? ⟨g, 2, none⟩ = some (.int .i64 q.d) := hk.cell 2
  have c3 : w.cell? ⟨g, 3, none⟩ = some (.int .i64 q.n) := hk.cell 3
  have f2 := hk.frozen 2
  have f3 := hk.frozen 3
  clear hk hdec hj hv
  by_cases hd : q.d < 3
  · have hr : qDigit q b = ⟨false, 0, ⟨q.xs, 2, q.d + 1, q.n * 16 + hexI b⟩⟩ := by unfold qDigit; rw [if_neg hneg, if_pos hd]
    rw [hr]
    clear hr
    go_enter Tryz.func212, Tryz.ntmps212
    go_wp2_with (first
      | (go_at_call 222; refine (dig_any b h0 h1 _).mono ?_; rintro e w' ⟨rfl, rfl⟩; rw [HD.out, HV.out]))
    go_ret
    rw [HJ.out]
    have hq2 := (hq.set2 (q.d + 1)).set3 (q.n * 16 + hexI b)
    rw [hst] at hq2
    exact ⟨rfl, ⟨_, _, hq2, fun _ => ⟨rfl, rfl⟩⟩, ((hq.touch 2 _).trans ((hq.set2 (q.d + 1)).touch 3 _))⟩
  have hnd : ¬ (q.d < 3) := hd
  by_cases hm : mayB (q.n * 16 + hexI b) = true
  · have hr : qDigit q b = qAdd q (putL (q.n * 16 + hexI b)) := by unfold qDigit; rw [if_neg hneg, if_neg hd, if_pos hm]
    have hput : putS (q.n * 16 + hexI b) = ⟨(putL (q.n * 16 + hexI b)).toArray⟩ := by unfold putS; rw [if_pos hm]
    have hlen : (putL (q.n * 16 + hexI b)).length ≤ 4 := by
      unfold putL
      repeat' split
      all_goals simp
    rw [hr]
    have e0 : (qAdd q (putL (q.n * 16 + hexI b))).e = addE q.xs (putL (q.n * 16 + hexI b)) := by rw [qadd_eq]
    rw [e0]
    have HM := Lib.hid hm
    have HP := Lib.hid hput
    clear hr hput e0 hm
    go_enter Tryz.func212, Tryz.ntmps212
    go_wp2_with (first
      | (go_at_call 222; refine (dig_any b h0 h1 _).mono ?_; rintro e w' ⟨rfl, rfl⟩; rw [HD.out, HV.out]))
    rw [HJ.out]
    refine (put_any _ _).mono ?_
    rintro e w1 ⟨rfl, hb1⟩
    rw [HM.out, HP.out]
    obtain ⟨c, w2, hrun, hcells, hb2⟩ := bytes_of w1 (putL (q.n * 16 + hexI b))
    have hs1 := hb1.size
    go_wp2_with fail
    refine (end_any _ g q.xs q.st q.d q.n ((hq.below hb1).below hb2) hl ⟨w1.heap.size, 0, none⟩ _ c hlen hcells).mono ?_
    rintro e w3 ⟨rfl, hq3, hb3⟩
    go_wp2
    go_ret
    exact ⟨rfl, qat_add (fun _ => ⟨rfl, rfl⟩) hq3, ((Tch.of_below hb1).trans (Tch.of_below hb2)).trans hb3⟩
  · have hr : qDigit q b = ⟨false, 9, q⟩ := by unfold qDigit; rw [if_neg hneg, if_neg hd, if_neg hm]
    have hmf : mayB (q.n * 16 + hexI b) = false := by simpa using hm
    rw [hr]
    have HM := Lib.hid hmf
    clear hr hm hmf
    go_enter Tryz.func212, Tryz.ntmps212
    go_wp2_with (first
      | (go_at_call 222; refine (dig_any b h0 h1 _).mono ?_; rintro e w' ⟨rfl, rfl⟩; rw [HD.out, HV.out]))
    rw [HJ.out]
    refine (put_any _ _).mono ?_
    rintro e w1 ⟨rfl, hb1⟩
    rw [HM.out]
    go_wp2
    go_ret
    exact ⟨rfl, ⟨_, _, hq.below hb1, fun _ => ⟨rfl, rfl⟩⟩, Tch.of_below hb1⟩
end Go.Proofs.YtalkjgijmceifaaGreatDoor.Qt
namespace Go.Proofs.YtalkjgijmceifaaGreatDoor.Qt
open Go.RowKit Go.Maps
set_option maxRecDepth 100000
set_option linter.unusedSectionVars false
variable [Fo]

def StepEnd (r : QR) : Ending := .returned (.tuple #[.bool r.done, .int .i64 r.e])

theorem qstep_any (w : World) (g : Nat) (q : QS) (b : Int) (h0 : 0 ≤ b) (h1 : b ≤ 255) (hq : QAt w g q) (hinv : QInv q) :
    Calls Tryz.prog 203 #[.pointer (some ⟨g, 0, none⟩), .int .u8 b] w fun e w' => e = StepEnd (qStep q b) ∧ Stepd w g (qStep q b) w' := by
  have hlt := hq.lt
  have hq' := hq
  obtain ⟨d, n, hr, h2⟩ := hq'
  have hr' := hr
  obtain ⟨v, hk, _⟩ := hr'
  have c1 : w.cell? ⟨g, 1, none⟩ = some (.int .i64 q.st) := hk.cell 1
  have f1 := hk.frozen 1
  clear hk
  obtain ⟨hl, hs⟩ := hinv
  by_cases s1 : q.st = 1
  · have e : qStep q b = qLetter q b := by unfold qStep; rw [if_pos s1]
    rw [e]
    rw [s1] at c1
    have hd : (qLetter q b).done = false := by
      unfold qLetter qAdd
      repeat' split
      all_goals rfl
    unfold StepEnd
    rw [hd]
    clear s1 e hd hr h2 hs
    go_enter Tryz.func203, Tryz.ntmps203
    go_wp2_with (first
      | (go_at_call 211; refine (letter_any _ g q b h0 h1 hq hl).mono ?_; rintro e w1 ⟨rfl, hs1⟩))
    go_ret2
    exact ⟨rfl, hs1⟩
  by_cases s2 : q.st = 2
  · have e : qStep q b = qDigit q b := by unfold qStep; rw [if_neg s1, if_pos s2]
    rw [e]
    rw [s2] at c1
    have hd : (qDigit q b).done = false := by
      unfold qDigit qAdd
      repeat' split
      all_goals rfl
    unfold StepEnd
    rw [hd]
    have HS := Lib.hid s2
    have HI := Lib.hid (show QInv q from ⟨hl, hs⟩)
    clear s1 s2 e hd hr h2 hs
    go_enter Tryz.func203, Tryz.ntmps203
    go_wp2_with (first
      | (go_at_call 212; refine (digit_any _ g q b h0 h1 hq HS.out HI.out).mono ?_; rintro e w1 ⟨rfl, hs1⟩))
    go_ret2
    exact ⟨rfl, hs1⟩
  by_cases s3 : q.st = 3
  · have e : qStep q b = ⟨false, 2, q⟩ := by unfold qStep; rw [if_neg s1, if_neg s2, if_pos s3]
    rw [e]
    rw [s3] at c1
    clear s1 s2 s3 e hr h2 hs
    go_enter Tryz.func203, Tryz.ntmps203
    go_wp2
    go_ret2
    exact ⟨rfl, hq, Tch.refl _ _ _⟩
  have s0 : q.st = 0 := by omega
  have e : qStep q b = qPlain q b := by unfold qStep; rw [if_neg s1, if_neg s2, if_neg s3]
  rw [e]
  rw [s0] at c1
  clear e hs s1 s2 s3
  by_cases b1 : b < 32
  · have e : qPlain q b = ⟨false, 2, q⟩ := by unfold qPlain; rw [if_pos b1]
    rw [e]
    clear e
    go_enter Tryz.func203, Tryz.ntmps203
    go_wp2
    go_ret2
    exact ⟨rfl, hq, Tch.refl _ _ _⟩
  by_cases b2 : b = 34
  · have e : qPlain q b = ⟨true, 0, ⟨q.xs, 3, 0, 0⟩⟩ := by unfold qPlain; rw [if_neg b1, if_pos b2]
    rw [e]
    clear e b1
    subst b2
    go_enter Tryz.func203, Tryz.ntmps203
    go_wp2
    go_ret2
    exact ⟨rfl, ⟨_, _, hr.set 3, fun h => by cases h⟩, hr.touch 1 _⟩
  by_cases b3 : b = 92
  · have e : qPlain q b = ⟨false, 0, ⟨q.xs, 1, 0, 0⟩⟩ := by unfold qPlain; rw [if_neg b1, if_neg b2, if_pos b3]
    rw [e]
    clear e b1 b2
    subst b3
    go_enter Tryz.func203, Tryz.ntmps203
    go_wp2
    go_ret2
    exact ⟨rfl, ⟨_, _, hr.set 1, fun h => by cases h⟩, hr.touch 1 _⟩
  have e : qPlain q b = qAdd q [b8 b] := by unfold qPlain; rw [if_neg b1, if_neg b2, if_neg b3]
  have e0 : (qAdd q [b8 b]).e = addE q.xs [b8 b] := by rw [qadd_eq]
  have e1 : (qAdd q [b8 b]).done = false := by rw [qadd_eq]
  have n2 : (b == 34) = false := beq_eq_false_iff_ne.2 b2
  have n3 : (b == 92) = false := beq_eq_false_iff_ne.2 b3
  have hra : QRaw (w.alloc (.cells #[.int .u8 b] 5)) g q.xs q.st d n := hr.below ((Below.refl _ _).alloc (Nat.le_refl _) _)
  rw [e]
  unfold StepEnd
  rw [e0, e1]
  have H0 := Lib.hid s0
  clear e e0 e1 b2 b3 s0 h2
  go_enter Tryz.func203, Tryz.ntmps203
  go_wp2_with fail
  refine (add_any _ g q.xs q.st d n hra hl ⟨w.heap.size, 0, none⟩ [b8 b] 1 (by simp) ?_).mono ?_
  · have := cell_one_new w (.int .u8 b) 5
    simp only [List.map_cons, List.map_nil]
    rw [bV_b8 _ (by omega) (by omega)]
    exact this
  rintro e w1 ⟨rfl, hq1, hb1⟩
  go_wp2
  go_ret2
  refine ⟨rfl, qat_add (d := d) (n := n) (fun h => absurd h (by rw [H0.out]; decide)) ?_, ((Tch.refl g qObj w).alloc _).trans hb1⟩
  rw [H0.out] at hq1 ⊢
  simpa using hq1
end Go.Proofs.YtalkjgijmceifaaGreatDoor.Qt

/-
  quote: the values of digits and letters, the map of escapes; a Quote is a block of four cells, and add, Text, endEscape turn it.
  quote: New, denoted, add, Text, endEscape: a Quote is a block of four cells, and what was said lies in a row of its own.
  quote: letter, digit and Step: what a byte does is the machine's step.
  quote: digit and Step: what a byte does is the machine's step.
  quote: Step is the machine's step; the steps of a text.
  New, Step and Whole: a Scan is a block of three cells; a step turns that block alone.
  A text stepped through, byte by byte, has characters just if all is whole in the end. No program is read here.
  The steps of a text (hexaplalaw03.all) are the machine's run; isUTF tells whether a text has characters.
  utf.Whole tells whether a text has characters.
  Whether a text has characters: now utf.Whole.
  quote's Print: appendPrinted adds what stands for a byte.
  quote's Print: appendPrinted at a byte that is written with its digits; the text of a text.
  quote's Print: the text of a text, or refused.
-/
import Derived.Test.YtonelabeflcplaaGreatDoorCrA05
import Derived.Maps.OwnSet
import Derived.Maps.OwnOps
import Derived.Lib.Strings
import Derived.Test.YtonelabeflcplaaGreatDoorCrA01
import Derived.Deep.RegionLaw
import Derived.IntWalk
namespace Go.Proofs.YtonelabeflcplaaGreatDoor.Qt
open Go.RowKit Go.Maps
set_option maxRecDepth 100000

section
variable {P : Program} {w : World}
/-- Elements appended that lie somewhere. -/
theorem wp_appS {ops : Array Oper} {rest : List Oper} {o : Oper} {a : Act} {Q : Exit → Act → World → Prop} (hgd : o.guard = none) (s x : Operand) (t : TypeId)
    (ho : o.op = .call { callee := .builtin .append, args := #[s, x], argTypes := #[t, t] })
    (base : Nat) (e : TypeId) (z : Value) (bytes : Nat) (ht : P.underlying t = some (.slice e)) (hinfo : (P.info? e).map (fun i => (i.zero, i.size, i.bytes)) = some (some z, 1, bytes)) (hz1 : z.cells.size = 1)
    (v : Value) (xs news : List Value) (hs : a.eval s = v) (hown : ORow w base e v xs) (hu : ∀ u ∈ news, u.oneCell' = true)
    (A : Addr) (m c : Nat) (hm : news.length = m) (hx : a.eval x = .slice (some A) m c) (hc : ∀ j u, news[j]? = some u → w.cell? (A.add j) = some u)
    (h63 : xs.length + m ≤ maxLen) (hbytes : (xs.length + m) * bytes ≤ 140737488355328) (hbase : base ≤ w.heap.size)
    (h : ∀ v' w', ORow w' base e v' (xs ++ news) → Below base w w' → wpList P ops Q rest (a.put o.dst v') w') :
    wpList P ops Q (o :: rest) a w := by
  obtain ⟨i, hi, hz, hsize, hby⟩ := info_parts hinfo
  refine wpList_plain hgd fun K hK => ?_
  obtain ⟨v', w', hrun, h2, h3, _, h5⟩ := run_append_own_at (P := P) w base t o.type e i z 1 bytes ht hi hz hsize hby hz1 (by decide) v xs.length xs hown
    A m c news (by simp [hm]) hc hu h63 hbytes hbase
  unfold Oper.wp execOp
  simp only [ho, resolve, invoke, builtin, Sem.run_bind, Sem.run_pure, Result.andThen_ok, List.map_toArray, List.map_cons, List.map_nil, hs, hx, hrun]
  refine hK _ _ (h v' w' ?_ ?_)
  · unfold ORow
    rw [List.length_append, hm]
    exact h2
  · refine ⟨h3.os, h3.tape, h3.output, h3.size, fun k hk => h3.block k (by omega) fun hcc => ?_⟩
    have := World.ownsRow.lt hown k hcc.symm
    omega
end
theorem _root_.Go.Proofs.YtonelabeflcplaaGreatDoor.ORow.set_far {w : World} {base : Nat} {e : TypeId} {v : Value} {xs : List Value} (h : ORow w base e v xs) {p : Addr} (hp : p.block < base) (u : Value) : ORow (w.setCell p u) base e v xs := by
  refine ⟨h.1, ?_⟩
  rcases h.2 with hn | ⟨g, cap, cur, hv, hg, hh, r⟩
  · exact .inl hn
  · exact .inr ⟨g, cap, cur, hv, hg, (Below.heap_setCell w p u g (by omega)).trans hh, r⟩

theorem ret_pair {a b : Int} {x y : Bool} (h : a = b) (h' : x = y) : Ending.returned (.tuple #[.int .i64 a, .bool x]) = .returned (.tuple #[.int .i64 b, .bool y]) := by rw [h, h']
theorem ret_pair8 {a b : Int} {x y : Bool} (h : a = b) (h' : x = y) : Ending.returned (.tuple #[.int .u8 a, .bool x]) = .returned (.tuple #[.int .u8 b, .bool y]) := by rw [h, h']

def hexV (b : Int) : Int := if hexI b < 0 then 0 else hexI b
def escV (b : Int) : Int := if escI b < 0 then 0 else escI b

/-! The map of escapes. -/
def denPairs : List (Int × Int) := [(34, 34), (92, 92), (47, 47), (110, 10), (116, 9), (114, 13), (98, 8), (102, 12)]
def denD : DataW Unit := denPairs.foldl (fun m p => m.put (.int .u8 p.1) (.lit (.int .u8 p.2))) (.map [])
theorem keyLaw : Keyed Tryz.prog 5 := int_keyed Tryz.underlying5
theorem zeroB (w : World) : (zeroValue 5).run Tryz.prog w = .ok (.int .u8 0) w := by kernel_rfl
theorem wf_b {b : Int} (h0 : 0 ≤ b) (h1 : b ≤ 255) : (Lit.int .u8 b).wf = true := by simp [Lit.wf, IntKind.min, IntKind.max, IntKind.signed, IntKind.bits]; omega
theorem has_put1 (D : DataW Unit) (hD : IsMap D) (a k : Int) (d : DataW Unit) : Maps.has (D.put (.int .u8 a) d) (.int .u8 k) = if k = a then true else Maps.has D (.int .u8 k) := by
  split
  · rename_i h
    subst h
    exact has_put_same hD (by simp [WideAt.IsKeyLit]) d
  · rename_i h
    exact has_put_other (by intro hc; injection hc with _ hc; exact h hc) d
theorem at_put1 (D : DataW Unit) (hD : IsMap D) (a k : Int) (d z : DataW Unit) : (D.put (.int .u8 a) d).atKey (.int .u8 k) z = if k = a then d else D.atKey (.int .u8 k) z := by
  split
  · rename_i h
    subst h
    exact atKey_put_same hD (by simp [WideAt.IsKeyLit]) d z
  · rename_i h
    exact atKey_put_other (by intro hc; injection hc with _ hc; exact h hc) d z
theorem den_has (b : Int) : Maps.has denD (.int .u8 b) = decide (0 ≤ escI b) := by
  have hm := isMap_empty (H := Unit)
  simp only [denD, denPairs, List.foldl_cons, List.foldl_nil]
  repeat rw [has_put1 _ (by repeat (first | exact hm | apply IsMap.put))]
  unfold escI
  repeat' split
  all_goals first | rfl | (exfalso; omega) | simp_all
theorem den_at (b : Int) (h : 0 ≤ escI b) : denD.atKey (.int .u8 b) (.lit (.int .u8 0)) = .lit (.int .u8 (escI b)) := by
  have hm := isMap_empty (H := Unit)
  simp only [denD, denPairs, List.foldl_cons, List.foldl_nil]
  repeat rw [at_put1 _ (by repeat (first | exact hm | apply IsMap.put))]
  unfold escI at h ⊢
  repeat' split
  all_goals first | rfl | (exfalso; omega) | simp_all
end Go.Proofs.YtonelabeflcplaaGreatDoor.Qt
namespace Go.Proofs.YtonelabeflcplaaGreatDoor.Qt
open Go.RowKit Go.Maps
set_option maxRecDepth 100000

def addE (xs ch : List UInt8) : Int := if 48 < xs.length + ch.length then 4 else 0
def addX (xs ch : List UInt8) : List UInt8 := if 48 < xs.length + ch.length then xs else xs ++ ch

theorem qadd_eq {q : QS} {ch : List UInt8} : qAdd q ch = ⟨false, addE q.xs ch, if 48 < q.xs.length + ch.length then q else plainQ (q.xs ++ ch)⟩ := by
  unfold qAdd addE; split <;> rfl

end Go.Proofs.YtonelabeflcplaaGreatDoor.Qt
namespace Go.Proofs.YtonelabeflcplaaGreatDoor.Qt
open Go.RowKit Go.Maps
set_option maxRecDepth 100000

end Go.Proofs.YtonelabeflcplaaGreatDoor.Qt
namespace Go.Proofs.YtonelabeflcplaaGreatDoor.Qt
open Go.RowKit Go.Maps
set_option maxRecDepth 100000

/-- '[]byte(s)': a new row of its bytes. -/
theorem bytes_of (w : World) (l : List UInt8) :
    ∃ c w', (convert 9 51 (.string ⟨l.toArray⟩)).run Tryz.prog w = .ok (.slice (some ⟨w.heap.size, 0, none⟩) l.length c) w' ∧
      (∀ j u, (l.map bV)[j]? = some u → w'.cell? ((⟨w.heap.size, 0, none⟩ : Addr).add j) = some u) ∧ Below w.heap.size w w' := by
  have h := run_bytes_of_string (P := Tryz.prog) w 9 51 5 ⟨l.toArray⟩ Tryz.underlying9 Tryz.underlying51 Tryz.underlying5
  have hs : (ByteArray.mk l.toArray).size = l.length := by simp [ByteArray.size]
  rw [hs] at h
  refine ⟨_, _, h, ?_, ?_⟩
  · intro j u hj
    rw [addr_add0]
    have hjl : j < l.length := by
      rcases Nat.lt_or_ge j l.length with h | h
      · exact h
      · rw [List.getElem?_eq_none (by simpa using h)] at hj; cases hj
    have hc := World.cell?_alloc_mark w.drew (bytesRow ⟨l.toArray⟩ (grownCap w l.length 0 5)) 5 ((bytesRow ⟨l.toArray⟩ (grownCap w l.length 0 5)).size, (bytesRow ⟨l.toArray⟩ (grownCap w l.length 0 5)).size + 1) j
    have hh : w.drew.heap.size = w.heap.size := rfl
    rw [hh] at hc
    rw [hc, bytesRow_at _ _ _ (by simpa using hjl)]
    rw [List.getElem?_map, List.getElem?_eq_getElem hjl] at hj
    simpa [bV] using hj
  · exact (below_drew (Below.refl _ _)).alloc (Nat.le_refl _) _

end Go.Proofs.YtonelabeflcplaaGreatDoor.Qt
namespace Go.Proofs.YtonelabeflcplaaGreatDoor.Qt
open Go.RowKit Go.Maps
set_option maxRecDepth 100000

def StepEnd (r : QR) : Ending := .returned (.tuple #[.bool r.done, .int .i64 r.e])

end Go.Proofs.YtonelabeflcplaaGreatDoor.Qt
namespace Go.Proofs.YtonelabeflcplaaGreatDoor
open Go.RowKit

/-- A Scan at block g: what is left, and the bounds of the next byte. -/
def ScanAt (w : World) (g : Nat) (l lo hi : Int) : Prop := Blk w g 117 #[.int .i64 l, .int .u8 lo, .int .u8 hi]

/-- What a step leaves. -/
def Stepped (w : World) (g : Nat) (l lo hi b : Int) (e : Ending) (w' : World) : Prop :=
  e = .returned (.bool (stOk l lo hi b)) ∧ w.grownBy w' (some g) ∧ (if stOk l lo hi b = true then ScanAt w' g (stL l b) (stLo l b) (stHi l b) else ScanAt w' g l lo hi)

theorem new_any (w : World) : Calls Tryz.prog 83 #[] w fun e w' => e = .returned (.pointer (some ⟨w.heap.size, 0, none⟩)) ∧ w' = w.alloc (.cells #[.int .i64 0, .int .u8 128, .int .u8 191] 117) := by
  go_enter Tryz.func83, Tryz.ntmps83
  go_wp2
  go_ret
  exact ⟨rfl, rfl⟩

theorem whole_any (w : World) (g : Nat) (l lo hi : Int) (hs : ScanAt w g l lo hi) :
    Calls Tryz.prog 85 #[.pointer (some ⟨g, 0, none⟩)] w fun e w' => e = .returned (.bool (decide (l = 0))) ∧ w = w' := by
  have hc : w.cell? ⟨g, 0, none⟩ = some (.int .i64 l) := hs.cell 0
  go_enter Tryz.func85, Tryz.ntmps85
  go_wp2
  go_ret
  refine ⟨ret_bool ?_, rfl⟩
  rw [Bool.eq_iff_iff]; simp

theorem stepped_no {w : World} {g : Nat} {l lo hi b : Int} {o : Obj} (hs : ScanAt w g l lo hi) (hk : stOk l lo hi b = false) : Stepped w g l lo hi b (.returned (.bool false)) (w.alloc o) := by
  refine ⟨by rw [hk], only_alloc (World.grownBy.refl _ _) _, ?_⟩
  rw [hk, if_neg (by decide)]
  exact Blk.alloc hs _
theorem stepped_yes {w : World} {g : Nat} {l lo hi b : Int} {l' lo' hi' : Int} {o : Obj} (hs : ScanAt w g l lo hi) (hk : stOk l lo hi b = true) (h1 : l' = stL l b) (h2 : lo' = stLo l b) (h3 : hi' = stHi l b) :
    Stepped w g l lo hi b (.returned (.bool true)) ((((w.setCell ⟨g, 0, none⟩ (.int .i64 l')).setCell ⟨g, 1, none⟩ (.int .u8 lo')).setCell ⟨g, 2, none⟩ (.int .u8 hi')).alloc o) := by
  subst h1 h2 h3
  have g1 := only_setCell (p := ⟨g, 0, none⟩) (World.grownBy.refl w (some g)) (.inl rfl) (.int .i64 (stL l b))
  have g2 := only_setCell (p := ⟨g, 1, none⟩) g1 (.inl rfl) (.int .u8 (stLo l b))
  have g3 := only_setCell (p := ⟨g, 2, none⟩) g2 (.inl rfl) (.int .u8 (stHi l b))
  have b1 := Blk.set_ hs 0 (.int .i64 (stL l b))
  have b2 := Blk.set_ b1 1 (.int .u8 (stLo l b))
  have b3 := Blk.set_ b2 2 (.int .u8 (stHi l b))
  refine ⟨by rw [hk], only_alloc g3 _, ?_⟩
  rw [hk, if_pos rfl]
  exact Blk.alloc b3 o
set_option maxHeartbeats 400000 in
theorem step_tail (w : World) (g : Nat) (l lo hi b : Int) (hs : ScanAt w g l lo hi) (hl : 0 < l) (hl3 : l ≤ 3) :
    Calls Tryz.prog 84 #[.pointer (some ⟨g, 0, none⟩), .int .u8 b] w (Stepped w g l lo hi b) := by
  have c0 : w.cell? ⟨g, 0, none⟩ = some (.int .i64 l) := hs.cell 0
  have c1 : w.cell? ⟨g, 1, none⟩ = some (.int .u8 lo) := hs.cell 1
  have c2 : w.cell? ⟨g, 2, none⟩ = some (.int .u8 hi) := hs.cell 2
  have f0 := hs.frozen 0
  have f1 := hs.frozen 1
  have f2 := hs.frozen 2
  have hlt := hs.lt
  go_enter Tryz.func84, Tryz.ntmps84
  go_wp2
  refine wp_scope_fwd 2 ?_
  generalize hQ : Exit.fwd _ _ _ 2 = Q2
  go_wp2
  go_step3
  show Q2 _ _ _
  rw [← hQ]
  refine Exit.fwd_goto 1 _ _ rfl ?_
  generalize hQ1 : Exit.fwd _ _ _ 1 = Q1
  go_wp2
  · rw [← hQ1, Exit.fwd_ret]
    go_ret
    have hk : stOk l lo hi b = false := by unfold stOk; rw [if_pos hl]; simp; omega
    exact stepped_no hs hk
  · go_step3
    show Q1 _ _ _
    rw [← hQ1]
    refine Exit.fwd_goto 0 _ _ rfl ?_
    generalize hQ0 : Exit.fwd _ _ _ 0 = Q0
    go_wp2
    rw [← hQ0, Exit.fwd_ret]
    go_ret
    have hk : stOk l lo hi b = true := by unfold stOk; rw [if_pos hl]; simp; omega
    exact stepped_yes hs hk (by unfold stL; rw [if_pos hl]) (by unfold stLo; rw [if_pos hl]) (by unfold stHi; rw [if_pos hl])
  · rw [← hQ1, Exit.fwd_ret]
    go_ret
    have hk : stOk l lo hi b = false := by unfold stOk; rw [if_pos hl]; simp; omega
    exact stepped_no hs hk

set_option maxHeartbeats 1000000 in
theorem step_lead (w : World) (g : Nat) (lo hi b : Int) (hs : ScanAt w g 0 lo hi) (hb0 : 0 ≤ b) (hb1 : b ≤ 255) :
    Calls Tryz.prog 84 #[.pointer (some ⟨g, 0, none⟩), .int .u8 b] w (Stepped w g 0 lo hi b) := by
  have c0 : w.cell? ⟨g, 0, none⟩ = some (.int .i64 0) := hs.cell 0
  have c1 : w.cell? ⟨g, 1, none⟩ = some (.int .u8 lo) := hs.cell 1
  have c2 : w.cell? ⟨g, 2, none⟩ = some (.int .u8 hi) := hs.cell 2
  have f0 := hs.frozen 0
  have f1 := hs.frozen 1
  have f2 := hs.frozen 2
  have hlt := hs.lt
  go_enter Tryz.func84, Tryz.ntmps84
  go_wp2
  refine wp_scope_fwd 2 ?_
  generalize hQ : Exit.fwd _ _ _ 2 = Q2
  go_wp2
  all_goals first
    | (rw [← hQ, Exit.fwd_ret]; go_ret; exact stepped_no hs (by simp [stOk]; omega))
    | skip
  all_goals
    go_step3
    show Q2 _ _ _
    rw [← hQ]
    refine Exit.fwd_goto 1 _ _ rfl ?_
    generalize hQ1 : Exit.fwd _ _ _ 1 = Q1
  all_goals go_wp2
  all_goals try (go_step3; go_wp2)
  all_goals try (go_step3; go_wp2)
  all_goals try (go_step3; go_wp2)
  all_goals (rw [← hQ1, Exit.fwd_ret]; go_ret)
  all_goals refine stepped_yes hs (by simp [stOk]; omega) ?_ ?_ ?_
  all_goals simp only [stL, stLo, stHi]
  all_goals clear hQ1 c0 c1 c2 f0 f1 f2 hs
  all_goals try simp only [beq_iff_eq, beq_eq_false_iff_ne] at *
  all_goals rw [if_neg (by omega)]
  all_goals repeat (first | rw [if_pos (by omega)] | rw [if_neg (by omega)])

theorem step_any (w : World) (g : Nat) (l lo hi b : Int) (hs : ScanAt w g l lo hi) (hl0 : 0 ≤ l) (hl3 : l ≤ 3) (hb0 : 0 ≤ b) (hb1 : b ≤ 255) :
    Calls Tryz.prog 84 #[.pointer (some ⟨g, 0, none⟩), .int .u8 b] w (Stepped w g l lo hi b) := by
  rcases Int.lt_or_eq_of_le hl0 with h | h
  · exact step_tail w g l lo hi b hs h hl3
  · subst h
    exact step_lead w g lo hi b hs hb0 hb1
end Go.Proofs.YtonelabeflcplaaGreatDoor
namespace Go.Proofs.YtonelabeflcplaaGreatDoor
set_option maxRecDepth 8000

theorem stL_range {l b : Int} (h0 : 0 ≤ l) (h3 : l ≤ 3) : 0 ≤ stL l b ∧ stL l b ≤ 3 := by
  unfold stL; repeat' split
  all_goals omega
/-- All were taken up to here, and the machine stands so. -/
def UtfAt (L : List UInt8) (k : Nat) (l lo hi : Int) : Prop := ∃ num out, runesL L = runesGo ⟨l, lo, hi, num, out⟩ (L.drop k)
theorem utf_step {L : List UInt8} {k : Nat} {b : UInt8} {l lo hi : Int} (hd : L.drop k = b :: L.drop (k + 1)) (h : UtfAt L k l lo hi) (hok : stOk l lo hi b.toNat = true) : UtfAt L (k + 1) (stL l b.toNat) (stLo l b.toNat) (stHi l b.toNat) := by
  obtain ⟨num, out, h⟩ := h
  rw [hd] at h
  simp only [runesGo, rnStep, hok, if_true] at h
  split at h
  · rename_i heq
    split at heq <;> cases heq
  · rename_i s' heq
    split at heq
    · cases heq; exact ⟨_, _, h⟩
    · cases heq; exact ⟨_, _, h⟩
theorem utf_bad {L : List UInt8} {k : Nat} {b : UInt8} {l lo hi : Int} (hd : L.drop k = b :: L.drop (k + 1)) (h : UtfAt L k l lo hi) (hok : stOk l lo hi b.toNat = false) : (runesL L).isSome = false := by
  obtain ⟨num, out, h⟩ := h
  rw [hd] at h
  simp only [runesGo, rnStep, hok] at h
  simp at h
  rw [h]; rfl
theorem utf_end {L : List UInt8} {l lo hi : Int} {k : Nat} (hk : L.length ≤ k) (h : UtfAt L k l lo hi) : (runesL L).isSome = decide (l = 0) := by
  obtain ⟨num, out, h⟩ := h
  rw [h, List.drop_eq_nil_of_le hk]
  simp only [runesGo]
  split <;> simp_all

theorem drop_cons (s : ByteArray) (k : Nat) (h : k < s.size) : s.data.toList.drop k = s[k] :: s.data.toList.drop (k + 1) := by
  rw [List.drop_eq_getElem_cons (by simpa using h)]; rfl

theorem extract_all (s : ByteArray) (a : Nat) : (s.extract a s.size).data.toList = s.data.toList.drop a := by
  rw [show (s.extract a s.size).data.toList = (s.data.toList.drop a).take (s.size - a) from by simp, List.take_of_length_le]
  simp
end Go.Proofs.YtonelabeflcplaaGreatDoor
namespace Go.Proofs.YtonelabeflcplaaGreatDoor.Qt
open Go.RowKit Go.Maps
set_option maxRecDepth 100000

theorem results_tmp4 {fn : Func} {t u v x : Tmp} (h : fn.results = #[.tmp t, .tmp u, .tmp v, .tmp x]) (tmps : Array Value) (P : Program) (w : World) :
    (results fn tmps).run P w = .ok (.tuple #[tmps.getD t undef, tmps.getD u undef, tmps.getD v undef, tmps.getD x undef]) w := by
  simp [results, h]

def AllEnd (r : QE) : Ending := .returned (.tuple #[.string ⟨r.text.toArray⟩, .int .i64 r.n, .bool r.done, .int .i64 r.e])

end Go.Proofs.YtonelabeflcplaaGreatDoor.Qt
namespace Go.Proofs.YtonelabeflcplaaGreatDoor
open Go.RowKit Go.Maps
set_option maxRecDepth 100000

set_option maxHeartbeats 1000000 in
theorem whole_utf (s : ByteArray) (w : World) (hm : s.size ≤ 140737488355328) :
    Calls Tryz.prog 49 #[.string s] w fun e w' => e = .returned (.bool (runesL s.data.toList).isSome) ∧ Below w.heap.size w w' := by
  go_enter Tryz.func49, Tryz.ntmps49
  go_wp2_with (first
    | (go_at_call 83; refine (new_any _).mono ?_; rintro e w' ⟨rfl, rfl⟩))
  go_loopw [8] (fun i wr => ∃ (k : Nat) (l lo hi : Int), k ≤ s.size ∧ i = .int .i64 k ∧ ScanAt wr w.heap.size l lo hi ∧ 0 ≤ l ∧ l ≤ 3 ∧ Below w.heap.size w wr ∧ Hid (UtfAt s.data.toList k l lo hi)) (fun i _ => s.size - (intOf i).toNat)
  case atStart => exact ⟨0, 0, 128, 191, Nat.zero_le _, rfl, Blk.new w _ _, by decide, by decide, (Below.refl _ _).alloc (Nat.le_refl _) _, Lib.hid ⟨0, [], rfl⟩⟩
  case round =>
    obtain ⟨k, l, lo, hi, hk, rfl, hsc, h0, h3, hbel, HW⟩ := hrel
    by_cases hlt : k < s.size
    · have hle := byte_le s[k]
      have HD := Lib.hid (drop_cons s k hlt)
      have hr := stL_range (b := s[k].toNat) h0 h3
      obtain ⟨hr0, hr3⟩ := hr
      go_wp2_with fail
      refine (step_any _ _ _ _ _ _ hsc h0 h3 (by omega) hle).mono ?_
      rintro e w1 ⟨rfl, hg1, hs1⟩
      have hbel1 : Below w.heap.size w w1 := below_only hbel hg1 hbel.size (Nat.le_refl _)
      clear hg1 hsc hbel
      generalize hO : stOk l lo hi s[k].toNat = O at *
      have HO := Lib.hid hO
      clear hO
      cases O
      · have HE := Lib.hid (utf_bad HD.out HW.out HO.out)
        go_wp2
        go_ret
        rw [HE.out]
        exact ⟨rfl, hbel1⟩
      · rw [if_pos rfl] at hs1
        go_wp2
        go_roundw
        case rel => exact ⟨k + 1, _, _, _, by omega, by go_num, hs1, hr0, hr3, hbel1, Lib.hid (utf_step HD.out HW.out HO.out)⟩
        case measure => simp [intOf]; omega
    · have hend := utf_end (by simp; omega) HW.out
      have HE := Lib.hid hend
      clear hend
      go_wp2_with (first
        | (go_at_call 85; refine (whole_any _ _ _ _ _ hsc).mono ?_; rintro e w' ⟨rfl, rfl⟩))
      go_ret
      rw [HE.out]
      exact ⟨rfl, hbel⟩
end Go.Proofs.YtonelabeflcplaaGreatDoor
namespace Go.Proofs.YtonelabeflcplaaGreatDoor.Qt
open Go.RowKit Go.Maps
set_option maxRecDepth 100000

theorem isutf_any (s : ByteArray) (w : World) (hm : s.size ≤ 140737488355328) :
    Calls Tryz.prog 49 #[.string s] w fun e w' => e = .returned (.bool (runesL s.data.toList).isSome) ∧ Below w.heap.size w w' :=
  whole_utf s w hm
end Go.Proofs.YtonelabeflcplaaGreatDoor.Qt
namespace Go.Proofs.YtonelabeflcplaaGreatDoor.Qt
open Go.RowKit Go.Maps
set_option maxRecDepth 100000

section
variable {P : Program} {w : World}
/-- Elements appended that lie somewhere, at a step of a region that draws its order. -/
theorem step_appS {ops : Array Oper} {o : Oper} {a : Act} {K : Act → World → Prop} {Q : Exit → Act → World → Prop} {E : Prop} (hgd : o.guard = none) (s x : Operand) (t : TypeId)
    (ho : o.op = .call { callee := .builtin .append, args := #[s, x], argTypes := #[t, t] })
    (base : Nat) (e : TypeId) (z : Value) (bytes : Nat) (ht : P.underlying t = some (.slice e)) (hinfo : (P.info? e).map (fun i => (i.zero, i.size, i.bytes)) = some (some z, 1, bytes)) (hz1 : z.cells.size = 1)
    (v : Value) (xs news : List Value) (hs : a.eval s = v) (hown : ORow w base e v xs) (hu : ∀ u ∈ news, u.oneCell' = true)
    (A : Addr) (m c : Nat) (hm : news.length = m) (hx : a.eval x = .slice (some A) m c) (hc : ∀ j u, news[j]? = some u → w.cell? (A.add j) = some u)
    (h63 : xs.length + m ≤ maxLen) (hbytes : (xs.length + m) * bytes ≤ 140737488355328) (hbase : base ≤ w.heap.size)
    (h : ∀ v' w', ORow w' base e v' (xs ++ news) → Below base w w' → K (a.put o.dst v') w') :
    if Region.wanted o (yielded ops a.tmps) = true then Oper.wp P o a w K Q else E := by
  have hw : Region.wanted o (yielded ops a.tmps) = true := by simp [Region.wanted, hgd]
  rw [if_pos hw]
  obtain ⟨i, hi, hz, hsize, hby⟩ := info_parts hinfo
  obtain ⟨v', w', hrun, h2, h3, _, h5⟩ := run_append_own_at (P := P) w base t o.type e i z 1 bytes ht hi hz hsize hby hz1 (by decide) v xs.length xs hown
    A m c news (by simp [hm]) hc hu h63 hbytes hbase
  unfold Oper.wp execOp
  simp only [ho, resolve, invoke, builtin, Sem.run_bind, Sem.run_pure, Result.andThen_ok, List.map_toArray, List.map_cons, List.map_nil, hs, hx, hrun]
  refine h v' w' ?_ ?_
  · unfold ORow
    rw [List.length_append, hm]
    exact h2
  · refine ⟨h3.os, h3.tape, h3.output, h3.size, fun k hk => h3.block k (by omega) fun hcc => ?_⟩
    have := World.ownsRow.lt hown k hcc.symm
    omega
end

/-- The cells of a block that was just made. -/
theorem cells_new (w : World) (l : List Value) (t : TypeId) : ∀ j u, l[j]? = some u → (w.alloc (.cells l.toArray t)).cell? ((⟨w.heap.size, 0, none⟩ : Addr).add j) = some u := by
  intro j u hj
  rw [addr_add0]
  exact (Blk.new w t l.toArray).cell j |>.trans (by simpa using hj)

/-- appendPrinted's word. -/
def PrPost (w : World) (base : Nat) (xs : List UInt8) (b : UInt8) (e : Ending) (w' : World) : Prop := ∃ v, e = .returned v ∧ ORow w' base 5 v ((xs ++ prB b).map bV) ∧ Below base w w'

theorem prPost_of {w w' : World} {base : Nat} {v : Value} {xs : List UInt8} {b : UInt8} {news : List Value} (h : (prB b).map bV = news) (ho : ORow w' base 5 v (xs.map bV ++ news)) (hb : Below base w w') : PrPost w base xs b (.returned v) w' :=
  ⟨v, rfl, by rw [List.map_append, h]; exact ho, hb⟩

set_option maxHeartbeats 1000000 in
theorem pr_34 (w : World) (base : Nat) (A : Option Addr) (cap : Nat) (xs : List UInt8) (b : UInt8) (ho : ORow w base 5 (.slice A xs.length cap) (xs.map bV)) (hl : xs.length ≤ 1000) (hbase : base ≤ w.heap.size)
    (HP : Hid ((prB b).map bV = [.int .u8 92, .int .u8 34])) :
    Calls Tryz.prog 50 #[.slice A xs.length cap, .int .u8 34] w (PrPost w base xs b) := by
  go_enter Tryz.func50, Tryz.ntmps50
  go_wp2_with (first
    | (at_builtin; refine wp_appS rfl _ _ 51 rfl base 5 (.int .u8 0) 1 Tryz.underlying51 Tryz.info5 rfl _ _ [.int .u8 92, .int .u8 34] rfl (by exact ho.alloc _) (by simp [Value.oneCell']) ⟨w.heap.size, 0, none⟩ 2 2 rfl rfl (cells_new w [.int .u8 92, .int .u8 34] 5) (by simp [maxLen]; omega) (by simp; omega) (by simp; omega) ?_; intro v1 w1 hown1 hb1))
  go_ret
  exact prPost_of HP.out hown1 (((Below.refl base w).alloc hbase _).trans hb1)

set_option maxHeartbeats 1000000 in
theorem pr_92 (w : World) (base : Nat) (A : Option Addr) (cap : Nat) (xs : List UInt8) (b : UInt8) (ho : ORow w base 5 (.slice A xs.length cap) (xs.map bV)) (hl : xs.length ≤ 1000) (hbase : base ≤ w.heap.size)
    (HP : Hid ((prB b).map bV = [.int .u8 92, .int .u8 92])) :
    Calls Tryz.prog 50 #[.slice A xs.length cap, .int .u8 92] w (PrPost w base xs b) := by
  go_enter Tryz.func50, Tryz.ntmps50
  go_wp2_with (first
    | (at_builtin; refine wp_appS rfl _ _ 51 rfl base 5 (.int .u8 0) 1 Tryz.underlying51 Tryz.info5 rfl _ _ [.int .u8 92, .int .u8 92] rfl (by exact ho.alloc _) (by simp [Value.oneCell']) ⟨w.heap.size, 0, none⟩ 2 2 rfl rfl (cells_new w [.int .u8 92, .int .u8 92] 5) (by simp [maxLen]; omega) (by simp; omega) (by simp; omega) ?_; intro v1 w1 hown1 hb1))
  go_ret
  exact prPost_of HP.out hown1 (((Below.refl base w).alloc hbase _).trans hb1)

set_option maxHeartbeats 1000000 in
theorem pr_10 (w : World) (base : Nat) (A : Option Addr) (cap : Nat) (xs : List UInt8) (b : UInt8) (ho : ORow w base 5 (.slice A xs.length cap) (xs.map bV)) (hl : xs.length ≤ 1000) (hbase : base ≤ w.heap.size)
    (HP : Hid ((prB b).map bV = [.int .u8 92, .int .u8 110])) :
    Calls Tryz.prog 50 #[.slice A xs.length cap, .int .u8 10] w (PrPost w base xs b) := by
  go_enter Tryz.func50, Tryz.ntmps50
  go_wp2_with (first
    | (at_builtin; refine wp_appS rfl _ _ 51 rfl base 5 (.int .u8 0) 1 Tryz.underlying51 Tryz.info5 rfl _ _ [.int .u8 92, .int .u8 110] rfl (by exact ho.alloc _) (by simp [Value.oneCell']) ⟨w.heap.size, 0, none⟩ 2 2 rfl rfl (cells_new w [.int .u8 92, .int .u8 110] 5) (by simp [maxLen]; omega) (by simp; omega) (by simp; omega) ?_; intro v1 w1 hown1 hb1))
  go_ret
  exact prPost_of HP.out hown1 (((Below.refl base w).alloc hbase _).trans hb1)

set_option maxHeartbeats 1000000 in
theorem pr_9 (w : World) (base : Nat) (A : Option Addr) (cap : Nat) (xs : List UInt8) (b : UInt8) (ho : ORow w base 5 (.slice A xs.length cap) (xs.map bV)) (hl : xs.length ≤ 1000) (hbase : base ≤ w.heap.size)
    (HP : Hid ((prB b).map bV = [.int .u8 92, .int .u8 116])) :
    Calls Tryz.prog 50 #[.slice A xs.length cap, .int .u8 9] w (PrPost w base xs b) := by
  go_enter Tryz.func50, Tryz.ntmps50
  go_wp2_with (first
    | (at_builtin; refine wp_appS rfl _ _ 51 rfl base 5 (.int .u8 0) 1 Tryz.underlying51 Tryz.info5 rfl _ _ [.int .u8 92, .int .u8 116] rfl (by exact ho.alloc _) (by simp [Value.oneCell']) ⟨w.heap.size, 0, none⟩ 2 2 rfl rfl (cells_new w [.int .u8 92, .int .u8 116] 5) (by simp [maxLen]; omega) (by simp; omega) (by simp; omega) ?_; intro v1 w1 hown1 hb1))
  go_ret
  exact prPost_of HP.out hown1 (((Below.refl base w).alloc hbase _).trans hb1)

set_option maxHeartbeats 1000000 in
theorem pr_13 (w : World) (base : Nat) (A : Option Addr) (cap : Nat) (xs : List UInt8) (b : UInt8) (ho : ORow w base 5 (.slice A xs.length cap) (xs.map bV)) (hl : xs.length ≤ 1000) (hbase : base ≤ w.heap.size)
    (HP : Hid ((prB b).map bV = [.int .u8 92, .int .u8 114])) :
    Calls Tryz.prog 50 #[.slice A xs.length cap, .int .u8 13] w (PrPost w base xs b) := by
  go_enter Tryz.func50, Tryz.ntmps50
  go_wp2_with (first
    | (at_builtin; refine wp_appS rfl _ _ 51 rfl base 5 (.int .u8 0) 1 Tryz.underlying51 Tryz.info5 rfl _ _ [.int .u8 92, .int .u8 114] rfl (by exact ho.alloc _) (by simp [Value.oneCell']) ⟨w.heap.size, 0, none⟩ 2 2 rfl rfl (cells_new w [.int .u8 92, .int .u8 114] 5) (by simp [maxLen]; omega) (by simp; omega) (by simp; omega) ?_; intro v1 w1 hown1 hb1))
  go_ret
  exact prPost_of HP.out hown1 (((Below.refl base w).alloc hbase _).trans hb1)

set_option maxHeartbeats 1000000 in
theorem pr_char (w : World) (base : Nat) (A : Option Addr) (cap : Nat) (xs : List UInt8) (b : UInt8) (bi : Int) (ho : ORow w base 5 (.slice A xs.length cap) (xs.map bV)) (hl : xs.length ≤ 1000) (hbase : base ≤ w.heap.size)
    (HP : Hid ((prB b).map bV = [.int .u8 bi])) (h0 : 32 ≤ bi) (h1 : bi ≤ 255) (h2 : (bi == 34) = false) (h3 : (bi == 92) = false) :
    Calls Tryz.prog 50 #[.slice A xs.length cap, .int .u8 bi] w (PrPost w base xs b) := by
  go_enter Tryz.func50, Tryz.ntmps50
  go_wp2_with (first
    | (at_builtin; refine wp_appS rfl _ _ 51 rfl base 5 (.int .u8 0) 1 Tryz.underlying51 Tryz.info5 rfl _ _ [.int .u8 bi] rfl (by exact ho.alloc _) (by simp [Value.oneCell']) ⟨w.heap.size, 0, none⟩ 1 1 rfl rfl (cells_new w [.int .u8 bi] 5) (by simp [maxLen]; omega) (by simp; omega) (by simp; omega) ?_; intro v1 w1 hown1 hb1))
  go_ret
  exact prPost_of HP.out hown1 (((Below.refl base w).alloc hbase _).trans hb1)

end Go.Proofs.YtonelabeflcplaaGreatDoor.Qt
namespace Go.Proofs.YtonelabeflcplaaGreatDoor.Qt
open Go.RowKit Go.Maps
set_option maxRecDepth 100000

theorem hexAt_all : ∀ m : Fin 16, (((⟨#[48, 49, 50, 51, 52, 53, 54, 55, 56, 57, 97, 98, 99, 100, 101, 102]⟩ : ByteArray)[m.val]'(by have := m.isLt; exact this)).toNat : Int) = hexD (m.val : Int) := by decide
theorem hexAt (n : Int) (h0 : 0 ≤ n) (h1 : n < 16) (h : n.toNat < (⟨#[48, 49, 50, 51, 52, 53, 54, 55, 56, 57, 97, 98, 99, 100, 101, 102]⟩ : ByteArray).size) :
    (((⟨#[48, 49, 50, 51, 52, 53, 54, 55, 56, 57, 97, 98, 99, 100, 101, 102]⟩ : ByteArray)[n.toNat]'h).toNat : Int) = hexD n := by
  have := hexAt_all ⟨n.toNat, h⟩
  simp only at this
  rw [this]
  congr 1
  omega

section
variable {P : Program} {w : World}
/-- Elements appended that were laid in a new block just before, at a step of a region that draws its order. -/
theorem step_appN {ops : Array Oper} {o : Oper} {a : Act} {K : Act → World → Prop} {Q : Exit → Act → World → Prop} {E : Prop} (hgd : o.guard = none) (s x : Operand) (t : TypeId)
    (ho : o.op = .call { callee := .builtin .append, args := #[s, x], argTypes := #[t, t] })
    (base : Nat) (e : TypeId) (z : Value) (bytes : Nat) (ht : P.underlying t = some (.slice e)) (hinfo : (P.info? e).map (fun i => (i.zero, i.size, i.bytes)) = some (some z, 1, bytes)) (hz1 : z.cells.size = 1)
    (v : Value) (xs : List Value) (C : Array Value) (m : Nat) (hs : a.eval s = v) (hown : ORow w base e v xs) (hu : ∀ u ∈ C.toList, u.oneCell' = true) (hm : C.size = m)
    (c : Nat) (hx : a.eval x = .slice (some ⟨w.heap.size, 0, none⟩) m c)
    (h63 : xs.length + m ≤ maxLen) (hbytes : (xs.length + m) * bytes ≤ 140737488355328) (hbase : base ≤ w.heap.size)
    (h : ∀ v' w', ORow w' base e v' (xs ++ C.toList) → Below base w w' → K (a.put o.dst v') w') :
    if Region.wanted o (yielded ops a.tmps) = true then Oper.wp P o a ((w.alloc (.cells C e)).drew) K Q else E := by
  refine step_appS hgd s x t ho base e z bytes ht hinfo hz1 v xs C.toList hs (hown.alloc _).drew hu ⟨w.heap.size, 0, none⟩ m c hm hx (cells_new w C.toList e) h63 hbytes (by simp; omega) fun v' w' h1 h2 => h v' w' h1 ?_
  exact (below_drew ((Below.refl base w).alloc hbase _)).trans h2
end

set_option maxHeartbeats 1000000 in
theorem pr_ctl (w : World) (base : Nat) (A : Option Addr) (cap : Nat) (xs : List UInt8) (b : UInt8) (bi : Int) (ho : ORow w base 5 (.slice A xs.length cap) (xs.map bV)) (hl : xs.length ≤ 1000) (hbase : base ≤ w.heap.size)
    (HP : Hid ((prB b).map bV = [.int .u8 92, .int .u8 117, .int .u8 48, .int .u8 48, .int .u8 (hexD (bi / 16)), .int .u8 (hexD (bi % 16))])) (h0 : 0 ≤ bi) (h1 : bi < 32) (h2 : (bi == 10) = false) (h3 : (bi == 9) = false) (h4 : (bi == 13) = false) :
    Calls Tryz.prog 50 #[.slice A xs.length cap, .int .u8 bi] w (PrPost w base xs b) := by
  have e34 : (bi == 34) = false := beq_eq_false_iff_ne.2 (by omega)
  have e92 : (bi == 92) = false := beq_eq_false_iff_ne.2 (by omega)
  have e4 := u8_and15 bi h0 (show bi < 256 by omega)
  go_enter Tryz.func50, Tryz.ntmps50
  have q0 : 0 ≤ bi / 16 := by omega
  have q1 : bi / 16 < 16 := by omega
  have q2 : 0 ≤ bi % 16 := by omega
  have q3 : bi % 16 < 16 := by omega
  go_wp2_with fail
  go_region_law ((refine step_appN (by rfl) (.tmp 30) (.tmp 37) 51 (by rfl) base 5 (.int .u8 0) 1 Tryz.underlying51 Tryz.info5 (by rfl) _ _ _ 6 (by rfl) (by exact ho) (by simp [Value.oneCell']) (by rfl) _ (by rfl) (by simp [maxLen]; omega) (by simp; omega) (by omega) ?_; intro v1 w1 hown1 hb1))
  all_goals
    go_wp2
    go_ret
    rw [hexAt _ q0 q1, hexAt _ q2 q3] at hown1
    exact prPost_of HP.out hown1 hb1
end Go.Proofs.YtonelabeflcplaaGreatDoor.Qt
namespace Go.Proofs.YtonelabeflcplaaGreatDoor.Qt
open Go.RowKit Go.Maps
set_option maxRecDepth 100000

theorem pr_any (w : World) (base : Nat) (v : Value) (xs : List UInt8) (b : UInt8) (ho : ORow w base 5 v (xs.map bV)) (hl : xs.length ≤ 1000) (hbase : base ≤ w.heap.size) :
    Calls Tryz.prog 50 #[v, .int .u8 (b.toNat : Int)] w (PrPost w base xs b) := by
  have hb := byte_le b
  obtain ⟨A, cap, hv⟩ := ho.shape
  subst hv
  rw [List.length_map] at ho ⊢
  obtain ⟨bi, hbi⟩ : ∃ bi : Int, bi = (b.toNat : Int) := ⟨_, rfl⟩
  have h0 : 0 ≤ bi := by omega
  have h255 : bi ≤ 255 := by omega
  by_cases c34 : bi = 34
  · have hp : (prB b).map bV = [.int .u8 92, .int .u8 34] := by
      unfold prB; rw [if_pos (by omega)]
      simp only [List.map_cons, List.map_nil, bV]
      rw [← hbi, c34]; rfl
    rw [← hbi, c34]
    exact pr_34 w base A cap xs b ho hl hbase (Lib.hid hp)
  by_cases c92 : bi = 92
  · have hp : (prB b).map bV = [.int .u8 92, .int .u8 92] := by
      unfold prB; rw [if_pos (by omega)]
      simp only [List.map_cons, List.map_nil, bV]
      rw [← hbi, c92]; rfl
    rw [← hbi, c92]
    exact pr_92 w base A cap xs b ho hl hbase (Lib.hid hp)
  by_cases c10 : bi = 10
  · have hp : (prB b).map bV = [.int .u8 92, .int .u8 110] := by
      unfold prB; rw [if_neg (by omega), if_pos (by omega)]; rfl
    rw [← hbi, c10]
    exact pr_10 w base A cap xs b ho hl hbase (Lib.hid hp)
  by_cases c9 : bi = 9
  · have hp : (prB b).map bV = [.int .u8 92, .int .u8 116] := by
      unfold prB; rw [if_neg (by omega), if_neg (by omega), if_pos (by omega)]; rfl
    rw [← hbi, c9]
    exact pr_9 w base A cap xs b ho hl hbase (Lib.hid hp)
  by_cases c13 : bi = 13
  · have hp : (prB b).map bV = [.int .u8 92, .int .u8 114] := by
      unfold prB; rw [if_neg (by omega), if_neg (by omega), if_neg (by omega), if_pos (by omega)]; rfl
    rw [← hbi, c13]
    exact pr_13 w base A cap xs b ho hl hbase (Lib.hid hp)
  by_cases c32 : bi < 32
  · have q0 : 0 ≤ bi / 16 ∧ bi / 16 < 16 := by omega
    have q1 : 0 ≤ bi % 16 ∧ bi % 16 < 16 := by omega
    have r0 := hexD_rg _ q0.1 q0.2
    have r1 := hexD_rg _ q1.1 q1.2
    have hp : (prB b).map bV = [.int .u8 92, .int .u8 117, .int .u8 48, .int .u8 48, .int .u8 (hexD (bi / 16)), .int .u8 (hexD (bi % 16))] := by
      unfold prB; rw [if_neg (by omega), if_neg (by omega), if_neg (by omega), if_neg (by omega), if_pos (by omega)]
      rw [← hbi]
      simp only [List.map_cons, List.map_nil]
      rw [bV_b8 _ r0.1 r0.2, bV_b8 _ r1.1 r1.2]
      rfl
    rw [← hbi]
    exact pr_ctl w base A cap xs b bi ho hl hbase (Lib.hid hp) h0 c32 (beq_eq_false_iff_ne.2 c10) (beq_eq_false_iff_ne.2 c9) (beq_eq_false_iff_ne.2 c13)
  · have hp : (prB b).map bV = [.int .u8 bi] := by
      unfold prB; rw [if_neg (by omega), if_neg (by omega), if_neg (by omega), if_neg (by omega), if_neg (by omega)]
      simp only [List.map_cons, List.map_nil, bV]
      rw [← hbi]
    rw [← hbi]
    exact pr_char w base A cap xs b bi ho hl hbase (Lib.hid hp) (by omega) h255 (beq_eq_false_iff_ne.2 c34) (beq_eq_false_iff_ne.2 c92)


/-- What Print tells of a text of so many bytes. -/
def prText (L : List UInt8) : List UInt8 := if (runesL L).isSome = true then (if 48 < L.length then [] else printL L) else []
def prErr (L : List UInt8) : Int := if (runesL L).isSome = true then (if 48 < L.length then 4 else 0) else 3
def PrintEnd (L : List UInt8) : Ending := .returned (.tuple #[.string ⟨(prText L).toArray⟩, .int .i64 (prErr L)])

set_option maxHeartbeats 1000000 in
theorem print_any (s : ByteArray) (w : World) (hm : s.size ≤ 140737488355328) :
    Calls Tryz.prog 28 #[.string s] w fun e w' => e = PrintEnd s.data.toList ∧ Below w.heap.size w w' := by
  have hsz : s.data.toList.length = s.size := by simp
  by_cases hu : (runesL s.data.toList).isSome = true
  · by_cases ho : 48 < s.size
    · have hE : PrintEnd s.data.toList = .returned (.tuple #[.string ⟨#[]⟩, .int .i64 4]) := by
        unfold PrintEnd prText prErr; rw [if_pos hu, if_pos hu, if_pos (by omega), if_pos (by omega)]
      rw [hE]
      have HU := Lib.hid hu
      clear hE hu
      go_enter Tryz.func28, Tryz.ntmps28
      go_wp2_with (first
        | (go_at_call 49; refine (isutf_any s _ hm).mono ?_; rintro e w1 ⟨rfl, hb1⟩; rw [HU.out]))
      go_ret2
      exact ⟨rfl, hb1⟩
    · have hE : PrintEnd s.data.toList = .returned (.tuple #[.string ⟨(34 :: (prAll s.data.toList ++ [34])).toArray⟩, .int .i64 0]) := by
        unfold PrintEnd prText prErr; rw [if_pos hu, if_pos hu, if_neg (by omega), if_neg (by omega)]; rfl
      rw [hE]
      have HU := Lib.hid hu
      clear hE hu
      go_enter Tryz.func28, Tryz.ntmps28
      go_wp2_with (first
        | (go_at_call 49; refine (isutf_any s _ hm).mono ?_; rintro e w1 ⟨rfl, hb1⟩; rw [HU.out]))
      have hs1 := hb1.size
      go_loopw [4, 15] (fun v i wr => ∃ (k : Nat), k ≤ s.size ∧ i = .int .i64 k ∧ ORow wr w.heap.size 5 v ((34 :: prAll (s.data.toList.take k)).map bV) ∧ Below w.heap.size w wr) (fun _ i _ => s.size - (intOf i).toNat)
      case atStart => exact ⟨0, Nat.zero_le _, rfl, by have := ORow.lit w1 w.heap.size 5 #[.int .u8 34] hs1 (by simp [maxLen]); exact this, hb1.alloc hs1 _⟩
      case round =>
        obtain ⟨k, hk, rfl, hown, hbel⟩ := hrel
        have hbs := hbel.size
        have hlen := (prAll_len (s.data.toList.take k)).2
        have htl : (s.data.toList.take k).length ≤ k := List.length_take_le _ _
        by_cases hlt : k < s.size
        · have hle := byte_le s[k]
          have HT := Lib.hid (take_snoc s k hlt)
          go_wp2_with fail
          refine (pr_any _ _ _ (34 :: prAll (s.data.toList.take k)) s[k] hown (by simp; omega) hbs).mono ?_
          rintro e w2 ⟨v2, rfl, hown2, hb2⟩
          go_wp2
          go_roundw
          case rel => exact ⟨k + 1, by omega, by go_num, by rw [HT.out, prAll_snoc]; exact hown2, hbel.trans hb2⟩
          case measure => simp [intOf]; omega
        · have hkn : k = s.size := by omega
          subst hkn
          have htk : s.data.toList.take s.size = s.data.toList := List.take_of_length_le (by omega)
          rw [htk] at hown hlen
          obtain ⟨A, cap, hv⟩ := hown.shape
          subst hv
          rw [List.length_map] at hown
          rw [List.length_map]
          have hx : (34 :: prAll s.data.toList).length ≤ 1000 := by simp; omega
          go_wp2_with (first
            | (at_builtin; refine wp_appS rfl _ _ 51 rfl w.heap.size 5 (.int .u8 0) 1 Tryz.underlying51 Tryz.info5 rfl _ _ [.int .u8 34] rfl (by exact hown.alloc _) (by simp [Value.oneCell']) ⟨wr.heap.size, 0, none⟩ 1 1 rfl rfl (cells_new wr [.int .u8 34] 5) (by simp [maxLen] at hx ⊢; omega) (by simp at hx ⊢; omega) (by simp; omega) ?_; intro v2 w2 hown2 hb2))
          have hstr := put_str (34 :: (prAll s.data.toList ++ [34])) (by simpa [bV] using hown2)
          first | rw [hstr] | skip
          go_wp2
          go_ret2
          exact ⟨rfl, (hbel.alloc hbs _).trans hb2⟩
  · have hE : PrintEnd s.data.toList = .returned (.tuple #[.string ⟨#[]⟩, .int .i64 3]) := by
      unfold PrintEnd prText prErr; rw [if_neg hu, if_neg hu]
    have huf : (runesL s.data.toList).isSome = false := by simpa using hu
    rw [hE]
    have HU := Lib.hid huf
    clear hE hu huf
    go_enter Tryz.func28, Tryz.ntmps28
    go_wp2_with (first
      | (go_at_call 49; refine (isutf_any s _ hm).mono ?_; rintro e w1 ⟨rfl, hb1⟩; rw [HU.out]))
    go_ret2
    exact ⟨rfl, hb1⟩
end Go.Proofs.YtonelabeflcplaaGreatDoor.Qt

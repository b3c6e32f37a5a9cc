/-
  The reference's entities (hexaplaref13): a list of what was defined; Size, find, four.
-/
import Derived.Test.YtmbjeagmnjkemaaEtC
import Derived.Test.YtmbjeagmnjkemaaSrcV
import Derived.Test.YtmbjeagmnjkemaaRlc
namespace Go.Proofs.Ytmbjeagmnjkemaa
open Go.RowKit Go.Maps
set_option maxRecDepth 100000
set_option linter.unusedSimpArgs false
set_option linter.unusedVariables false
set_option linter.unusedSectionVars false
variable [Fo]

def ec (x : List UInt8 × List UInt8) : List Value := [.string ⟨x.1.toArray⟩, .string ⟨x.2.toArray⟩]
def ecs (l : EnL) : List Value := l.flatMap ec
theorem ecs_len (l : EnL) : (ecs l).length = l.length * 2 := by
  induction l with
  | nil => rfl
  | cons x l ih => simp only [ecs, List.flatMap_cons, List.length_append, List.length_cons] at ih ⊢; rw [ih]; simp [ec]; omega
theorem ecs_get : ∀ (l : EnL) (k : Nat) (h : k < l.length) (j : Nat) (_ : j < 2), (ecs l)[k * 2 + j]? = (ec l[k])[j]?
  | x :: l, 0, _, j, hj => by
    simp only [ecs, List.flatMap_cons]
    rw [List.getElem?_append_left (by simp [ec]; omega)]
    simp
  | x :: l, k + 1, h, j, hj => by
    have ih := ecs_get l k (by simpa using h) j hj
    simp only [ecs, List.flatMap_cons] at ih ⊢
    rw [List.getElem?_append_right (by simp [ec]; omega), show (k + 1) * 2 + j - (ec x).length = k * 2 + j by simp [ec]; omega, ih]
    simp
theorem ecs_snoc (l : EnL) (x : List UInt8 × List UInt8) : ecs (l ++ [x]) = ecs l ++ ec x := by simp [ecs]

/-- A list of entities that a call has made. -/
def EnRow (w : World) (base : Nat) (v : Value) (l : EnL) : Prop := w.ownsRow base 51 2 v l.length (ecs l)
structure REn (w : World) (base h : Nat) (L : EnL) (told : Nat) (A : Option Addr) (cap : Nat) : Prop where
  hb : base ≤ h
  blk : Blk w h 28 #[.slice A L.length cap, .int .i64 told]
  row : EnRow w base (.slice A L.length cap) L
  sz : sizeE L ≤ 200
  ln : L.length ≤ sizeE L
  tl : told ≤ 40
def REAt (w : World) (base h : Nat) (L : EnL) (told : Nat) : Prop := ∃ A cap, REn w base h L told A cap
def rKind : Obj → Prop
  | .cells _ t _ => t = 28 ∨ t = 51
  | _ => False
/-- What the reference's calls turn: blocks of these kinds, none below base. -/
structure TR (base : Nat) (w w' : World) : Prop where
  os : w'.os = w.os
  tape : w'.tape = w.tape
  output : w'.output = w.output
  size : w.heap.size ≤ w'.heap.size
  block : ∀ k o, w.heap[k]? = some o → (k < base ∨ ¬ rKind o) → w'.heap[k]? = some o
section
variable {w w1 w' : World} {base h : Nat} {L : EnL} {told cap : Nat} {A : Option Addr}
theorem heapLt {k : Nat} {o : Obj} (h : w.heap[k]? = some o) : k < w.heap.size := (Array.getElem?_eq_some_iff.1 h).1
theorem TR.refl (base : Nat) (w : World) : TR base w w := ⟨rfl, rfl, rfl, Nat.le_refl _, fun _ _ h _ => h⟩
theorem TR.trans (h : TR base w w1) (k : TR base w1 w') : TR base w w' :=
  ⟨k.os.trans h.os, k.tape.trans h.tape, k.output.trans h.output, Nat.le_trans h.size k.size, fun i o ho hc => k.block i o (h.block i o ho hc) hc⟩
theorem TR.of_below (h : Below w.heap.size w w') : TR base w w' := ⟨h.os, h.tape, h.output, h.size, fun k o ho _ => by rw [h.block k (heapLt ho), ho]⟩
theorem TR.below (h : TR base w w') (hb : base ≤ w.heap.size) : Below base w w' :=
  ⟨h.os, h.tape, h.output, h.size, fun k hk => by
    have hlt : k < w.heap.size := Nat.lt_of_lt_of_le hk hb
    obtain ⟨o, ho⟩ : ∃ o, w.heap[k]? = some o := ⟨w.heap[k], Array.getElem?_eq_getElem hlt⟩
    rw [h.block k o ho (.inl hk), ho]⟩
theorem TR.of_grown {g : Nat} {o : Obj} (h : w.grownBy w' (some g)) (ho : w.heap[g]? = some o) (hg : base ≤ g) (hp : rKind o) : TR base w w' :=
  ⟨h.os, h.tape, h.output, h.size, fun k o' ho' hc => by
    refine (h.block k (heapLt ho') ?_).trans ho'
    intro e
    injection e with e
    subst e
    rw [ho] at ho'
    injection ho' with ho'
    subst ho'
    rcases hc with hc | hc
    · omega
    · exact hc hp⟩
theorem TR.of_grown_none (h : w.grownBy w' none) : TR base w w' := ⟨h.os, h.tape, h.output, h.size, fun k o' ho' _ => (h.block k (heapLt ho') (by simp)).trans ho'⟩
theorem EnRow.shape {v : Value} (hr : EnRow w base v L) : ∃ A c, v = .slice A L.length c := by
  rcases hr.2 with ⟨hv, h0⟩ | ⟨g, cap, cur, hv, _⟩
  · exact ⟨none, 0, by rw [hv, h0]⟩
  · exact ⟨_, _, hv⟩
theorem EnRow.obj {v : Value} (hr : EnRow w base v L) {g : Nat} (hg : v.ownBlock = some g) : base ≤ g ∧ ∃ cur, w.heap[g]? = some (.cells cur 51 (0, 0)) := by
  rcases hr.2 with ⟨rfl, _⟩ | ⟨g', cap, cur, rfl, hb, hh, _⟩
  · cases hg
  · cases hg
    exact ⟨hb, cur, hh⟩
theorem EnRow.keep {v : Value} (hr : EnRow w base v L) (hk : ∀ k cur, base ≤ k → w.heap[k]? = some (.cells cur 51 (0, 0)) → w'.heap[k]? = w.heap[k]?) : EnRow w' base v L := by
  refine ⟨hr.1, ?_⟩
  rcases hr.2 with hn | ⟨g, cap, cur, hv, hg, hh, r⟩
  · exact .inl hn
  · exact .inr ⟨g, cap, cur, hv, hg, (hk g cur hg hh).trans hh, r⟩
theorem EnRow.cell {n : Nat} (hr : EnRow w base (.slice A n cap) L) {k : Nat} (hk : k < L.length) :
    ∃ r, A = some ⟨r, 0, none⟩ ∧ base ≤ r ∧ r < w.heap.size ∧ L.length ≤ cap ∧ cap ≤ maxLen ∧ w.cell? ⟨r, k * 2, none⟩ = some (.string ⟨(L[k]).1.toArray⟩) ∧ w.cell? ⟨r, k * 2 + 1, none⟩ = some (.string ⟨(L[k]).2.toArray⟩) := by
  have hr' := hr
  unfold EnRow at hr'
  rcases hr'.2 with ⟨_, h0⟩ | ⟨r, c, cur, hv, hg, hh, hnc, hm, hs, ht⟩
  · omega
  · injection hv with h1 h2 h3
    subst h1 h3
    have hat : ∀ j, j < 2 → w.cell? ⟨r, k * 2 + j, none⟩ = (ec L[k])[j]? := by
      intro j hj
      rw [Blk.cell hh, ← ecs_get L k hk j hj, ← ht, List.getElem?_take_of_lt (by omega), Array.getElem?_toList]
    refine ⟨r, rfl, hg, Blk.lt hh, hnc, hm, ?_, ?_⟩
    · have := hat 0 (by omega); simpa [ec] using this
    · have := hat 1 (by omega); simpa [ec] using this
theorem REn.below (hr : REn w base h L told A cap) (hb : Below w.heap.size w w') : REn w' base h L told A cap :=
  ⟨hr.hb, hr.blk.below hb hr.blk.lt, hr.row.keep fun k cur _ hk => hb.block k (heapLt hk), hr.sz, hr.ln, hr.tl⟩
theorem REAt.below (hr : REAt w base h L told) (hb : Below w.heap.size w w') : REAt w' base h L told := by
  obtain ⟨A, cap, hr⟩ := hr
  exact ⟨A, cap, hr.below hb⟩
theorem REn.ne (hr : REn w base h L told A cap) {g : Nat} (hg : (Value.slice A L.length cap).ownBlock = some g) : h ≠ g := by
  rintro rfl
  obtain ⟨_, cur, hh⟩ := hr.row.obj hg
  have := hr.blk
  unfold Blk at this
  rw [hh] at this
  simp at this
/-- The program's calls turn other blocks. -/
theorem REAt.t2 {e mb : Nat} {L' : EnL} {told' : Nat} (hr : REAt w base h L told) (he : EAt w e mb L' told') (ht : T2 e mb w w') : REAt w' base h L told := by
  obtain ⟨A, cap, hr⟩ := hr
  obtain ⟨es, c, hm⟩ := he.map.obj
  have hblk := he.blk
  unfold Blk at hblk
  refine ⟨A, cap, hr.hb, (ht.block h hr.blk.lt ?_ ?_).trans hr.blk, hr.row.keep fun k cur _ hk => ht.block k (heapLt hk) ?_ ?_, hr.sz, hr.ln, hr.tl⟩
  · rintro rfl
    have := hr.blk
    unfold Blk at this
    rw [hblk] at this
    simp at this
  · rintro rfl
    have := hr.blk
    unfold Blk at this
    rw [hm] at this
    cases this
  · rintro rfl
    rw [hblk] at hk
    simp at hk
  · rintro rfl
    rw [hm] at hk
    cases hk
/-- And the reference's leave the program's. -/
theorem EAt.tr {e mb : Nat} (he : EAt w e mb L told) (ht : TR base w w') : EAt w' e mb L told := by
  obtain ⟨es, c, hm⟩ := he.map.obj
  refine he.keep ?_ ?_
  · have hblk := he.blk
    unfold Blk at hblk
    rw [ht.block e _ hblk (.inr (by simp [rKind])), hblk]
  · rw [ht.block mb _ hm (.inr (fun h => h)), hm]
theorem REn.setTold (hr : REn w base h L told A cap) (n : Nat) (hn : n ≤ 40) : REn (w.setCell ⟨h, 1, none⟩ (.int .i64 (n : Int))) base h L n A cap ∧ TR base w (w.setCell ⟨h, 1, none⟩ (.int .i64 (n : Int))) := by
  have hg : w.grownBy (w.setCell ⟨h, 1, none⟩ (.int .i64 (n : Int))) (some h) := only_setCell (World.grownBy.refl w (some h)) (.inl rfl) _
  refine ⟨⟨hr.hb, hr.blk.set_ 1 _, hr.row.keep fun k cur _ hk => hg.block k (heapLt hk) ?_, hr.sz, hr.ln, hn⟩, TR.of_grown hg hr.blk hr.hb (.inl rfl)⟩
  intro hc
  injection hc with hc
  subst hc
  have := hr.blk
  unfold Blk at this
  rw [hk] at this
  simp at this
theorem REAt.lt (hr : REAt w base h L told) : h < w.heap.size := by obtain ⟨A, cap, hr⟩ := hr; exact hr.blk.lt
theorem REAt.base_ (hr : REAt w base h L told) : base ≤ h := by obtain ⟨A, cap, hr⟩ := hr; exact hr.hb
theorem rnewE (w : World) (base : Nat) (hb : base ≤ w.heap.size) : REAt (w.alloc (.cells #[.slice none 0 0, .int .i64 0] 28)) base w.heap.size [] 0 :=
  ⟨none, 0, hb, Blk.new w _ _, World.ownsRow_nil _ _ _ _, by decide, by decide, by decide⟩
end

theorem eq_bytes {n : ByteArray} {l : List UInt8} (h : n.data.toList = l) : n = ⟨l.toArray⟩ := by subst h; rfl
theorem bytes_of_list (s : ByteArray) : (⟨s.data.toList.toArray⟩ : ByteArray) = s := rfl
theorem sne {x : ByteArray} {l : List UInt8} (h : ¬ x.data.toList = l) : (x.toList == l) = false ∧ ¬ x.toList = l := by
  rw [Lib.toList_data]
  exact ⟨by simpa using h, h⟩

def FourEnd (n : List UInt8) : Ending := match fourE n with | some t => .returned (.tuple #[.string ⟨t.toArray⟩, .bool true]) | none => .returned (.tuple #[.string ⟨#[]⟩, .bool false])
theorem rfour_any (n : ByteArray) (w : World) (hn : n.size ≤ 140737488355328) : Calls Try.prog 30 #[.string n] w fun x w' => x = FourEnd n.data.toList ∧ Below w.heap.size w w' := by
  by_cases h1 : n.data.toList = [108, 116]
  · obtain rfl := eq_bytes h1
    go_enter Try.func30, Try.ntmps30
    go_wp2
    go_ret2
    exact ⟨rfl, Below.refl _ _⟩
  by_cases h2 : n.data.toList = [103, 116]
  · obtain rfl := eq_bytes h2
    go_enter Try.func30, Try.ntmps30
    go_wp2
    go_ret2
    exact ⟨rfl, Below.refl _ _⟩
  by_cases h3 : n.data.toList = [97, 109, 112]
  · obtain rfl := eq_bytes h3
    go_enter Try.func30, Try.ntmps30
    go_wp2
    go_ret2
    exact ⟨rfl, Below.refl _ _⟩
  by_cases h4 : n.data.toList = [113, 117, 111, 116]
  · obtain rfl := eq_bytes h4
    go_enter Try.func30, Try.ntmps30
    have hs : (convert 36 9 (.slice (some ⟨w.heap.size, 0, none⟩) 1 1)).run Try.prog (w.alloc (.cells #[.int .u8 34] 5)) = .ok (.string ⟨#[34]⟩) (w.alloc (.cells #[.int .u8 34] 5)) := run_string_of_row (P := Try.prog) 36 9 [34] Try.underlying36 Try.underlying5 Try.underlying9 (ORow.lit w 0 5 #[.int .u8 34] (Nat.zero_le _) (by decide))
    go_wp2
    go_ret2
    exact ⟨rfl, (Below.refl _ _).alloc (Nat.le_refl _) _⟩
  · have hE : FourEnd n.data.toList = .returned (.tuple #[.string ⟨#[]⟩, .bool false]) := by
      have : fourE n.data.toList = none := by unfold fourE; rw [if_neg h1, if_neg h2, if_neg h3, if_neg h4]
      unfold FourEnd
      rw [this]
    rw [hE]
    obtain ⟨a1, b1⟩ := sne h1
    obtain ⟨a2, b2⟩ := sne h2
    obtain ⟨a3, b3⟩ := sne h3
    obtain ⟨a4, b4⟩ := sne h4
    clear h1 h2 h3 h4 hE
    go_enter Try.func30, Try.ntmps30
    go_wp2
    go_ret2
    exact ⟨rfl, Below.refl _ _⟩

theorem findE_at {n : List UInt8} : ∀ {L : EnL} {k : Nat} (h : k < L.length), (∀ j (hj : j < L.length), j < k → (L[j]).1 ≠ n) → (L[k]).1 = n → findE n L = some (L[k]).2
  | x :: L, 0, _, _, he => by simp only [findE]; rw [if_pos (show x.1 = n from he)]; rfl
  | x :: L, k + 1, h, hn, he => by
    simp only [findE]
    rw [if_neg (show x.1 ≠ n from hn 0 (by simp) (by omega))]
    exact findE_at (k := k) (by simpa using h) (fun j hj hlt => hn (j + 1) (by simpa using hj) (by omega)) he
theorem findE_no {n : List UInt8} : ∀ {L : EnL}, (∀ j (hj : j < L.length), (L[j]).1 ≠ n) → findE n L = none
  | [], _ => rfl
  | x :: L, hn => by
    simp only [findE]
    rw [if_neg (show x.1 ≠ n from hn 0 (by simp))]
    exact findE_no fun j hj => hn (j + 1) (by simpa using hj)
theorem sizeE_take {L : EnL} {k : Nat} (h : k < L.length) : sizeE (L.take (k + 1)) = sizeE (L.take k) + (L[k]).1.length + (L[k]).2.length := by
  rw [List.take_succ_eq_append_getElem h]
  exact size_snoc (L.take k) (L[k]).1 (L[k]).2
theorem sizeE_le : ∀ (L : EnL) (k : Nat), sizeE (L.take k) ≤ sizeE L
  | [], k => by simp
  | x :: L, 0 => by simp [sizeE]
  | x :: L, k + 1 => by have := sizeE_le L k; simp only [List.take_succ_cons, sizeE]; omega

/-- Where find has found. -/
def FindEnd (n : List UInt8) (L : EnL) (e : Ending) : Prop := (∃ (k : Nat) (h : k < L.length), e = .returned (.int .i64 (k : Int)) ∧ findE n L = some (L[k]).2) ∨ (e = .returned (.int .i64 (-1)) ∧ findE n L = none)

set_option maxHeartbeats 1000000 in
theorem rfind_any (w : World) (base h : Nat) (L : EnL) (told : Nat) (n : ByteArray) (hr : REAt w base h L told) (hn : n.size ≤ 140737488355328) :
    Calls Try.prog 31 #[.pointer (some ⟨h, 0, none⟩), .string n] w fun x w' => FindEnd n.data.toList L x ∧ w = w' := by
  obtain ⟨A, cap, hr⟩ := hr
  have hc0 : w.cell? ⟨h, 0, none⟩ = some (.slice A L.length cap) := hr.blk.cell 0
  have hlt := hr.blk.lt
  have hl2 : L.length ≤ 200 := Nat.le_trans hr.ln hr.sz
  have HR := Lib.hid hr
  clear hr
  go_enter Try.func31, Try.ntmps31
  go_wp2
  go_loop [5] (fun i => ∃ k : Nat, k ≤ L.length ∧ i = .int .i64 k ∧ Hid (∀ j (hj : j < L.length), j < k → (L[j]).1 ≠ n.data.toList)) (fun i => L.length - (intOf i).toNat)
  case atStart => exact ⟨0, Nat.zero_le _, rfl, Lib.hid fun j _ hj => absurd hj (by omega)⟩
  case round =>
    obtain ⟨k, hk, rfl, HN⟩ := hrel
    by_cases hlk : k < L.length
    · obtain ⟨r, rfl, _, hrl, hcap, hcm, d0, d1⟩ := HR.out.row.cell hlk
      have hcm2 : cap ≤ 9223372036854775807 := by simpa [maxLen] using hcm
      by_cases he : (L[k]).1 = n.data.toList
      · have HE := Lib.hid (findE_at hlk HN.out he)
        rw [he, bytes_of_list] at d0
        clear he hcm
        go_wp2
        go_ret
        exact ⟨.inl ⟨k, hlk, rfl, HE.out⟩, rfl⟩
      · have hne : (((⟨(L[k]).1.toArray⟩ : ByteArray).toList) == n.toList) = false := by
          rw [Lib.toList_data, Lib.toList_data]
          simpa using he
        have HE := Lib.hid he
        generalize (⟨(L[k]).1.toArray⟩ : ByteArray) = xp at *
        have hne2 : ¬ xp.toList = n.toList := by simpa using hne
        have hne3 : n.toList = [] → xp.toList.isEmpty = false := fun h => by rw [h] at hne2; simpa using hne2
        clear he hcm
        go_wp2
        go_round
        case rel =>
          refine ⟨k + 1, hlk, by go_num, Lib.hid fun i hi hik => ?_⟩
          by_cases hik' : i < k
          · exact HN.out i hi hik'
          · obtain rfl : i = k := by omega
            exact HE.out
        case measure => first | (simp [intOf]; done) | (simp [intOf]; omega)
    · have hke : k = L.length := by omega
      have HE := Lib.hid (findE_no (n := n.data.toList) (L := L) fun j hj => HN.out j hj (by omega))
      subst hke
      go_wp2
      go_ret
      exact ⟨.inr ⟨rfl, HE.out⟩, rfl⟩

theorem drewN_twoE (w : World) (m m' : Nat) : (w.drewN m).drewN m' = w.drewN (m + m') := by
  simp [World.drewN, Nat.add_assoc]
set_option maxHeartbeats 1000000 in
theorem rsizeE_any (w : World) (base h : Nat) (L : EnL) (told : Nat) (hr : REAt w base h L told) :
    Calls Try.prog 11 #[.pointer (some ⟨h, 0, none⟩)] w fun x w' => x = .returned (.int .i64 (sizeE L)) ∧ ∃ m, w' = w.drewN m := by
  obtain ⟨A, cap, hr⟩ := hr
  have hl2 : L.length ≤ 200 := Nat.le_trans hr.ln hr.sz
  have hsz := hr.sz
  go_enter Try.func11, Try.ntmps11
  go_wp2
  go_loopw [3, 4] (fun s i wr => ∃ k : Nat, k ≤ L.length ∧ i = .int .i64 k ∧ s = .int .i64 (sizeE (L.take k)) ∧ Hid (∃ m, wr = w.drewN m)) (fun _ i _ => L.length - (intOf i).toNat)
  case atStart => exact ⟨0, Nat.zero_le _, rfl, rfl, Lib.hid ⟨0, rfl⟩⟩
  case round =>
    obtain ⟨k, hk, rfl, rfl, HM⟩ := hrel
    have hrr : REn wr base h L told A cap := by
      obtain ⟨m, hm⟩ := HM.out
      rw [hm]
      exact hr.below (below_drewN (Below.refl _ _) m)
    have hc0 : wr.cell? ⟨h, 0, none⟩ = some (.slice A L.length cap) := hrr.blk.cell 0
    have hlt := hrr.blk.lt
    have hsk := sizeE_le L k
    by_cases hlk : k < L.length
    · obtain ⟨r, rfl, _, hrl, hcap, hcm, d0, d1⟩ := hrr.row.cell hlk
      have hcm2 : cap ≤ 9223372036854775807 := by simpa [maxLen] using hcm
      have hst := sizeE_take hlk
      have hs1 := sizeE_le L (k + 1)
      have y1 : (⟨(L[k]).1.toArray⟩ : ByteArray).size = (L[k]).1.length := by show (L[k]).1.toArray.size = _; simp
      have y2 : (⟨(L[k]).2.toArray⟩ : ByteArray).size = (L[k]).2.length := by show (L[k]).2.toArray.size = _; simp
      generalize (⟨(L[k]).1.toArray⟩ : ByteArray) = xp at *
      generalize (⟨(L[k]).2.toArray⟩ : ByteArray) = xq at *
      rw [← y1, ← y2] at hst
      have HS := Lib.hid hst
      have hb3 : sizeE (L.take k) + xp.size + xq.size ≤ 200 := by omega
      clear hcm y1 y2 hst hs1
      generalize sizeE (L.take k) = sk at *
      go_wp2_with fail
      go_quiet (fail)
      have HM2 : Hid (∃ m, wr.drewN nq = w.drewN m) := Lib.hid (by obtain ⟨m, hm⟩ := HM.out; rw [hm]; exact ⟨m + nq, drewN_twoE _ _ _⟩)
      go_wp2
      go_roundw
      case rel => exact ⟨k + 1, hlk, by go_num, by rw [HS.out]; first | go_num | (congr 1; omega), HM2⟩
      case measure => first | (simp [intOf]; done) | (simp [intOf]; omega)
    · have hke : k = L.length := by omega
      subst hke
      rw [List.take_length]
      go_wp2
      go_ret
      exact ⟨rfl, HM.out⟩
end Go.Proofs.Ytmbjeagmnjkemaa

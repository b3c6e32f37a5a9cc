/-
  The reference's walk of a node behind events that were taken (hexaplaref06.goes).
  The reference's Walk; Few and few.
  Nodes: what follows from few, and from their walks (pure).
  carry: Row; the reference's Row.
  carry: Row; the law's own examples.
  The walk of CarryWords.
-/
import Derived.Test.YtbnppjmmlfncmaaGreatDoorIrA01
import Derived.Test.YtbnppjmmlfncmaaGreatDoorIrA07
import Derived.Test.YtbnppjmmlfncmaaGreatDoorIrA31
import Derived.Test.YtbnppjmmlfncmaaGreatDoorIrA15
import Derived.Test.YtbnppjmmlfncmaaGreatDoorIrA09
import Derived.Test.YtbnppjmmlfncmaaGreatDoorIrA19
import Derived.Test.YtbnppjmmlfncmaaGreatDoorIrA16
import Derived.Test.YtbnppjmmlfncmaaGreatDoorIrA18
import Derived.Test.YtbnppjmmlfncmaaGreatDoorIrA04
set_option maxRecDepth 100000
set_option linter.unusedSimpArgs false
set_option linter.unusedVariables false
namespace Go.Proofs.YtbnppjmmlfncmaaGreatDoor
open Go.RowKit Go.Maps
theorem goesL_append : ∀ (a b : List Nd) (s : List Ev × List Pt),goesL (a ++ b) s = if (goesL a s).2 ≠ 0 then goesL a s else goesL b (goesL a s).1
 | [],b,s => by simp [goesL]
 | n :: a,b,s => by
  simp only [List.cons_append,goesL]
  by_cases h : (goesN n s).2 = 0
  ·simp only [h,ne_eq,not_true,if_false]
   exact goesL_append a b _
  ·simp only [ne_eq,h,not_false_iff,if_true]
theorem goesL_at {kids : List Nd} {j : Nat} (hj : j < kids.length) (s : List Ev × List Pt) (h0 : (goesL (kids.take j) s).2 = 0) :
 goesL (kids.take (j + 1)) s = goesN kids[j] (goesL (kids.take j) s).1 /\ ((goesN kids[j] (goesL (kids.take j) s).1).2 ≠ 0 -> goesL kids s = goesN kids[j] (goesL (kids.take j) s).1):=by
 have h1 : ∀ (n : Nd) (q : List Ev × List Pt),goesL [n] q = goesN n q:=fun n q => by
  simp only [goesL]
  split
  ·rfl
  ·rename_i h; rw [Decidable.not_not] at h; exact Prod.ext rfl h.symm
 have ha : goesL (kids.take (j + 1)) s = goesN kids[j] (goesL (kids.take j) s).1:=by
  rw [List.take_succ_eq_append_getElem hj,goesL_append,if_neg (by rw [h0]; decide),h1]
 refine ⟨ha,fun hn => ?_⟩
 have hk : goesL kids s = goesL (kids.take (j + 1) ++ kids.drop (j + 1)) s:=by rw [List.take_append_drop]
 rw [hk,goesL_append,ha,if_pos hn]
theorem goesL_len {l : List Nd} {s : List Ev × List Pt} (h : (goesL l s).2 = 0) : (goesL l s).1.1.length <= s.1.length + 2 * sizeL l:=by
 rw [(goesL_ok l s h).2,List.length_append]
 have:=flatL_len l
 omega
theorem sizeL_at {kids : List Nd} {j : Nat} (hj : j < kids.length) : sizeL (kids.take j) + sizeN kids[j] <= sizeL kids:=by
 have hk : kids = kids.take j ++ kids[j] :: kids.drop (j + 1):=by rw [<- List.drop_eq_getElem_cons hj,List.take_append_drop]
 have:=congrArg sizeL hk
 rw [sizeL_append] at this
 simp only [sizeL] at this
 omega
def GPost (base : Nat) (w : World) (lv : Value) (r : (List Ev × List Pt) × Int) (e : Ending) (w' : World) : Prop :=
 ∃ v',e = .returned (.tuple #[v',.int .i64 r.2]) /\ ERow w' base v' r.1.1 /\ OStep w lv w' v'
theorem goes_bad {k : Int} {t v : ByteArray} {kids : List Nd} (h : okShape k kids.length = false) (s : List Ev × List Pt) : goesN (.mk k t v kids) s = (s,19):=by simp only [goesN]; rw [if_pos h]
theorem goes_stop {k : Int} {t v : ByteArray} {kids : List Nd} (h : okShape k kids.length = true) {s : List Ev × List Pt} (he : stepE s.2 ⟨k,t,v⟩ ≠ 0) : goesN (.mk k t v kids) s = (s,stepE s.2 ⟨k,t,v⟩):=by
 simp only [goesN]; rw [if_neg (by rw [h]; decide),if_pos he]
theorem goes_in {k : Int} {t v : ByteArray} {kids : List Nd} (h : okShape k kids.length = true) {s : List Ev × List Pt} (he : stepE s.2 ⟨k,t,v⟩ = 0) :
 ((goesL kids (s.1 ++ [⟨k,t,v⟩],stepS s.2 ⟨k,t,v⟩)).2 ≠ 0 -> goesN (.mk k t v kids) s = goesL kids (s.1 ++ [⟨k,t,v⟩],stepS s.2 ⟨k,t,v⟩)) /\
 ((goesL kids (s.1 ++ [⟨k,t,v⟩],stepS s.2 ⟨k,t,v⟩)).2 = 0 -> goesN (.mk k t v kids) s = if opensK k then (if stepE (goesL kids (s.1 ++ [⟨k,t,v⟩],stepS s.2 ⟨k,t,v⟩)).1.2 (endE (endK k)) ≠ 0 then ((goesL kids (s.1 ++ [⟨k,t,v⟩],stepS s.2 ⟨k,t,v⟩)).1,stepE (goesL kids (s.1 ++ [⟨k,t,v⟩],stepS s.2 ⟨k,t,v⟩)).1.2 (endE (endK k)))
  else (((goesL kids (s.1 ++ [⟨k,t,v⟩],stepS s.2 ⟨k,t,v⟩)).1.1 ++ [endE (endK k)],stepS (goesL kids (s.1 ++ [⟨k,t,v⟩],stepS s.2 ⟨k,t,v⟩)).1.2 (endE (endK k))),0)) else ((goesL kids (s.1 ++ [⟨k,t,v⟩],stepS s.2 ⟨k,t,v⟩)).1,0)):=by
 simp only [goesN]
 rw [if_neg (by rw [h]; decide),if_neg (by rw [he]; decide)]
 exact ⟨fun h => by rw [if_pos h],fun h => by rw [if_neg (by rw [h]; decide)]⟩
theorem rgoes_bad (k : Int) (t v : ByteArray) (kids : List Nd) (A : Option Addr) (c : Nat) (w : World) (base : Nat) (lv : Value) (hs : List Ev) (st : List Pt) (hl : ERow w base lv hs) (h : okShape k kids.length = false) :
 Calls Tryz.prog 35 #[.agg #[.int .i64 k,.string t,.string v,.slice A kids.length c],lv] w (GPost base w lv (goesN (.mk k t v kids) (hs,st))):=by
 rw [goes_bad h]
 unfold GPost
 simp only
 have hal : ∀ u,OStep w lv (w.alloc u) lv:=fun u => (OStep.refl _ _).alloc u
 have n5 : ¬ k = 5:=fun e => by rw [shape_open (.inl e)] at h; cases h
 have n7 : ¬ k = 7:=fun e => by rw [shape_open (.inr (.inl e))] at h; cases h
 have n10 : ¬ k = 10:=fun e => by rw [shape_open (.inr (.inr e))] at h; cases h
 have hei : endI k = 0:=by unfold endI; rw [if_neg n5,if_neg n7,if_neg n10]
 have hE:=fun w' => rend_any k w'
 rw [hei] at hE
 by_cases h8 : k = 8
 ·subst h8
  rw [shape_key,decide_eq_false_iff_not] at h
  have d1 : ((kids.length : Int) == 1) = false:=ibeq (by omega)
  clear h hei n5 n7 n10
  go_enter Tryz.func35,Tryz.ntmps35
  go_wp2_with (first
   | (go_at_call 62; refine (hE _).mono ?_; rintro e w1 ⟨rfl,rfl⟩))
  go_ret2
  exact ⟨_,rfl,hl.alloc _,hal _⟩
 by_cases h1 : k = 1 \/ k = 2 \/ k = 3 \/ k = 4 \/ k = 11
 ·rw [shape_leaf h1,decide_eq_false_iff_not] at h
  have d1 : ((kids.length : Int) == 0) = false:=ibeq (by omega)
  clear h hei n5 n7 n10 h8
  rcases h1 with rfl | rfl | rfl | rfl | rfl
  all_goals
   go_enter Tryz.func35,Tryz.ntmps35
   go_wp2_with (first
    | (go_at_call 62; refine (hE _).mono ?_; rintro e w1 ⟨rfl,rfl⟩))
   go_ret2
   exact ⟨_,rfl,hl.alloc _,hal _⟩
 have e1 : (k == 1) = false:=ibeq fun h => h1 (.inl h)
 have e2 : (k == 2) = false:=ibeq fun h => h1 (.inr (.inl h))
 have e3 : (k == 3) = false:=ibeq fun h => h1 (.inr (.inr (.inl h)))
 have e4 : (k == 4) = false:=ibeq fun h => h1 (.inr (.inr (.inr (.inl h))))
 have e11 : (k == 11) = false:=ibeq fun h => h1 (.inr (.inr (.inr (.inr h))))
 have e8:=ibeq h8
 clear h hei n5 n7 n10 h8 h1
 go_enter Tryz.func35,Tryz.ntmps35
 go_wp2_with (first
  | (go_at_call 62; refine (hE _).mono ?_; rintro e w1 ⟨rfl,rfl⟩))
 go_ret2
 exact ⟨_,rfl,hl.alloc _,hal _⟩
set_option maxHeartbeats 24000000 in
theorem rgoes_any (n : Nd) : ∀ (A : Option Addr) (c : Nat) (w : World) (base : Nat) (lv : Value) (hs : List Ev) (st : List Pt),base <= w.heap.size -> ERow w base lv hs -> Taken hs st -> NAt (fun b _ => b < base) w n A c -> smallT n -> hs.length + 2 * sizeN n <= 100000 ->
 Calls Tryz.prog 35 #[.agg #[.int .i64 n.k,.string n.t,.string n.v,.slice A n.kids.length c],lv] w (GPost base w lv (goesN n (hs,st))):=by
 induction n using Nd.ind with
 | h k t v kids ih =>
  intro A c w base lv hs st hb hl hT hA hok hn
  simp only [Nd.k,Nd.t,Nd.v,Nd.kids]
  cases hsh : okShape k kids.length with
  | false => exact rgoes_bad k t v kids A c w base lv hs st hl hsh
  | true =>
   obtain ⟨hlc,hcm,hkids⟩:=(NAt.def_ _ _ _).1 hA
   simp only [Nd.kids] at hlc hkids
   have hcm2 : c <= 9223372036854775807:=by simpa [maxLen] using hcm
   have hkok : ∀ m ∈ kids,smallT m:=smallL_mem.1 hok.2.2
   have hts : t.size <= 1048576:=hok.1
   have hvs : v.size <= 1048576:=hok.2.1
   simp only [sizeN] at hn
   obtain ⟨lA,lc,rfl⟩:=hl.shape
   have hE:=fun w' => rend_any k w'
   obtain ⟨W0,hW0⟩ : ∃ W0,(w.alloc (.cells #[.int .i64 k,.string t,.string v,.slice A kids.length c] 24)).alloc (.cells #[.int .i64 k,.string t,.string v] 67) = W0:=⟨_,rfl⟩
   have bW0 : Below w.heap.size w W0:=by rw [<- hW0]; exact ((Below.refl _ _).alloc (Nat.le_refl _) _).alloc (by simp) _
   have hl0:=hl.below bW0
   have hS:=rstep_any W0 _ hs st ⟨k,t,v⟩ hl0.read (by omega) (by show t.size <= _; omega) (by show v.size <= _; omega) hT.rel hT.good
   unfold RSPost evV at hS
   simp only at hS
   have hbx : Blk W0 w.heap.size 24 #[.int .i64 k,.string t,.string v,.slice A kids.length c]:=by rw [<- hW0]; exact (Blk.new w _ _).alloc _
   have hbe : Blk W0 (w.heap.size + 1) 67 #[.int .i64 k,.string t,.string v]:=by
    rw [<- hW0]
    have:=Blk.new (w.alloc (.cells #[.int .i64 k,.string t,.string v,.slice A kids.length c] 24)) 67 #[.int .i64 k,.string t,.string v]
    rw [World.size_alloc] at this
    exact this
   have c0 : W0.cell? ⟨w.heap.size + 1,0,none⟩ = some (.int .i64 k):=hbe.cell 0
   have c1 : W0.cell? ⟨w.heap.size + 1,1,none⟩ = some (.string t):=hbe.cell 1
   have c2 : W0.cell? ⟨w.heap.size + 1,2,none⟩ = some (.string v):=hbe.cell 2
   have hgi:=goes_in (t:=t) (v:=v) hsh (s:=(hs,st))
   have hgs:=goes_stop (t:=t) (v:=v) hsh (s:=(hs,st))
   simp only at hgi hgs
   by_cases h5 : k = 5 \/ k = 7 \/ k = 10
   case' pos =>
    have ho : opensK k = true:=by unfold opensK; exact decide_eq_true h5
    obtain ⟨hee,hez⟩:=(endI_opens k).1 ho
    have z1:=ibeq hez
    have z2:=ibne hez
    have e1 : (k == 1) = false:=ibeq (by omega)
    have e2 : (k == 2) = false:=ibeq (by omega)
    have e3 : (k == 3) = false:=ibeq (by omega)
    have e4 : (k == 4) = false:=ibeq (by omega)
    have e11 : (k == 11) = false:=ibeq (by omega)
    have HO:=Lib.hid ho
    have HEE:=Lib.hid hee
    rw [ho] at hgi
    generalize endI k = E at *
    clear ho hee hez h5
   case' neg =>
    have hei : endI k = 0:=by unfold endI; rw [if_neg fun e => h5 (.inl e),if_neg fun e => h5 (.inr (.inl e)),if_neg fun e => h5 (.inr (.inr e))]
    have ho : opensK k = false:=by unfold opensK; exact decide_eq_false h5
    rw [hei] at hE
    rw [ho] at hgi
    have HO:=Lib.hid ho
    clear hei ho
    by_cases h8 : k = 8
    case' pos =>
     have hl1 : kids.length = 1:=by rw [h8,shape_key,decide_eq_true_iff] at hsh; exact hsh
     have z1 : ((kids.length : Int) == 1) = true:=by rw [hl1]; rfl
     have e1 : (k == 1) = false:=ibeq (by omega)
     have e2 : (k == 2) = false:=ibeq (by omega)
     have e3 : (k == 3) = false:=ibeq (by omega)
     have e4 : (k == 4) = false:=ibeq (by omega)
     have e11 : (k == 11) = false:=ibeq (by omega)
     have e8 : (k == 8) = true:=by rw [h8]; rfl
     clear hl1 h5 h8
    case' neg =>
     have h1 : k = 1 \/ k = 2 \/ k = 3 \/ k = 4 \/ k = 11:=by
      apply Decidable.byContradiction
      intro h1
      rw [shape_none (fun e => h1 (.inl e)) (fun e => h1 (.inr (.inl e))) (fun e => h1 (.inr (.inr (.inl e)))) (fun e => h1 (.inr (.inr (.inr (.inl e))))) (fun e => h5 (.inl e)) (fun e => h5 (.inr (.inl e))) h8 (fun e => h5 (.inr (.inr e))) (fun e => h1 (.inr (.inr (.inr (.inr e)))))] at hsh
      cases hsh
     have hl1 : kids.length = 0:=by rw [shape_leaf h1,decide_eq_true_iff] at hsh; exact hsh
     have z1 : ((kids.length : Int) == 0) = true:=by rw [hl1]; rfl
     clear hl1 h5 h8
     rcases h1 with h | h | h | h | h
     case' inl => have e1 : (k == 1) = true:=by rw [h]; rfl
     case' inr.inl =>
      have e1 : (k == 1) = false:=ibeq (by omega)
      have e2 : (k == 2) = true:=by rw [h]; rfl
     case' inr.inr.inl =>
      have e1 : (k == 1) = false:=ibeq (by omega)
      have e2 : (k == 2) = false:=ibeq (by omega)
      have e3 : (k == 3) = true:=by rw [h]; rfl
     case' inr.inr.inr.inl =>
      have e1 : (k == 1) = false:=ibeq (by omega)
      have e2 : (k == 2) = false:=ibeq (by omega)
      have e3 : (k == 3) = false:=ibeq (by omega)
      have e4 : (k == 4) = true:=by rw [h]; rfl
     case' inr.inr.inr.inr =>
      have e1 : (k == 1) = false:=ibeq (by omega)
      have e2 : (k == 2) = false:=ibeq (by omega)
      have e3 : (k == 3) = false:=ibeq (by omega)
      have e4 : (k == 4) = false:=ibeq (by omega)
      have e11 : (k == 11) = true:=by rw [h]; rfl
     all_goals clear h
   all_goals
    by_cases hz : stepE st ⟨k,t,v⟩ = 0
    case neg =>
     have hg:=hgs hz
     rw [hg]
     unfold GPost
     simp only
     have n1:=ibeq hz
     have n2:=ibne hz
     generalize stepE st ⟨k,t,v⟩ = F at *
     clear hz hgs hgi hg hkids ih hlc hcm hbx hbe hA hn
     go_enter Tryz.func35,Tryz.ntmps35
     go_wp2_with (first
      | (go_at_call 62; refine (hE _).mono ?_; rintro e w1 ⟨rfl,rfl⟩)
      | (go_at_call 63; refine hS.mono ?_; rintro e w1 ⟨rfl,hb1⟩))
     go_ret2
     exact ⟨_,rfl,hl0.below hb1,(OStep.of_below bW0 _).then_below hb1⟩
    case pos =>
     rw [hz] at hS
     obtain ⟨hg1,hg2⟩:=hgi hz
     have hT1:=hT.snoc hz
     have hTG:=fun j => goesL_taken (kids.take j) (hs ++ [⟨k,t,v⟩],stepS st ⟨k,t,v⟩) hT1
     have hGA:=fun (j : Nat) (hj : j < kids.length) h0 => goesL_at hj (hs ++ [⟨k,t,v⟩],stepS st ⟨k,t,v⟩) h0
     have hGL:=fun (j : Nat) h0 => goesL_len (l:=kids.take j) (s:=(hs ++ [⟨k,t,v⟩],stepS st ⟨k,t,v⟩)) h0
     have hG0 : goesL (kids.take 0) (hs ++ [⟨k,t,v⟩],stepS st ⟨k,t,v⟩) = ((hs ++ [⟨k,t,v⟩],stepS st ⟨k,t,v⟩),0):=rfl
     have hGE : goesL (kids.take kids.length) (hs ++ [⟨k,t,v⟩],stepS st ⟨k,t,v⟩) = goesL kids (hs ++ [⟨k,t,v⟩],stepS st ⟨k,t,v⟩):=by rw [List.take_length]
     have hsl : (hs ++ [⟨k,t,v⟩] : List Ev).length = hs.length + 1:=by simp
     obtain ⟨G,hG⟩ : ∃ G : Nat -> (List Ev × List Pt) × Int,∀ j,goesL (kids.take j) (hs ++ [⟨k,t,v⟩],stepS st ⟨k,t,v⟩) = G j:=⟨_,fun _ => rfl⟩
     simp only [hG] at hTG hGA hGL hG0 hGE
     rw [<- hGE] at hg1 hg2 hGA
     generalize goesN (.mk k t v kids) (hs,st) = R at *
     rw [hsl] at hGL
     have hTG2 : ∀ j,Taken (G j).1.1 (G j).1.2:=hTG
     have hsn : evcs (hs ++ [⟨k,t,v⟩]) = evcs hs ++ [.int .i64 k,.string t,.string v]:=evcs_snoc hs _
     have hne0 : some w.heap.size ≠ (Value.slice lA hs.length lc).ownBlock:=fun e => by have:=(World.ownsRow.lt hl _ e.symm).2; omega
     have hne1 : some (w.heap.size + 1) ≠ (Value.slice lA hs.length lc).ownBlock:=fun e => by have:=(World.ownsRow.lt hl _ e.symm).2; omega
     have h63 : hs.length + 1 <= maxLen:=by simp only [maxLen]; omega
     have h40 : (hs.length + 1) * 40 <= 140737488355328:=by omega
     have HA:=Lib.hid hA
     have HL0:=Lib.hid hl0
     have HBX:=Lib.hid hbx
     have HBE:=Lib.hid hbe
     have HB:=Lib.hid bW0
     clear hz hgs hgi hl hT hT1 hTG hG hA hl0 hbx hbe bW0 hok hts hvs hcm
     go_enter Tryz.func35,Tryz.ntmps35
     go_wp2_with (first
      | (go_at_call 62; refine (hE _).mono ?_; rintro e w1 ⟨rfl,rfl⟩)
      | (go_at_call 63; refine hS.mono ?_; clear hS; rintro e w1 ⟨rfl,hb1⟩; have hz0:=(HBE.out.below hb1 HBE.out.lt).cell 0; have hz1:=(HBE.out.below hb1 HBE.out.lt).cell 1; have hz2:=(HBE.out.below hb1 HBE.out.lt).cell 2; have hbs1 : base <= (w1.alloc (.cells #[.int .i64 k,.string t,.string v] 67)).heap.size:=(by have h1:=hb1.size; have h2:=HB.out.size; simp; omega))
      | (at_builtin; refine wp_appO rfl _ _ 36 rfl base 67 _ 3 40 Tryz.underlying36 Tryz.infoEv rfl (by decide) (.slice lA hs.length lc) hs.length (evcs hs) [.int .i64 k,.string t,.string v] rfl (by exact (HL0.out.below hb1).alloc _) (by simp [Value.oneCell']) ⟨w1.heap.size,0,none⟩ 1 1 rfl rfl (by exact cellsOf3 w1 _ _ _ _) h63 h40 hbs1 ?_; intro v4 w4 hown4 hO4))
     have hO4':=((OStep.of_below hb1 _).alloc _).trans hO4
     have row4 : ERow w4 base v4 (hs ++ [⟨k,t,v⟩]):=by
      unfold ERow
      rw [hsn,hsl]
      exact hown4
     clear hO4 hown4 hsn hb1 hz0 hz1 hz2 hbs1
     go_loopw [1,10] (fun lz i wr => ∃ (j : Nat) (lv : Value),lv = lz /\ j <= kids.length /\ i = .int .i64 (j : Int) /\ Hid (ERow wr base lv (G j).1.1) /\ Hid ((G j).2 = 0) /\ Hid (OStep W0 (.slice lA hs.length lc) wr lv)) (fun _ i _ => kids.length - (intOf i).toNat)
     case atStart => exact ⟨0,_,rfl,Nat.zero_le _,rfl,Lib.hid (by rw [hG0]; exact row4),Lib.hid (by rw [hG0]),Lib.hid hO4'⟩
     case round =>
      obtain ⟨j,lv,rfl,hj,rfl,HR,HZ,HO4⟩:=hrel
      clear row4 hO4' hG0
      have bx:=(HO4.out.blk HBX.out hne0).1
      have g3 : wr.cell? ⟨w.heap.size,3,none⟩ = some (.slice A kids.length c):=bx.cell 3
      have hbw0 : Below base W0 wr:=HO4.out.below (HL0.out) (by have:=HB.out.size; omega)
      have hbw : Below base w wr:=⟨hbw0.os.trans HB.out.os,hbw0.tape.trans HB.out.tape,hbw0.output.trans HB.out.output,Nat.le_trans HB.out.size hbw0.size,fun k hk => (hbw0.block k hk).trans (HB.out.block k (by omega))⟩
      by_cases hlt : j < kids.length
      case pos =>
       obtain ⟨b,o,rfl,hbb,hkid⟩:=hkids (by omega)
       obtain ⟨A',c',q0,q1,q2,q3,hnk⟩:=hkid j hlt
       have r0:=(hbw.cell (p:=⟨b,o + j * 4,none⟩) hbb).trans q0
       have r1:=(hbw.cell (p:=⟨b,o + j * 4 + 1,none⟩) hbb).trans q1
       have r2:=(hbw.cell (p:=⟨b,o + j * 4 + 2,none⟩) hbb).trans q2
       have r3:=(hbw.cell (p:=⟨b,o + j * 4 + 3,none⟩) hbb).trans q3
       have hnr : NAt (fun b _ => b < base) wr kids[j] A' c':=hnk.low fun i hi => hbw.block i hi
       have hsz:=sizeL_at hlt
       have hgl:=hGL j HZ.out
       obtain ⟨ga1,ga2⟩:=hGA j hlt HZ.out
       have hih:=ih _ (List.getElem_mem hlt) A' c' wr base lv (G j).1.1 (G j).1.2 (by have:=hbw.size; omega) HR.out (hTG2 j) hnr (hkok _ (List.getElem_mem hlt)) (by omega)
       unfold GPost at hih
       clear q0 q1 q2 q3 hnk hnr hkid hkids hkok hsz hgl hTG2
       generalize kids[j] = kd at *
       by_cases hF : (goesN kd (G j).1).2 = 0
       case pos =>
        have hF2 : (goesN kd ((G j).1.1,(G j).1.2)).2 = 0:=hF
        rw [hF2] at hih
        have HG2:=Lib.hid ga1
        have HF:=Lib.hid hF
        clear hF hF2 ga1 ga2 hGA hGL hg1 hg2 hGE
        go_wp2_with (first
         | (go_at_call 35; refine hih.mono ?_; clear hih; rintro e w5 ⟨v5,rfl,row5,hO5⟩))
        go_roundw
        case rel => exact ⟨j + 1,v5,rfl,hlt,by go_num,Lib.hid (by rw [HG2.out]; exact row5),Lib.hid (by rw [HG2.out]; exact HF.out),Lib.hid (HO4.out.trans hO5)⟩
        case measure => first | (simp [intOf]; done) | (simp [intOf]; omega)
       case neg =>
        have hR1:=ga2 hF
        have hR2:=hg1 (by rw [hR1]; exact hF)
        rw [hR1] at hR2
        have HR2:=Lib.hid hR2
        have n1:=ibeq hF
        have n2:=ibne hF
        have hF3 : (goesN kd ((G j).1.1,(G j).1.2)).2 = (goesN kd (G j).1).2:=rfl
        rw [hF3] at hih
        obtain ⟨F,hF4⟩ : ∃ F,(goesN kd (G j).1).2 = F:=⟨_,rfl⟩
        rw [hF4] at hih n1 n2
        have HF:=Lib.hid (show R.2 = F by rw [hR2,hF4])
        clear hF hR1 hR2 hF3 hF4 ga1 ga2 hGA hGL hg1 hg2 hGE
        go_wp2_with (first
         | (go_at_call 35; refine hih.mono ?_; clear hih; rintro e w5 ⟨v5,rfl,row5,hO5⟩))
        go_ret2
        exact ⟨v5,by rw [HF.out]; rfl,by rw [HR2.out]; exact row5,((OStep.of_below HB.out _).trans HO4.out).trans hO5⟩
      case neg =>
       have hje : j = kids.length:=by omega
       subst hje
       have be:=HO4.out.blk HBE.out hne1
       obtain ⟨be,hne3⟩:=be
       have hg2':=hg2 HZ.out
       have hgl:=hGL _ HZ.out
       have hsz : sizeL (kids.take kids.length) = sizeL kids:=by rw [List.take_length]
       rw [hsz] at hgl
       have hTe:=hTG2 kids.length
       have hRS:=fun (w' : World) (hr : ERow w' base lv (G kids.length).1.1) => rstep_any w' _ _ (G kids.length).1.2 (endE (endK k)) hr.read (by omega) (by show (0 : Nat) <= _; omega) (by show (0 : Nat) <= _; omega) hTe.rel hTe.good
       unfold RSPost evV endE at hRS
       simp only at hRS
       clear hkids hkok hTG2 hGA hGL hg1 hg2 hGE ih
       first
       | (have hoo : opensK k = true:=HO.out
          rw [if_pos trivial] at hg2'
          have f0 : wr.frozen? ⟨w.heap.size + 1,0,none⟩ = false:=be.frozen 0
          have f1 : wr.frozen? ⟨w.heap.size + 1,1,none⟩ = false:=be.frozen 1
          have f2 : wr.frozen? ⟨w.heap.size + 1,2,none⟩ = false:=be.frozen 2
          have d0 : wr.cell? ⟨w.heap.size + 1,0,none⟩ = some (.int .i64 k):=be.cell 0
          have d1 : wr.cell? ⟨w.heap.size + 1,1,none⟩ = some (.string t):=be.cell 1
          have d2 : wr.cell? ⟨w.heap.size + 1,2,none⟩ = some (.string v):=be.cell 2
          have dl:=be.lt
          rw [<- HEE.out] at hRS hg2'
          clear hoo
          have hglen : (G kids.length).1.1.length <= 99999:=by omega
          clear hsz hgl
          obtain ⟨F2,hF2⟩ : ∃ F2,stepE (G kids.length).1.2 (endE E) = F2:=⟨_,rfl⟩
          have hF3 : stepE (G kids.length).1.2 ⟨E,⟨#[]⟩,⟨#[]⟩⟩ = F2:=hF2
          rw [hF3] at hRS
          rw [hF2] at hg2'
          obtain ⟨W6,hW6⟩ : ∃ W6,((wr.setCell ⟨w.heap.size + 1,0,none⟩ (.int .i64 E)).setCell ⟨w.heap.size + 1,1,none⟩ (.string ⟨#[]⟩)).setCell ⟨w.heap.size + 1,2,none⟩ (.string ⟨#[]⟩) = W6:=⟨_,rfl⟩
          have b6 : Blk W6 (w.heap.size + 1) 67 #[.int .i64 E,.string ⟨#[]⟩,.string ⟨#[]⟩]:=by rw [<- hW6]; exact ((be.set_ 0 (.int .i64 E)).set_ 1 (.string ⟨#[]⟩)).set_ 2 (.string ⟨#[]⟩)
          have gr6 : wr.grownBy W6 (some (w.heap.size + 1)):=by rw [<- hW6]; exact only_setCell (p:=⟨w.heap.size + 1,2,none⟩) (only_setCell (p:=⟨w.heap.size + 1,1,none⟩) (only_setCell (p:=⟨w.heap.size + 1,0,none⟩) (World.grownBy.refl wr _) (.inl rfl) _) (.inl rfl) _) (.inl rfl) _
          have r6 : ERow W6 base lv (G kids.length).1.1:=World.ownsRow.kept HR.out gr6 (.inr (Ne.symm hne3))
          have o6 : OStep w (.slice lA hs.length lc) W6 lv:=by rw [<- hW6]; exact (((((OStep.of_below HB.out _).trans HO4.out).set (p:=⟨w.heap.size + 1,0,none⟩) (by simp) _).set (p:=⟨w.heap.size + 1,1,none⟩) (by simp) _).set (p:=⟨w.heap.size + 1,2,none⟩) (by simp) _)
          have m0 : W6.cell? ⟨w.heap.size + 1,0,none⟩ = some (.int .i64 E):=b6.cell 0
          have m1 : W6.cell? ⟨w.heap.size + 1,1,none⟩ = some (.string ⟨#[]⟩):=b6.cell 1
          have m2 : W6.cell? ⟨w.heap.size + 1,2,none⟩ = some (.string ⟨#[]⟩):=b6.cell 2
          have hS6:=hRS W6 r6
          by_cases hz2 : F2 = 0
          ·rw [if_neg (by rw [hz2]; decide)] at hg2'
           rw [hz2] at hS6
           have HG2:=Lib.hid hg2'
           have h63' : (G kids.length).1.1.length + 1 <= maxLen:=by simp only [maxLen]; omega
           have h40' : ((G kids.length).1.1.length + 1) * 40 <= 140737488355328:=by omega
           have hbs6:=o6.size
           clear hg2' hz2 hF2 hF3 hRS be
           obtain ⟨lA2,lc2,rfl⟩:=r6.shape
           go_wp2_with (first
            | (go_at_call 63; refine hS6.mono ?_; clear hS6; rintro e w7 ⟨rfl,hb7⟩; have b7:=b6.below hb7 b6.lt; have hz0 : w7.cell? ⟨w.heap.size + 1,0,none⟩ = some (.int .i64 E):=b7.cell 0; have hz1 : w7.cell? ⟨w.heap.size + 1,1,none⟩ = some (.string ⟨#[]⟩):=b7.cell 1; have hz2 : w7.cell? ⟨w.heap.size + 1,2,none⟩ = some (.string ⟨#[]⟩):=b7.cell 2; have hbs7 : base <= (w7.alloc (.cells #[.int .i64 E,.string ⟨#[]⟩,.string ⟨#[]⟩] 67)).heap.size:=(by have:=hb7.size; simp; omega))
            | (at_builtin; refine wp_appO rfl _ _ 36 rfl base 67 _ 3 40 Tryz.underlying36 Tryz.infoEv rfl (by decide) (.slice lA2 (G kids.length).1.1.length lc2) (G kids.length).1.1.length (evcs (G kids.length).1.1) [.int .i64 E,.string ⟨#[]⟩,.string ⟨#[]⟩] rfl (by exact (r6.below hb7).alloc _) (by simp [Value.oneCell']) ⟨w7.heap.size,0,none⟩ 1 1 rfl rfl (by exact cellsOf3 w7 _ _ _ _) h63' h40' hbs7 ?_; intro v8 w8 hown8 hO8))
           go_ret2
           refine ⟨v8,by rw [HG2.out]; rfl,?_,((o6.then_below hb7).alloc _).trans hO8⟩
           rw [HG2.out]
           unfold ERow
           simp only
           rw [evcs_snoc,List.length_append]
           exact hown8
          ·rw [if_pos hz2] at hg2'
           have HG2:=Lib.hid hg2'
           have n1:=ibeq hz2
           have n2:=ibne hz2
           clear hg2' hz2 hF2 hF3 hRS be
           go_wp2_with (first
            | (go_at_call 63; refine hS6.mono ?_; clear hS6; rintro e w7 ⟨rfl,hb7⟩))
           go_ret2
           exact ⟨lv,by rw [HG2.out]; rfl,by rw [HG2.out]; exact r6.below hb7,o6.then_below hb7⟩)
       | (have hoo : opensK k = false:=HO.out
          rw [if_neg Bool.false_ne_true] at hg2'
          have HG2:=Lib.hid hg2'
          clear hg2' hRS be hgl hsz hoo
          go_wp2_with fail
          go_ret2
          exact ⟨lv,by rw [HG2.out]; rfl,by rw [HG2.out]; exact HR.out,(OStep.of_below HB.out _).trans HO4.out⟩)
set_option maxHeartbeats 4000000 in
theorem rwalk_any (n : Nd) (A : Option Addr) (c : Nat) (w : World) (hs : smallT n) (hz : sizeN n <= 40000) (hA : NAt (fun b _ => b < w.heap.size) w n A c) :
 Calls Tryz.prog 19 #[.agg #[.int .i64 n.k,.string n.t,.string n.v,.slice A n.kids.length c]] w fun e w' => ∃ lv,e = .returned (.tuple #[lv,.int .i64 (mayN n)]) /\ Below w.heap.size w w' /\ (mayN n ≠ 0 -> lv = .slice none 0 0) /\ (mayN n = 0 -> ERow w' w.heap.size lv (flat n)):=by
 have hal : Below w.heap.size w (w.alloc (.cells #[.int .i64 n.k,.string n.t,.string n.v,.slice A n.kids.length c] 24)):=(Below.refl _ _).alloc (Nat.le_refl _) _
 have hG:=rgoes_any n A c (w.alloc (.cells #[.int .i64 n.k,.string n.t,.string n.v,.slice A n.kids.length c] 24)) w.heap.size (.slice none 0 0) [] [topP] hal.size (ERow.nil _ _) taken_nil (hA.below hal) hs (by simp; omega)
 have hE:=mayN_goes n
 have hok:=goesN_ok n ([],[topP])
 unfold GPost at hG
 generalize goesN n ([],[topP]) = R at *
 by_cases hm : mayN n = 0
 ·have hR:=(hok (by rw [hE]; exact hm)).2
  simp only [List.nil_append] at hR
  have hfl:=flat_len n
  have hW:=fun w' v (h : ERow w' w.heap.size v (flat n)) => rwhole_any w' v (flat n) h.read (fun x hx => by have:=flat_small n hs x hx; omega) (by omega)
  rw [may_whole hm] at hW
  unfold WEnd at hW
  simp only at hW
  rw [hE,hm,hR] at hG
  rw [hm]
  generalize flat n = F at *
  clear hE hok hR hA hfl hs hz hm
  go_enter Tryz.func19,Tryz.ntmps19
  go_wp2_with (first
   | (go_at_call 35; refine hG.mono ?_; clear hG; rintro e w1 ⟨v1,rfl,row1,hO1⟩)
   | (go_at_call 36; refine (hW _ _ row1).mono ?_; clear hW; rintro e w2 ⟨rfl,hb2⟩))
  go_ret2
  have hb1:=hal.trans ((hO1.none_below).mono hal.size)
  exact ⟨_,rfl,hb1.trans (hb2.mono hb1.size),fun h => absurd rfl h,fun _ => row1.below hb2⟩
 ·rw [hE] at hG
  have z1:=ibeq hm
  have z2:=ibne hm
  generalize mayN n = E at *
  clear hok hA hE
  go_enter Tryz.func19,Tryz.ntmps19
  go_wp2_with (first
   | (go_at_call 35; refine hG.mono ?_; clear hG; rintro e w1 ⟨v1,rfl,row1,hO1⟩))
  go_ret2
  exact ⟨_,rfl,hal.trans ((hO1.none_below).mono hal.size),fun _ => rfl,fun h => absurd h hm⟩
theorem fewL_append : ∀ (a b : List Nd) (left deep : Int),fewL (a ++ b) left deep = fewL b (fewL a left deep) deep
 | [],b,left,deep => rfl
 | n :: a,b,left,deep => by
  simp only [List.cons_append,fewL]
  split
  ·rename_i h; rw [fewL_neg _ _ _ h]
  ·exact fewL_append a b _ _
theorem fewL_at {kids : List Nd} {j : Nat} (hj : j < kids.length) (left deep : Int) (h : 0 <= fewL (kids.take j) left deep) : fewL (kids.take (j + 1)) left deep = fewN kids[j] (fewL (kids.take j) left deep) deep:=by
 rw [List.take_succ_eq_append_getElem hj,fewL_append]
 simp only [fewL]
 rw [if_neg (by omega)]
theorem fewL_stop {kids : List Nd} {j : Nat} (left deep : Int) (h : fewL (kids.take j) left deep < 0) : fewL kids left deep = fewL (kids.take j) left deep:=by
 have : fewL kids left deep = fewL (kids.take j ++ kids.drop j) left deep:=by rw [List.take_append_drop]
 rw [this,fewL_append,fewL_neg _ _ _ h]
set_option maxHeartbeats 4000000 in
theorem rfew_any (n : Nd) : ∀ (left deep : Int) (S : Nat -> Nat -> Prop) (A : Option Addr) (c : Nat) (w : World),0 <= left -> left <= 300 -> -1 <= deep -> deep <= 20 -> NAt S w n A c ->
 Calls Tryz.prog 23 #[.agg #[.int .i64 n.k,.string n.t,.string n.v,.slice A n.kids.length c],.int .i64 left,.int .i64 deep] w fun e w' => e = .returned (.int .i64 (fewN n left deep)) /\ Below w.heap.size w w':=by
 induction n using Nd.ind with
 | h k t v kids ih =>
  intro left deep S A c w h0 h1 h2 h3 hA
  simp only [Nd.k,Nd.t,Nd.v,Nd.kids]
  obtain ⟨hlc,hcm,hkids⟩:=(NAt.def_ _ _ _).1 hA
  simp only [Nd.kids] at hlc hkids
  have hcm2 : c <= 9223372036854775807:=by simpa [maxLen] using hcm
  have hfn : fewN (.mk k t v kids) left deep = if deep < 0 then -1 else fewL kids (left - 1) (deep - 1):=rfl
  by_cases hd : deep < 0
  ·rw [if_pos hd] at hfn
   have HF:=Lib.hid hfn
   clear hkids ih hA hfn
   go_enter Tryz.func23,Tryz.ntmps23
   go_wp2
   go_ret
   exact ⟨by rw [HF.out]; rfl,(Below.refl _ _).alloc (Nat.le_refl _) _⟩
  ·rw [if_neg hd] at hfn
   have HF:=Lib.hid hfn
   have hle:=fun (j : Nat) => fewL_le (kids.take j) (left - 1) (deep - 1) (by omega)
   have hat:=fun (j : Nat) (hj : j < kids.length) h => fewL_at hj (left - 1) (deep - 1) h
   have hst:=fun (j : Nat) h => fewL_stop (kids:=kids) (j:=j) (left - 1) (deep - 1) h
   have hg0 : fewL (kids.take 0) (left - 1) (deep - 1) = left - 1:=rfl
   have hge : fewL (kids.take kids.length) (left - 1) (deep - 1) = fewL kids (left - 1) (deep - 1):=by rw [List.take_length]
   obtain ⟨G,hG⟩ : ∃ G : Nat -> Int,∀ j,fewL (kids.take j) (left - 1) (deep - 1) = G j:=⟨_,fun _ => rfl⟩
   simp only [hG] at hle hat hst hg0 hge
   have HB:=Lib.hid (show Below w.heap.size w (w.alloc (.cells #[.int .i64 k,.string t,.string v,.slice A kids.length c] 24)) from (Below.refl _ _).alloc (Nat.le_refl _) _)
   have hX:=Blk.new w 24 #[.int .i64 k,.string t,.string v,.slice A kids.length c]
   clear hfn hA hG
   go_enter Tryz.func23,Tryz.ntmps23
   go_wp2
   go_loopw [1,7] (fun l i wr => ∃ (j : Nat),j <= kids.length /\ i = .int .i64 (j : Int) /\ l = .int .i64 (G j) /\ Hid (Below w.heap.size w wr) /\ Blk wr w.heap.size 24 #[.int .i64 k,.string t,.string v,.slice A kids.length c]) (fun _ i _ => kids.length - (intOf i).toNat)
   case atStart => exact ⟨0,Nat.zero_le _,rfl,by rw [hg0],HB,hX⟩
   case round =>
    obtain ⟨j,hj,rfl,rfl,HW,hb⟩:=hrel
    have g3 : wr.cell? ⟨w.heap.size,3,none⟩ = some (.slice A kids.length c):=hb.cell 3
    have hlj:=hle j
    by_cases hlt : j < kids.length
    case neg =>
     have hje : j = kids.length:=by omega
     subst hje
     have HE:=Lib.hid hge
     have hc0 : decide ((kids.length : Int) < kids.length) = false:=decide_eq_false (by omega)
     clear hge hat hst hle ih hkids hlj hX hg0
     go_wp2
     go_ret
     exact ⟨by rw [HF.out,<- HE.out]; rfl,HW.out⟩
    case pos =>
     by_cases hn : G j < 0
     case pos =>
      have HS:=Lib.hid (hst j hn)
      clear hge hat hst hle ih hkids hlj hX hg0
      go_wp2
      go_ret
      exact ⟨by rw [HF.out,HS.out]; rfl,HW.out⟩
     case neg =>
      obtain ⟨b,o,rfl,_,hkid⟩:=hkids (by omega)
      obtain ⟨B,cB,q0,q1,q2,q3,hnk⟩:=kid_cells (hkid j hlt) HW.out
      have HA:=Lib.hid (hat j hlt (by omega))
      have hih:=ih _ (List.getElem_mem hlt) (G j) (deep - 1) S B cB wr (by omega) (by omega) (by omega) (by omega) hnk
      have HE:=Lib.hid hge
      have hge0 : 0 <= G j:=by omega
      have hgt : ¬ G j < 0:=hn
      clear hge hat hst hle ih hkids hlj hX hkid hnk hg0 hn
      generalize kids[j] = kd at *
      rw [<- HA.out] at hih
      go_wp2_with (first
       | (go_at_call 23; refine hih.mono ?_; clear hih; rintro e w5 ⟨rfl,hb5⟩))
      go_roundw
      case rel => exact ⟨j + 1,hlt,by go_num,rfl,Lib.hid (HW.out.trans (hb5.mono HW.out.size)),hb.below hb5 hb.lt⟩
      case measure => first | (simp [intOf]; done) | (simp [intOf]; omega)
theorem sizeL_mem {l : List Nd} {n : Nd} (h : n ∈ l) : sizeN n <= sizeL l:=by
 induction l with
 | nil => cases h
 | cons m r ih =>
  simp only [sizeL]
  rcases List.mem_cons.1 h with rfl | h
  ·omega
  ·have:=ih h; omega
theorem okT_of (n : Nd) : ∀ R,okW R n -> R <= 140737488355328 -> sizeN n <= 1000000000000 -> okT n:=by
 induction n using Nd.ind with
 | h k t v kids ih =>
  intro R h hR hs
  simp only [okW] at h
  obtain ⟨⟨h1,h2,h3,h4⟩,h5⟩:=h
  simp only [sizeN] at hs
  have hl:=sizeL_len kids
  refine ⟨⟨h1,h2,Nat.le_trans h3 hR,Nat.le_trans h4 hR⟩,by omega,okTL_mem.2 fun m hm => ih m hm R (okWL_mem.1 h5 m hm) hR ?_⟩
  have:=sizeL_mem hm
  omega
theorem sizeOf_ (a : List UInt8) : (⟨a.toArray⟩ : ByteArray).size = a.length:=by simp [ByteArray.size]
end Go.Proofs.YtbnppjmmlfncmaaGreatDoor

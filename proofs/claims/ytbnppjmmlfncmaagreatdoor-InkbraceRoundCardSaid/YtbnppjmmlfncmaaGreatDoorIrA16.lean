/-
  tree: May.
  A region that draws its order: an operation that is taken first, where the operations that S is not asked behind wait for it, by way of others.
  carry: form and Row; the reference's Row.
  inkbrace: what its builder tells, a quoted text, what stands between brackets.
-/
import Derived.Test.YtbnppjmmlfncmaaGreatDoorIrA01
import Derived.Test.YtbnppjmmlfncmaaGreatDoorIrA13
import Derived.Test.YtbnppjmmlfncmaaGreatDoorIrA15
import Derived.Test.YtbnppjmmlfncmaaGreatDoorIrA09
import Derived.Test.YtbnppjmmlfncmaaGreatDoorIrA10
import Derived.Test.YtbnppjmmlfncmaaGreatDoorIrA07
set_option maxRecDepth 100000
set_option linter.unusedSectionVars false
set_option linter.unusedSimpArgs false
set_option linter.unusedVariables false
namespace Go.Proofs.YtbnppjmmlfncmaaGreatDoor
open Go.RowKit Go.Maps Go.Shelf
attribute [local go_sem] Oper.semAt_some
mutual
theorem vis_ok : ∀ n : Nd,okT n -> ∀ x ∈ visN n,x.t.size <= 140737488355328 /\ x.v.size <= 140737488355328
 | .mk k t v kids,h,x,hx => by
  simp only [visN] at hx
  split at hx
  ·rcases List.mem_cons.1 hx with rfl | hx
   ·exact ⟨h.1.2.2.1,h.1.2.2.2⟩
   ·rcases List.mem_append.1 hx with hx | hx
    ·exact visL_ok kids h.2.2 x hx
    ·simp only [endL] at hx
     split at hx
     ·simp at hx; subst hx; exact ⟨Nat.zero_le _,Nat.zero_le _⟩
     ·cases hx
  ·simp at hx; subst hx; exact ⟨Nat.zero_le _,Nat.zero_le _⟩
theorem visL_ok : ∀ l : List Nd,okTL l -> ∀ x ∈ visL l,x.t.size <= 140737488355328 /\ x.v.size <= 140737488355328
 | [],_,x,hx => by cases hx
 | n :: r,h,x,hx => by
  simp only [visL] at hx
  rcases List.mem_append.1 hx with hx | hx
  ·exact vis_ok n h.1 x hx
  ·exact visL_ok r h.2 x hx
end
theorem first_at : ∀ (l : List Ev) (st : List Pt) (k : Nat) (h : k < l.length),allOk st (l.take k) -> stepE (runS st (l.take k)) l[k] ≠ 0 -> firstE st l = stepE (runS st (l.take k)) l[k]
 | x :: l,st,0,_,_,hn => by
  have hn2 : stepE st x ≠ 0:=hn
  simp only [firstE]
  rw [if_neg hn2]; rfl
 | x :: l,st,k + 1,h,ha,hn => by
  simp only [List.take_succ_cons,allOk] at ha
  simp only [firstE,if_pos ha.1]
  exact first_at l (stepS st x) k (by simpa using h) ha.2 hn
theorem cObj_needs {b0 B : Nat} (k : Nat) (o : Obj) (h : Needs cWalk b0 B k o) : k < b0 \/ ¬ cObj o:=by
 rcases h with h | h | ⟨_,h⟩
 ·exact .inl h
 ·refine .inr fun hc => ?_
  cases o <;> simp only [cWalk,cObj] at h hc
  rcases h with h | h | h <;> rcases hc with hc | hc <;> exact absurd (h.symm.trans hc) (by decide)
 ·refine .inr fun hc => ?_
  cases o <;> simp [isBk,cObj] at h hc
theorem below_putk {B : Nat} {w W : World} (h : Below B w W) {l : Nat} (hB : B <= l) (o' : Obj) : Below B w (W.putObj l o') :=
 ⟨h.os,h.tape,h.output,Nat.le_trans h.size (grownBy_putObj' W l o').size,fun k hk => (World.putObj_heap_other (by omega)).trans (h.block k hk)⟩
set_option maxHeartbeats 4000000 in
theorem tmay_any (n : Nd) (A : Option Addr) (c : Nat) (w : World) (k : Int) (t v : ByteArray) (len : Nat) (hn : n.k = k /\ n.t = t /\ n.v = v /\ n.kids.length = len) (ho : okT n) (hA : NAt (fun b _ => b < w.heap.size) w n A c) (hw : Nm.StdW w) :
 Calls Tryz.prog 26 #[.agg #[.int .i64 k,.string t,.string v,.slice A len c]] w fun e w' => e = .returned (.int .i64 (mayN n)) /\ Below w.heap.size w w':=by
 refine (callsIn_wide (n:=6)).1 ?_
 refine callsIn_of_wp_marks Tryz.func26 rfl trivial ?_ rfl
 simp only [Tryz.ntmps26,List.size_toArray,List.length_cons,List.length_nil,Nat.reduceAdd,Nat.reduceSub,Array.replicate_succ,Array.replicate_zero,List.push_toArray,List.append_toArray,List.nil_append,List.cons_append]
 have hW0 : Below w.heap.size w ((w.alloc (.cells #[.int .i64 k,.string t,.string v,.slice A len c] 24)).alloc (.cells #[.int .i64 0] 28)):=((Below.refl _ w).alloc (Nat.le_refl _) _).alloc (by simp) _
 have hx0 : Blk ((w.alloc (.cells #[.int .i64 k,.string t,.string v,.slice A len c] 24)).alloc (.cells #[.int .i64 0] 28)) w.heap.size 24 #[.int .i64 k,.string t,.string v,.slice A len c]:=(Blk.new w _ _).alloc _
 have hr0 : Blk ((w.alloc (.cells #[.int .i64 k,.string t,.string v,.slice A len c] 24)).alloc (.cells #[.int .i64 0] 28)) (w.heap.size + 1) 28 #[.int .i64 0]:=by
  have:=Blk.new (w.alloc (.cells #[.int .i64 k,.string t,.string v,.slice A len c] 24)) 28 #[.int .i64 0]
  rw [World.size_alloc] at this
  exact this
 gi_wp2_with (first
  | (refine ⟨trivial,?_⟩; gi_at_call 43; refine (callsIn_wide.2 (cnew_any _ w.heap.size (by simp; omega) (Nat.zero_le _))).mono ?_; rintro e w1 ⟨g,rfl,hg,hC1,hb1⟩; have hx1:=(hx0.below hb1 hx0.lt).alloc (.cells #[.pointer (some ⟨g,0,none⟩)] 82); have g0 : (w1.alloc (.cells #[.pointer (some ⟨g,0,none⟩)] 82)).cell? ⟨w.heap.size,0,none⟩ = some (.int .i64 k):=hx1.cell 0; have g1 : (w1.alloc (.cells #[.pointer (some ⟨g,0,none⟩)] 82)).cell? ⟨w.heap.size,1,none⟩ = some (.string t):=hx1.cell 1; have g2 : (w1.alloc (.cells #[.pointer (some ⟨g,0,none⟩)] 82)).cell? ⟨w.heap.size,2,none⟩ = some (.string v):=hx1.cell 2; have g3 : (w1.alloc (.cells #[.pointer (some ⟨g,0,none⟩)] 82)).cell? ⟨w.heap.size,3,none⟩ = some (.slice A len c):=hx1.cell 3)
  | (refine ⟨trivial,?_⟩; gi_at_call 44; refine (callsIn_wide.2 (twalk_any k t v A len c _)).mono ?_; rintro e w2 ⟨rfl,rfl⟩))
 obtain ⟨W2,hW2⟩ : ∃ W2,(w.alloc (.cells #[.int .i64 k,.string t,.string v,.slice A len c] 24)).alloc (.cells #[.int .i64 0] 28) = W2:=⟨_,rfl⟩
 rw [hW2] at hW0 hx0 hr0 hg hb1
 have hs2 : W2.heap.size = w.heap.size + 2:=by rw [<- hW2]; simp
 obtain ⟨W3,hW3⟩ : ∃ W3,(w1.alloc (.cells #[.pointer (some ⟨g,0,none⟩)] 82)).alloc (.cells #[.int .i64 k,.string t,.string v,.slice A len c] 24) = W3:=⟨_,rfl⟩
 rw [hW3]
 have hbel1 : Below w.heap.size w w1:=hW0.trans (hb1.mono (by omega))
 have hl13 : Below w1.heap.size w1 W3:=by rw [<- hW3]; exact ((Below.refl _ w1).alloc (Nat.le_refl _) _).alloc (by simp) _
 have hbel : Below w.heap.size w W3:=hbel1.trans (hl13.mono hbel1.size)
 have hsz : W3.heap.size = w1.heap.size + 2:=by rw [<- hW3]; simp
 have hsz1 : w.heap.size + 2 <= w1.heap.size:=by have:=hb1.size; omega
 have hbx : NBox W3 (w1.heap.size + 1) n A c:=by
  unfold NBox
  rw [hn.1,hn.2.1,hn.2.2.1,hn.2.2.2,<- hW3]
  have:=Blk.new (w1.alloc (.cells #[.pointer (some ⟨g,0,none⟩)] 82)) 24 #[.int .i64 k,.string t,.string v,.slice A len c]
  rw [World.size_alloc] at this
  exact this
 have hpc : Blk W3 w1.heap.size 82 #[.pointer (some ⟨g,0,none⟩)]:=by
  rw [<- hW3]
  exact (Blk.new w1 _ _).alloc _
 have hrc : Blk W3 (w.heap.size + 1) 28 #[.int .i64 0]:=(hr0.below hb1 hr0.lt).below hl13 (by omega)
 have hC3 : CAt W3 w.heap.size g [topP]:=hC1.below hl13
 have hA3 : NAt (fun b _ => b < w.heap.size) W3 n A c:=hA.below hbel
 have hgl : g < w1.heap.size:=hC1.lt
 have hvis:=vis_ok n ho
 clear g0 g1 g2 g3 hx1 hx0 hr0 hW2 hW3 hn hb1 hC1 hA ho
 have kc : ∀ {X Y : World},Tch w.heap.size cObj X Y -> Kept (Needs cWalk w.heap.size W3.heap.size) X Y:=fun h => Kept.of_tch h cObj_needs
 refine range_rounds (C:=cWalk) (T:=tWalk) tWalk_bk cWalk_bk rfl rfl (f:=74) (fa:=#[]) (lb:=#[.pointer (some ⟨w1.heap.size + 1,0,none⟩)]) rfl trivial (enters_of Tryz.func74 (by kernel_rfl) rfl)
  (x:=visA n) (N:=(visN n).length) (fun _ => rfl) (b0:=w.heap.size) (by omega) (Needs cWalk w.heap.size W3.heap.size) (fun _ _ h => h)
  (fun o => walk1_any n _ _ w.heap.size A c _ (by simp; omega) (by omega) ((Blk.alloc (Blk.alloc hbx _) _)) ((hA3.below ((Below.refl _ _).alloc (Nat.le_refl _) _)).below ((Below.refl _ _).alloc (Nat.le_refl _) _)))
  (fun j W' => CAt W' w.heap.size g (runS [topP] ((visN n).take j)) /\ allOk [topP] ((visN n).take j) /\ Blk W' (w.heap.size + 1) 28 #[.int .i64 0] /\ Blk W' w1.heap.size 82 #[.pointer (some ⟨g,0,none⟩)] /\ Below w.heap.size w W')
  (fun W' => Blk W' (w.heap.size + 1) 28 #[.int .i64 (mayN n)] /\ Below w.heap.size w W')
  (fun j A' A'' hi ht => ⟨hi.1.tch (p:=tWalk) (ht.lower (by omega)) (fun cs t fr h hc => by simp only [tWalk] at hc; rcases h with rfl | rfl <;> exact absurd hc (by decide)) (fun _ _ hc => hc),hi.2.1,hi.2.2.1.tch ht (.inl (by omega)),hi.2.2.2.1.tch ht (.inl (by omega)),hi.2.2.2.2.trans ((ht.lower (by omega)).below hi.2.2.2.2.size)⟩)
  (fun A' A'' hi ht => ⟨hi.1.tch ht (.inl (by omega)),hi.2.trans ((ht.lower (by omega)).below hi.2.size)⟩)
  ⟨hC3,trivial,hrc,hpc,hbel⟩
  (fun j a' W' => ∃ eb,Blk W' eb 67 #[.int .i64 ((visN n).getD j noneE).k,.string ((visN n).getD j noneE).t,.string ((visN n).getD j noneE).v] /\ a' = { tmps:=#[.agg #[.int .i64 k,.string t,.string v,.slice A len c],.pointer (some ⟨w.heap.size,0,none⟩),.pointer (some ⟨w.heap.size + 1,0,none⟩),.pointer (some ⟨w1.heap.size,0,none⟩),.pointer (some ⟨eb,0,none⟩),undef,.pointer (some ⟨g,0,none⟩),.agg #[.int .i64 k,.string t,.string v,.slice A len c],.func (.func 74) #[] #[.pointer (some ⟨w1.heap.size + 1,0,none⟩)],evV ((visN n).getD j noneE),undef,undef,undef,undef,undef,undef],defers:=[] })
  (fun j a' A' A'' h ht => by obtain ⟨eb,h1,h2⟩:=h; exact ⟨eb,h1.tch ht (.inr (by simp [tWalk])),h2⟩)
  ?assign ?body ?done ?stop
 case assign =>
  intro l' j W' Kc hj hi hKc
  unfold visA evV at *
  generalize (visN n).getD j noneE = x at *
  gi_wp2
  obtain ⟨i1,i2,i3,i4,i5⟩:=hi
  have hal : Below W'.heap.size W' (W'.alloc (.cells #[.int .i64 x.k,.string x.t,.string x.v] 67)):=(Below.refl _ _).alloc (Nat.le_refl _) _
  exact hKc _ _ (Kept.alloc1 _ _ _) ⟨i1.below hal,i2,i3.alloc _,i4.alloc _,i5.trans (hal.mono i5.size)⟩ ⟨_,Blk.new _ _ _,rfl⟩
 case body =>
  rintro l' j a' W' hj ⟨i1,i2,i3,i4,i5⟩ ⟨eb,hE,rfl⟩
  have hgx : (visN n).getD j noneE = (visN n)[j]:=by rw [List.getD_eq_getElem?_getD,List.getElem?_eq_getElem hj]; rfl
  have htk : (visN n).take (j + 1) = (visN n).take j ++ [(visN n)[j]]:=List.take_succ_eq_append_getElem hj
  have hfa:=first_at (visN n) [topP] j hj i2
  rw [hgx] at hE ⊢
  have hok:=(hvis _ (List.getElem_mem hj)).1
  have hG:=good_run good_start ((visN n).take j)
  have hST:=estep_any W' w.heap.size g (runS [topP] ((visN n).take j)) (visN n)[j] i1 hG (NumW.of (hw.below (i5))) hok
  have hnx1 : runS [topP] ((visN n).take (j + 1)) = stepS (runS [topP] ((visN n).take j)) (visN n)[j]:=by rw [htk,runS_snoc]
  have hnx2:=fun (h : stepE (runS [topP] ((visN n).take j)) (visN n)[j] = 0) => (allOk_snoc [topP] ((visN n).take j) (visN n)[j]).2 ⟨i2,h⟩
  rw [<- htk] at hnx2
  have e3 : W'.cell? ⟨w1.heap.size,0,none⟩ = some (.pointer (some ⟨g,0,none⟩)):=i4.cell 0
  clear hgx htk hok
  unfold evV at hST ⊢
  unfold SPost at hST
  generalize (visN n)[j] = x at *
  have e0 : W'.cell? ⟨eb,0,none⟩ = some (.int .i64 x.k):=hE.cell 0
  have e1 : W'.cell? ⟨eb,1,none⟩ = some (.string x.t):=hE.cell 1
  have e2 : W'.cell? ⟨eb,2,none⟩ = some (.string x.v):=hE.cell 2
  generalize runS [topP] ((visN n).take j) = st at *
  by_cases hz : stepE st x = 0
  ·rw [hz] at hST
   have HN2:=Lib.hid (hnx2 hz)
   have HN1:=Lib.hid hnx1
   clear hz hnx2 hfa hnx1
   gi_wp2_with (first
    | (refine ⟨trivial,?_⟩; gi_at_call 45; refine (CallsIn.inRound l' (callsIn_wide.2 hST)).mono ?_; clear hST; rintro e w4 ⟨rfl,hC4,hT4⟩))
   refine ⟨kc hT4,.inl ⟨rfl,by rw [HN1.out]; exact hC4,HN2.out,i3.tch hT4 (.inr (by simp only [cObj]; decide)),i4.tch hT4 (.inr (by simp only [cObj]; decide)),i5.trans (hT4.below i5.size)⟩⟩
  ·have HF:=Lib.hid (hfa hz)
   have z1:=ibeq hz
   have z2:=ibne hz
   generalize stepE st x = E at *
   have f3 : W'.frozen? ⟨w.heap.size + 1,0,none⟩ = false:=i3.frozen 0
   have g3 : W'.cell? ⟨w.heap.size + 1,0,none⟩ = some (.int .i64 0):=i3.cell 0
   have l3:=i3.lt
   clear hz hnx2 hfa hnx1
   gi_wp2_with (first
    | (refine ⟨trivial,?_⟩; gi_at_call 45; refine (CallsIn.inRound l' (callsIn_wide.2 hST)).mono ?_; clear hST; rintro e w4 ⟨rfl,hC4,hT4⟩; have i6:=i3.tch hT4 (.inr (by simp only [cObj]; decide)); have f4 : w4.frozen? ⟨w.heap.size + 1,0,none⟩ = false:=i6.frozen 0; have g4 : w4.cell? ⟨w.heap.size + 1,0,none⟩ = some (.int .i64 0):=i6.cell 0; have l4:=i6.lt))
   have b4:=i5.trans (hT4.below i5.size)
   refine ⟨?_,.inr ⟨rfl,by unfold mayN; rw [HF.out]; exact i6.set_ 0 (.int .i64 E),b4.setCell (p:=⟨w.heap.size + 1,0,none⟩) (by simp) _⟩⟩
   refine Kept.of_tch (B:=w.heap.size) (T:=fun o => cObj o \/ ∃ cs fr,o = .cells cs 28 fr) ?_ ?_
   ·exact (show Tch w.heap.size (fun o => cObj o \/ ∃ cs fr,o = .cells cs 28 fr) W' w4 from ⟨hT4.os,hT4.tape,hT4.output,hT4.size,fun k o ho hc => hT4.block k o ho (hc.imp_right fun h => h.imp_left fun h h' => h (.inl h'))⟩).set i6 (by omega) (fun h => h) (.inr ⟨_,_,rfl⟩) 0 _
   ·intro k o h
    rcases cObj_needs k o h with h1 | h1
    ·exact .inl h1
    ·rcases h with h | h | ⟨_,h⟩
     ·exact .inl h
     ·refine .inr ?_
      rintro (h2 | ⟨cs,fr,rfl⟩)
      ·exact h1 h2
      ·simp only [cWalk] at h; exact absurd h (by decide)
     ·refine .inr ?_
      rintro (h2 | ⟨cs,fr,rfl⟩)
      ·exact h1 h2
      ·cases h
 case done =>
  rintro D W' hD hk ⟨i1,i2,i3,i4,i5⟩ hK'
  rw [List.take_length] at i2
  have hz : mayN n = 0:=(firstE_ok _ _).2 i2
  have f3 : W'.frozen? ⟨w.heap.size + 1,0,none⟩ = false:=i3.frozen 0
  have g3 : W'.cell? ⟨w.heap.size + 1,0,none⟩ = some (.int .i64 0):=i3.cell 0
  have l3:=i3.lt
  gi_wp2
  have hD1 : (W'.setCell ⟨w.heap.size + 1,0,none⟩ (.int .i64 0)).heap[D]? = some (.deferred (some [])):=(Below.heap_setCell W' ⟨w.heap.size + 1,0,none⟩ _ D (by show D ≠ w.heap.size + 1; omega)).trans hK'
  refine ⟨by simp,.inl ⟨_,_,rfl,run_takeDeferred hD1,?_⟩⟩
  have g5 : Blk ((W'.setCell ⟨w.heap.size + 1,0,none⟩ (.int .i64 0)).putObj D (.deferred none)) (w.heap.size + 1) 28 #[.int .i64 0]:=(World.putObj_heap_other (show w.heap.size + 1 ≠ D by omega)).trans (i3.set_ 0 (.int .i64 0))
  have g6 : _ = some (Value.int .i64 0):=g5.cell 0
  refine ⟨.int .i64 0,?_,by rw [hz],below_putk (i5.setCell (p:=⟨w.heap.size + 1,0,none⟩) (by simp) _) (by omega) _⟩
  simp [results,Tryz.f26,go_sem,g6]
 case stop =>
  rintro D W' hD hk ⟨i3,i5⟩ hK'
  gi_wp2
  refine ⟨by simp,.inl ⟨_,_,rfl,run_takeDeferred hK',?_⟩⟩
  have g5 : Blk (W'.putObj D (.deferred none)) (w.heap.size + 1) 28 #[.int .i64 (mayN n)]:=(World.putObj_heap_other (show w.heap.size + 1 ≠ D by omega)).trans i3
  have g6 : _ = some (Value.int .i64 (mayN n)):=g5.cell 0
  refine ⟨.int .i64 (mayN n),?_,rfl,below_putk i5 (by omega) _⟩
  simp [results,Tryz.f26,go_sem,g6]
open Go Go.RowKit
variable [Fo]
section
variable {P : Program} {ops : Array Oper} {Q : Exit -> Act -> World -> Prop} {md : Region.Mode} {S : World -> Prop} {Es : List Nat}
def waitsT (md : Region.Mode) (ops : Array Oper) (i : Nat) : Nat -> Nat -> Bool
 | 0,_ => false
 | n + 1,E => match ops[E]? with | some o => o.after.any fun e => Region.binds md e && (decide (e.on = i) || waitsT md ops i n e.on) | none => false
def Closed (md : Region.Mode) (ops : Array Oper) (listed : Array Bool) : Prop:=∀ (k : Nat) (o : Oper),ops[k]? = some o -> listed.getD k false = true -> ∀ e ∈ o.after,Region.binds md e = true -> listed.getD e.on false = true
def closedB (md : Region.Mode) (ops : Array Oper) (listed : Array Bool) : Bool:=(List.range ops.size).all fun k => !listed.getD k false || (match ops[k]? with | some o => o.after.all fun e => !Region.binds md e || listed.getD e.on false | none => true)
theorem closed_of {listed : Array Bool} (h : closedB md ops listed = true) : Closed md ops listed:=by
 intro k o ho hl e he hb
 have hk : k < ops.size:=(Array.getElem?_eq_some_iff.1 ho).1
 have h1:=List.all_eq_true.1 h k (List.mem_range.2 hk)
 rw [hl,ho] at h1
 simp only [Bool.not_true,Bool.false_or] at h1
 have h2:=Array.all_eq_true'.1 h1 e he
 rw [hb] at h2
 simpa using h2
theorem waits_listed {i : Nat} {listed : Array Bool} (hc : Closed md ops listed) : ∀ (n E : Nat) (o : Oper),ops[E]? = some o -> (∀ e ∈ o.after,Region.binds md e = true -> listed.getD e.on false = true) -> waitsT md ops i n E = true -> listed.getD i false = true
 | 0,_,_,_,_,h => by cases h
 | n + 1,E,o,ho,hall,h => by
  unfold waitsT at h
  rw [ho] at h
  simp only [Array.any_eq_true,Bool.and_eq_true,Bool.or_eq_true,decide_eq_true_iff] at h
  obtain ⟨q,hq,hb,h⟩:=h
  have hl:=hall _ (Array.getElem_mem hq) hb
  rcases h with h | h
  ·rw [<- h]; exact hl
  ·cases ho2 : ops[o.after[q].on]? with
   | none =>
    cases n with
    | zero => cases h
    | succ n => unfold waitsT at h; rw [ho2] at h; cases h
   | some o2 => exact waits_listed hc n _ o2 ho2 (hc _ _ ho2 hl) h
theorem unlisted {listed : Array Bool} {i : Nat} (h : listed.getD i true = false) : ¬ listed.getD i false = true:=by
 intro h2
 rcases Nat.lt_or_ge i listed.size with h' | h'
 ·simp [h'] at h h2; rw [h] at h2; cases h2
 ·simp [Array.getElem?_eq_none h'] at h
theorem closed_set {listed : Array Bool} {j : Nat} (hc : Closed md ops listed) (hj : j ∈ Region.ready md ops listed) : Closed md ops (listed.setIfInBounds j true):=by
 intro k o ho hl e he hb
 by_cases hjk : j = k
 ·subst hjk
  obtain ⟨_,o',ho',hall⟩:=mem_ready.1 hj
  rw [ho] at ho'
  injection ho' with ho'
  subst ho'
  exact getD_set_true (hall e he hb)
 ·rw [getD_set_ne false hjk] at hl
  exact getD_set_true (hc k o ho hl e he hb)
theorem g_firstT {i : Nat} {oi : Oper} {v : Value} (nW : Nat) (hi : ops[i]? = some oi) (hsel : ∀ (j : Nat) (o : Oper) cs b,ops[j]? = some o -> o.op ≠ .select cs b) (hE : (Es.all fun E => waitsT md ops i nW E) = true)
 (hQ : ∀ c a w,Q (.panic c) (a.put oi.dst v) w -> Q (.panic c) a w) :
 ∀ (fuel : Nat) (listed : Array Bool) (a : Act) (w : World),
  (∀ j oj,ops[j]? = some oj -> j ≠ i -> listed.getD j true = false -> (∀ e ∈ oj.after,Region.binds md e = true -> e.on ≠ i) -> oi.apart ops oj = true) ->
  i ∈ Region.ready md ops listed -> Closed md ops listed -> YieldsIf P ops S oi v a -> S w ->
  wpAnyG P md ops Q Es S fuel (listed.setIfInBounds i true) (a.put oi.dst v) w -> wpAnyG P md ops Q Es S (fuel + 1) listed a w:=by
 intro fuel
 induction fuel with
 | zero =>
  intro listed a w _ hr _ hy hS H
  refine ⟨fun h => (by rw [h] at hr; cases hr),fun j hj => ?_⟩
  by_cases hji : j = i
  ·subst hji; exact hy.wpOp hi hS ⟨fun _ => hS,H⟩
  ·have:=ready_mono hj hji
   rw [H.1] at this
   cases this
 | succ fuel ih =>
  intro listed a w hfree hr hcl hy hS H
  refine ⟨fun h => (by rw [h] at hr; cases hr),fun j hj => ?_⟩
  by_cases hji : j = i
  ·subst hji; exact hy.wpOp hi hS ⟨fun _ => hS,H⟩
  ·have h1:=H.2 j (ready_mono hj hji)
   obtain ⟨hjun,oj,hoj,hall⟩:=mem_ready.1 hj
   have hiun:=unlisted (mem_ready.1 hr).1
   have hnot : ∀ e ∈ oj.after,Region.binds md e = true -> e.on ≠ i:=fun e he hb heq => hiun (heq ▸ hall e he hb)
   have hjE : j ∉ Es:=by
    intro hm
    exact hiun (waits_listed hcl nW j oj hoj hall (List.all_eq_true.1 hE j hm))
   have h2:=wpOp_putIf hoj (hfree j oj hoj hji hjun hnot) (fun cs b => hsel i oi cs b hi) (fun cs b => hsel j oj cs b hoj) hQ hy h1
   have hfree' : ∀ k ok,ops[k]? = some ok -> k ≠ i -> (listed.setIfInBounds j true).getD k true = false ->
    (∀ e ∈ ok.after,Region.binds md e = true -> e.on ≠ i) -> oi.apart ops ok = true:=fun k ok hk hki hun hno => by
    refine hfree k ok hk hki ?_ hno
    by_cases hjk : j = k
    ·subst hjk; exact hjun
    ·rw [getD_set_ne true hjk] at hun; exact hun
   refine wpOp_mono (fun a' w' h3 => ⟨fun _ => h3.2.1 hjE,ih (listed.setIfInBounds j true) a' w' hfree' (ready_mono hr (Ne.symm hji)) (closed_set hcl hj) h3.1 (h3.2.1 hjE) ?_⟩) h2
   rw [Array.setIfInBounds_comm _ _ hji]
   exact h3.2.2
theorem g_takeT {i : Nat} {oi : Oper} {v : Value} {fuel : Nat} {listed : Array Bool} {a : Act} {w : World} (nW : Nat) (hi : ops[i]? = some oi)
 (hs : Region.noSelect ops = true) (hE : (Es.all fun E => waitsT md ops i nW E) = true) (hf : Region.free md ops listed i = true) (hr : (Region.ready md ops listed).contains i = true) (hc : closedB md ops listed = true)
 (hQ : ∀ c a w,Q (.panic c) (a.put oi.dst v) w -> Q (.panic c) a w) (hy : YieldsIf P ops S oi v a) (hS : S w)
 (h : wpAnyG P md ops Q Es S fuel (listed.setIfInBounds i true) (a.put oi.dst v) w) : wpAnyG P md ops Q Es S (fuel + 1) listed a w :=
 g_firstT nW hi (Region.noSelect_spec hs) hE hQ fuel listed a w (Region.free_spec hi hf) (by simpa using hr) (closed_of hc) hy hS h
end
end Go.Proofs.YtbnppjmmlfncmaaGreatDoor
namespace Go.Proofs.YtbnppjmmlfncmaaGreatDoor
open Go.RowKit Go.Maps
theorem rowN_1 (t v : ByteArray) (l : List Nd) : rowN (.mk 1 t v l) = [110,117,108,108]:=by simp only [rowN]; rw [if_pos trivial]
theorem rowN_4 (t v : ByteArray) (l : List Nd) : rowN (.mk 4 t v l) = Qt.prText t.data.toList:=by simp only [rowN]; rw [if_neg (by decide),if_pos trivial]
theorem rowN_5 (t v : ByteArray) (l : List Nd) : rowN (.mk 5 t v l) = 91 :: (seqN true l ++ [93]):=by simp only [rowN]; rw [if_neg (by decide),if_neg (by decide),if_pos trivial]
theorem rowN_7 (t v : ByteArray) (l : List Nd) : rowN (.mk 7 t v l) = 123 :: (seqN true l ++ [125]):=by simp only [rowN]; rw [if_neg (by decide),if_neg (by decide),if_neg (by decide),if_pos trivial]
theorem rowN_8 (t v : ByteArray) (l : List Nd) : rowN (.mk 8 t v l) = wordL t.data.toList ++ ([32,61,32] ++ seqN true l):=by simp only [rowN]; rw [if_neg (by decide),if_neg (by decide),if_neg (by decide),if_neg (by decide),if_pos trivial]
theorem rowN_e {k : Int} (t v : ByteArray) (l : List Nd) (h1 : k ≠ 1) (h4 : k ≠ 4) (h5 : k ≠ 5) (h7 : k ≠ 7) (h8 : k ≠ 8) : rowN (.mk k t v l) = t.data.toList:=by simp only [rowN]; rw [if_neg h1,if_neg h4,if_neg h5,if_neg h7,if_neg h8]
theorem seq_one (m : Nd) : seqN true [m] = rowN m:=by simp [seqN]
theorem shaped_key {t v : ByteArray} {l : List Nd} (h : shaped (.mk 8 t v l) = true) : ∃ m,l = [m] /\ shaped m = true:=by
 simp only [shaped,Bool.and_eq_true] at h
 have h1 : l.length = 1:=by simpa [okShape,opensK,leafK] using h.1
 obtain ⟨m,rfl⟩:=List.length_eq_one_iff.1 h1
 refine ⟨m,rfl,?_⟩
 simpa [shapedL] using h.2
set_option maxHeartbeats 8000000 in
theorem form_any (n : Nd) : FormAt n:=by
 induction n using Nd.ind with
 | h k t v l ih =>
  intro base v0 xs A c w hA hsm hsh ho hbase hsz
  simp only [Nd.k,Nd.t,Nd.v,Nd.kids]
  obtain ⟨hts,hvs,hls⟩:=hsm
  have alk:=al_nd w #[.int .i64 k,.string t,.string v,.slice A l.length c]
  have bX:=Blk.new w 24 #[.int .i64 k,.string t,.string v,.slice A l.length c]
  have hO1 : ORow _ base 5 v0 (xs.map bV):=ho.alloc (.cells #[.int .i64 k,.string t,.string v,.slice A l.length c] 24)
  have hwa:=Nat.le_trans hbase alk.size
  have hne : ∀ g,v0.ownBlock = some g -> g < w.heap.size:=fun g hg => (World.ownsRow.lt ho g hg).2
  have hsz2 : xs.length + (1 + sizeL l) * 1048900 <= 100000000000:=by simpa [sizeN] using hsz
  have hBa : Below base w (w.alloc (.cells #[.int .i64 k,.string t,.string v,.slice A l.length c] 24)):=alk.mono hbase
  unfold FormPost
  obtain ⟨L,hL⟩ : ∃ L,xs ++ rowN (.mk k t v l) = L:=⟨_,rfl⟩
  rw [hL]
  by_cases h1 : k = 1
  ·subst h1
   rw [rowN_1] at hL
   have HL:=Lib.hid hL
   clear hL
   clear ih hA
   go_enter Tryz.func38,Tryz.ntmps38
   go_wp2_with (first
    | (at_builtin; refine wp_appT rfl _ _ 39 9 rfl base 5 Tryz.underlying39 Tryz.underlying9 Tryz.info5 v0 xs rfl hO1 ⟨#[110,117,108,108]⟩ rfl (show xs.length + 4 <= _ by omega) hwa ?_; intro v2 w2 hown2 hg2 hb2))
   go_ret
   exact ⟨_,rfl,by rw [<- HL.out]; exact hown2,hBa.trans hb2⟩
  by_cases h4 : k = 4
  ·subst h4
   rw [rowN_4] at hL
   have HL:=Lib.hid hL
   clear hL
   have hpl:=prText_len t.data.toList
   have hP:=Qt.print_any t (w.alloc (.cells #[.int .i64 4,.string t,.string v,.slice A l.length c] 24)) (by omega)
   unfold Qt.PrintEnd at hP
   generalize Qt.prText t.data.toList = X at *
   generalize Qt.prErr t.data.toList = E at *
   clear ih hA bX hne
   go_enter Tryz.func38,Tryz.ntmps38
   go_wp2_with (first
    | (go_at_call 42; refine hP.mono ?_; rintro e w1 ⟨rfl,hb1⟩; have hO2:=hO1.below hb1 (fun g hg => (World.ownsRow.lt hO1 g hg).2); have hb1':=hBa.trans (hb1.mono hwa); have hw1:=Nat.le_trans hwa hb1.size)
    | (at_builtin; refine wp_appT rfl _ _ 39 9 rfl base 5 Tryz.underlying39 Tryz.underlying9 Tryz.info5 v0 xs rfl hO2 ⟨X.toArray⟩ rfl (show xs.length + X.toArray.size <= _ by simp only [List.size_toArray]; omega) hw1 ?_; intro v2 w2 hown2 hg2 hb2))
   go_ret
   exact ⟨_,rfl,by rw [<- HL.out]; exact hown2,hb1'.trans hb2⟩
  by_cases h5 : k = 5
  ·subst h5
   rw [rowN_5] at hL
   have HL:=Lib.hid hL
   clear hL
   simp only [shaped,Bool.and_eq_true] at hsh
   have hP:=parts_any l ih base v0 xs 91 93 5 t v A c _ (hA.low (fun q hq => hBa.block q hq)) hls hsh.2 hO1 hwa hsz2
   unfold FormPost at hP
   clear ih hA
   go_enter Tryz.func38,Tryz.ntmps38
   go_wp2_with (first
    | (go_at_call 66; refine hP.mono ?_; rintro e w1 ⟨v1,rfl,hO2,hb1⟩))
   go_ret
   exact ⟨_,rfl,by rw [<- HL.out]; exact hO2,hBa.trans hb1⟩
  by_cases h7 : k = 7
  ·subst h7
   rw [rowN_7] at hL
   have HL:=Lib.hid hL
   clear hL
   simp only [shaped,Bool.and_eq_true] at hsh
   have hP:=parts_any l ih base v0 xs 123 125 7 t v A c _ (hA.low (fun q hq => hBa.block q hq)) hls hsh.2 hO1 hwa hsz2
   unfold FormPost at hP
   clear ih hA
   go_enter Tryz.func38,Tryz.ntmps38
   go_wp2_with (first
    | (go_at_call 66; refine hP.mono ?_; rintro e w1 ⟨v1,rfl,hO2,hb1⟩))
   go_ret
   exact ⟨_,rfl,by rw [<- HL.out]; exact hO2,hBa.trans hb1⟩
  by_cases h8 : k = 8
  ·subst h8
   obtain ⟨m,rfl,hmsh⟩:=shaped_key hsh
   rw [rowN_8,seq_one] at hL
   have HL:=Lib.hid hL
   clear hL
   obtain ⟨hlc,hcm,hkids⟩:=(NAt.def_ _ _ _).1 hA
   simp only [Nd.kids,List.length_cons,List.length_nil] at hlc hkids
   obtain ⟨b,o,rfl,hbo,hkid⟩:=hkids (by omega)
   have hk1:=hkid 0 (by omega)
   simp only [Nat.zero_mul,Nat.add_zero,List.getElem_cons_zero] at hk1
   obtain ⟨B,cB,q0,q1,q2,q3,hn1⟩:=hk1
   have hwl:=wordL_len t.data.toList
   have htl : t.data.toList.length = t.size:=by simp
   have hW:=word1_any t (w.alloc (.cells #[.int .i64 8,.string t,.string v,.slice (some ⟨b,o,none⟩) 1 c] 24)) (by omega)
   have hih:=ih m (by simp)
   have hms:=hls.1
   have hsm1 : sizeN m <= sizeL [m]:=by simp [sizeL]
   have HL2 : Hid (∀ X,X = wordL t.data.toList -> xs ++ (X ++ ([32,61,32] ++ rowN m)) = L):=Lib.hid (by rintro X rfl; exact HL.out)
   clear HL
   obtain ⟨X,hX⟩ : ∃ X,wordL t.data.toList = X:=⟨_,rfl⟩
   have HL:=Lib.hid (HL2.out X hX.symm)
   rw [hX] at hW hwl
   clear hX HL2
   unfold FormAt FormPost at hih
   clear ih hkid hkids hA hls hsz
   simp only [List.length_cons,List.length_nil] at *
   go_enter Tryz.func38,Tryz.ntmps38
   go_wp2_with (first
    | (go_at_call 67; refine hW.mono ?_; rintro e w1 ⟨rfl,hb1⟩; have hO2:=hO1.below hb1 (fun g hg => (World.ownsRow.lt hO1 g hg).2); have hb1':=hBa.trans (hb1.mono hwa); have hw1:=Nat.le_trans hwa hb1.size; have bX1:=bX.below hb1 bX.lt; have hls1:=hb1.size; clear hb1)
    | (at_builtin; refine wp_appT rfl _ _ 39 9 rfl base 5 Tryz.underlying39 Tryz.underlying9 Tryz.info5 v0 xs rfl hO2 ⟨X.toArray⟩ rfl (show xs.length + X.toArray.size <= _ by simp only [List.size_toArray]; omega) hw1 ?_; intro v2 w2 hown2 hg2 hb2))
   have bX2:=bX1.grown hg2 (fun e => by have:=hne _ e.symm; omega)
   have hb12:=hb1'.trans hb2
   have hw2:=Nat.le_trans hw1 hb2.size
   have x3 : w2.cell? ⟨w.heap.size,3,none⟩ = some (.slice (some ⟨b,o,none⟩) 1 c):=bX2.cell 3
   have hne2 : v2.ownBlock ≠ some w.heap.size:=fun e => by
    obtain ⟨cur,hc⟩:=row_obj hown2 e
    have hbx:=bX2
    unfold Blk at hbx
    rw [hc] at hbx
    injection hbx with hbx
    injection hbx with _ hbx _
    exact absurd hbx (by decide)
   have low : ∀ W,Below base w W -> W.cell? ⟨b,o,none⟩ = some (.int .i64 m.k) /\ W.cell? ⟨b,o + 1,none⟩ = some (.string m.t) /\ W.cell? ⟨b,o + 2,none⟩ = some (.string m.v) /\ W.cell? ⟨b,o + 3,none⟩ = some (.slice B m.kids.length cB):=fun W h =>
    ⟨(h.cell (p:=⟨b,o,none⟩) hbo).trans q0,(h.cell (p:=⟨b,o + 1,none⟩) hbo).trans q1,(h.cell (p:=⟨b,o + 2,none⟩) hbo).trans q2,(h.cell (p:=⟨b,o + 3,none⟩) hbo).trans q3⟩
   have c1 : 1 <= c:=by omega
   clear hg2 hb2 hW hO2 hO1 alk bX bX1 hls1 q0 q1 q2 q3
   refine region_g [6,7] (S:=(fun W => W.cell? ⟨w.heap.size,3,none⟩ = some (.slice (some ⟨b,o,none⟩) 1 c) /\ W.cell? ⟨b,o,none⟩ = some (.int .i64 m.k) /\ W.cell? ⟨b,o + 1,none⟩ = some (.string m.t) /\ W.cell? ⟨b,o + 2,none⟩ = some (.string m.v) /\ W.cell? ⟨b,o + 3,none⟩ = some (.slice B m.kids.length cB))) (by kernel_rfl) ⟨x3,low _ (below_drew hb12)⟩ (fun hH => ?_)
   refine g_takeT 20 (i:=0) (v:=v2) (by rfl) (by kernel_rfl) (by kernel_rfl) (by kernel_rfl) (by kernel_rfl) (by kernel_rfl) (fun _ _ _ h => (by cases h.1)) (Or.inl ⟨by rfl,fun W hS => (by obtain ⟨s1,s2,s3,s4,s5⟩:=hS; go_simp)⟩) hH ?_
   simp only [Act.put,List.setIfInBounds_toArray,List.set_cons_zero,List.set_cons_succ]
   refine g_takeT 20 (i:=2) (v:=.pointer (some ⟨w.heap.size,3,none⟩)) (by rfl) (by kernel_rfl) (by kernel_rfl) (by kernel_rfl) (by kernel_rfl) (by kernel_rfl) (fun _ _ _ h => (by cases h.1)) (Or.inl ⟨by rfl,fun W hS => (by obtain ⟨s1,s2,s3,s4,s5⟩:=hS; go_simp)⟩) hH ?_
   simp only [Act.put,List.setIfInBounds_toArray,List.set_cons_zero,List.set_cons_succ]
   refine g_takeT 20 (i:=3) (v:=.slice (some ⟨b,o,none⟩) 1 c) (by rfl) (by kernel_rfl) (by kernel_rfl) (by kernel_rfl) (by kernel_rfl) (by kernel_rfl) (fun _ _ _ h => (by cases h.1)) (Or.inl ⟨by rfl,fun W hS => (by obtain ⟨s1,s2,s3,s4,s5⟩:=hS; go_simp)⟩) hH ?_
   simp only [Act.put,List.setIfInBounds_toArray,List.set_cons_zero,List.set_cons_succ]
   refine g_takeT 20 (i:=4) (v:=.pointer (some ⟨b,o,none⟩)) (by rfl) (by kernel_rfl) (by kernel_rfl) (by kernel_rfl) (by kernel_rfl) (by kernel_rfl) (fun _ _ _ h => (by cases h.1)) (Or.inl ⟨by rfl,fun W hS => (by obtain ⟨s1,s2,s3,s4,s5⟩:=hS; go_simp)⟩) hH ?_
   simp only [Act.put,List.setIfInBounds_toArray,List.set_cons_zero,List.set_cons_succ]
   refine g_takeT 20 (i:=5) (v:=.agg #[.int .i64 m.k,.string m.t,.string m.v,.slice B m.kids.length cB]) (by rfl) (by kernel_rfl) (by kernel_rfl) (by kernel_rfl) (by kernel_rfl) (by kernel_rfl) (fun _ _ _ h => (by cases h.1)) (Or.inl ⟨by rfl,fun W hS => (by obtain ⟨s1,s2,s3,s4,s5⟩:=hS; go_simp)⟩) hH ?_
   simp only [Act.put,List.setIfInBounds_toArray,List.set_cons_zero,List.set_cons_succ]
   refine g_one (i:=1) (by kernel_rfl) (by rfl) (fun K hK => ?_)
   refine step_appTt rfl (.tmp 43) (.const (.string ⟨#[32,61,32]⟩)) 39 9 rfl base 5 Tryz.underlying39 Tryz.underlying9 Tryz.info5 v2 (xs ++ X) rfl hown2.drew ⟨#[32,61,32]⟩ rfl (show (xs ++ X).length + 3 <= _ by simp only [List.length_append]; omega) hw2 ?_
   intro v5 w5 hown5 hg5 hb5
   have hb15:=(below_drew hb12).trans hb5
   have bX5:=bX2.drew.grown hg5 (fun e => hne2 e.symm)
   refine hK.out _ _ (fun _ => ⟨bX5.cell 3,low _ hb15⟩) (fun _ => ?_)
   clear hK K hH
   refine g_one (i:=6) (by kernel_rfl) (by rfl) (fun K hK => ?_)
   go_simp
   refine (hih base v5 (xs ++ X ++ [32,61,32]) B cB w5 (hn1.low (fun q hq => hb15.block q hq)) hms hmsh hown5 (Nat.le_trans hw2 hb5.size) (by simp only [List.length_append,List.length_cons,List.length_nil]; omega)).mono ?_
   rintro e w6 ⟨v6,rfl,hO6,hb6⟩
   refine hK.out _ _ (fun h => absurd (by decide) h) (fun _ => ?_)
   clear hK K
   refine g_one (i:=7) (by kernel_rfl) (by rfl) (fun K hK => ?_)
   go_simp
   refine hK.out _ _ (fun h => absurd (by decide) h) (fun _ => ?_)
   clear hK K
   refine g_done (by kernel_rfl) ⟨rfl,?_⟩ _
   have HB6:=Lib.hid (hb15.trans hb6)
   clear low hb6 hb5 hb15
   go_wp2
   go_ret
   exact ⟨_,rfl,by rw [<- HL.out]; simpa [List.append_assoc] using hO6,HB6.out⟩
  have z1:=ibeq h1
  have z4:=ibeq h4
  have z5:=ibeq h5
  have z7:=ibeq h7
  have z8:=ibeq h8
  rw [rowN_e t v l h1 h4 h5 h7 h8] at hL
  have HL:=Lib.hid hL
  clear hL
  have htl : t.data.toList.length = t.size:=by simp
  clear ih hA h1 h4 h5 h7 h8
  go_enter Tryz.func38,Tryz.ntmps38
  go_wp2_with (first
   | (at_builtin; refine wp_appT rfl _ _ 39 9 rfl base 5 Tryz.underlying39 Tryz.underlying9 Tryz.info5 v0 xs rfl hO1 t rfl (by omega) hwa ?_; intro v2 w2 hown2 hg2 hb2))
  go_ret
  exact ⟨_,rfl,by rw [<- HL.out]; exact hown2,hBa.trans hb2⟩
theorem BldAt.row {w : World} {B b : Nat} {l : List UInt8} (h : BldAt w B b l) : ∃ p v,B <= b /\ Blk w b 60 #[p,v] /\ w.ownsRow B 5 1 v l.length (Lib.byteCells l):=by
 rcases h with ⟨hB,v,hb,ho,_⟩ | ⟨hB,v,hb,ho,_⟩
 iterate 2
  ·rw [Lib.byteCells_length] at ho; exact ⟨_,v,hB,hb,ho⟩
set_option maxHeartbeats 2000000 in
theorem bstring_any (B b : Nat) (l : List UInt8) (w : World) (h : BldAt w B b l) (h0 : l ≠ []) :
 Calls Tryz.prog 32 #[.pointer (some ⟨b,0,none⟩)] w fun e w' => e = .returned (.string ⟨l.toArray⟩) /\ Below B w w':=by
 obtain ⟨p,v,hB,hk,ho⟩:=h.row
 have hl : l.length ≠ 0:=fun e => h0 (List.eq_nil_of_length_eq_zero e)
 rcases ho.2 with ⟨_,hz⟩ | ⟨g,cap,cur,rfl,hbg,hg,hnc,hcm,hcs,_⟩
 ·exact absurd hz hl
 have hmx : (cap : Int) <= 9223372036854775807:=by have:=hcm; unfold maxLen at this; omega
 have hsd : (Builtin.unsafeSliceData_ #[39] 100 #[.slice (some ⟨g,0,none⟩) l.length cap]).run Tryz.prog w.drew = .ok (.pointer (some ⟨g,0,none⟩)) w.drew:=Lib.run_unsafeSliceData_row _ _ _ _ _ _ (by omega)
 have hus : (Builtin.unsafeString_ #[100,3] 9 #[.pointer (some ⟨g,0,none⟩),.int .i64 l.length]).run Tryz.prog w.drew = .ok (.string ⟨l.toArray⟩) (w.drew.freeze ⟨g,0,none⟩ l.length):=by
  have hg' : w.drew.heap[g]? = some (.cells cur 5 (0,0)):=hg
  exact Lib.run_unsafeString_row w.drew _ _ _ 5 Tryz.underlying100 (by kernel_rfl) g cur.size (by simp [World.shape?,hg']) l h0 (by omega) (by omega) fun j x hx => ho.cells (g:=g) rfl j (.int .u8 x.toNat) (by simp [Lib.byteCells,hx])
 have c1 : w.drew.cell? ⟨b,1,none⟩ = some (.slice (some ⟨g,0,none⟩) l.length cap):=by
  have : Blk w.drew b 60 #[p,.slice (some ⟨g,0,none⟩) l.length cap]:=hk
  exact this.cell 1
 have mixed : Tryz.prog.follows .mixedOrders = true:=by kernel_rfl
 have hfz:=Lib.below_freeze (Below.drew (Below.refl B w)) (p:=⟨g,0,none⟩) hbg l.length
 clear h hk ho hg
 go_enter Tryz.func32,Tryz.ntmps32
 go_wp2
 go_region_o
 all_goals (go_wp2; go_ret; exact ⟨rfl,hfz⟩)
def OutPost (B o : Nat) (w : World) (l : List UInt8) (e : Ending) (w' : World) : Prop:=e = .returned (.tuple #[]) /\ BldAt w' B o l /\ Below B w w' /\ KeepT w w'
theorem oquoted_any (B o : Nat) (l : List UInt8) (t : ByteArray) (w : World) (h : BldAt w B o l) (ht : t.size <= 140737488355328) (hl : l.length <= 1000000000000) (hB : B <= w.heap.size) :
 Calls Tryz.prog 54 #[.pointer (some ⟨o,0,none⟩),.string t] w (OutPost B o w (l ++ Qt.prText t.data.toList)):=by
 have hp:=Qt.print_any t w ht
 unfold Qt.PrintEnd at hp
 have hpl:=prText_len t.data.toList
 unfold OutPost
 generalize Qt.prText t.data.toList = L at *
 generalize Qt.prErr t.data.toList = E at *
 have HL : (⟨L.toArray⟩ : ByteArray).size = L.length:=by simp [ByteArray.size]
 have HB:=Lib.hid h
 have HL2:=Lib.hid HL
 clear h HL
 go_enter Tryz.func54,Tryz.ntmps54
 go_wp2_with fail
 refine hp.mono ?_
 rintro e w1 ⟨rfl,hb1⟩
 have h1 : BldAt w1 B o l:=HB.out.keep fun k ob _ hk _ _ _ => (hb1.block k (by
  rcases Nat.lt_or_ge k w.heap.size with h | h
  ·exact h
  ·rw [Array.getElem?_eq_none h] at hk; cases hk)).trans hk
 have hs1:=hb1.size
 have hs:=bstr_any B o l ⟨L.toArray⟩ w1 h1 (by rw [HL2.out]; omega) (Nat.le_trans hB hs1)
 rw [show (⟨L.toArray⟩ : ByteArray).data.toList = L from rfl] at hs
 have HB1:=Lib.hid (hb1.mono hB)
 have HK1:=Lib.hid (KeepT.of_below hb1)
 clear hb1 h1 hp
 go_wp2_with fail
 refine hs.mono ?_
 rintro e w2 ⟨rfl,h2,hb2,hk2⟩
 go_wp2
 go_end0
 exact ⟨rfl,h2,HB1.out.trans hb2,HK1.out.trans hk2⟩
end Go.Proofs.YtbnppjmmlfncmaaGreatDoor

/-
  inkbrace: what its builder tells, a quoted text, what stands between brackets.
  What a tree is, node by node (pure): the kinds of what stands in a node, the keys of a map, the attributes of an element.
  The search for the first node that cannot be told (pure): the program's, by what it hands on to a node's kids, and the reference's, by the nodes above.
-/
import Derived.Test.YtbnppjmmlfncmaaGreatDoorIsA01
import Derived.Test.YtbnppjmmlfncmaaGreatDoorIsA07
import Derived.Test.YtbnppjmmlfncmaaGreatDoorIsA08
import Derived.Test.YtbnppjmmlfncmaaGreatDoorIsA19
import Derived.Test.YtbnppjmmlfncmaaGreatDoorIsA05
set_option maxRecDepth 100000
set_option linter.unusedSimpArgs false
set_option linter.unusedVariables false
namespace Go.Proofs.YtbnppjmmlfncmaaGreatDoor
open Go.RowKit Go.Maps
theorem BldAt.row {w : World} {B b : Nat} {l : List UInt8} (h : BldAt w B b l) : ∃ p v,B <= b /\ Blk w b 60 #[p,v] /\ w.ownsRow B 5 1 v l.length (Lib.byteCells l):=by
 rcases h with ⟨hB,v,hb,ho,_⟩ | ⟨hB,v,hb,ho,_⟩
 iterate 2
  ·rw [Lib.byteCells_length] at ho; exact ⟨_,v,hB,hb,ho⟩
set_option maxHeartbeats 2000000 in
theorem bstring_any (B b : Nat) (l : List UInt8) (w : World) (h : BldAt w B b l) (h0 : l ≠ []) :
 Calls Tryz.prog 32 #[.pointer (some ⟨b,0,none⟩)] w fun e w' => e = .returned (.string ⟨l.toArray⟩) /\ Below B w w':=by
 obtain ⟨p,v,hB,hk,ho⟩:=h.row
 have hl : l.length ≠ 0:=fun e => h0 (List.eq_nil_of_length_eq_zero e)
 rcases ho.2 with ⟨_,hz⟩ | ⟨g,cap,cur,rfl,hbg,hg,hnc,hcm,hcs,_⟩
 ·exact absurd hz hl
 have hmx : (cap : Int) <= 9223372036854775807:=by have:=hcm; unfold maxLen at this; omega
 have hsd : (Builtin.unsafeSliceData_ #[39] 100 #[.slice (some ⟨g,0,none⟩) l.length cap]).run Tryz.prog w.drew = .ok (.pointer (some ⟨g,0,none⟩)) w.drew:=Lib.run_unsafeSliceData_row _ _ _ _ _ _ (by omega)
 have hus : (Builtin.unsafeString_ #[100,3] 9 #[.pointer (some ⟨g,0,none⟩),.int .i64 l.length]).run Tryz.prog w.drew = .ok (.string ⟨l.toArray⟩) (w.drew.freeze ⟨g,0,none⟩ l.length):=by
  have hg' : w.drew.heap[g]? = some (.cells cur 5 (0,0)):=hg
  exact Lib.run_unsafeString_row w.drew _ _ _ 5 Tryz.underlying100 (by kernel_rfl) g cur.size (by simp [World.shape?,hg']) l h0 (by omega) (by omega) fun j x hx => ho.cells (g:=g) rfl j (.int .u8 x.toNat) (by simp [Lib.byteCells,hx])
 have c1 : w.drew.cell? ⟨b,1,none⟩ = some (.slice (some ⟨g,0,none⟩) l.length cap):=by
  have : Blk w.drew b 60 #[p,.slice (some ⟨g,0,none⟩) l.length cap]:=hk
  exact this.cell 1
 have mixed : Tryz.prog.follows .mixedOrders = true:=by kernel_rfl
 have hfz:=Lib.below_freeze (Below.drew (Below.refl B w)) (p:=⟨g,0,none⟩) hbg l.length
 clear h hk ho hg
 go_enter Tryz.func32,Tryz.ntmps32
 go_wp2
 go_region_o
 all_goals (go_wp2; go_ret; exact ⟨rfl,hfz⟩)
def OutPost (B o : Nat) (w : World) (l : List UInt8) (e : Ending) (w' : World) : Prop:=e = .returned (.tuple #[]) /\ BldAt w' B o l /\ Below B w w' /\ KeepT w w'
theorem oquoted_any (B o : Nat) (l : List UInt8) (t : ByteArray) (w : World) (h : BldAt w B o l) (ht : t.size <= 140737488355328) (hl : l.length <= 1000000000000) (hB : B <= w.heap.size) :
 Calls Tryz.prog 54 #[.pointer (some ⟨o,0,none⟩),.string t] w (OutPost B o w (l ++ Qt.prText t.data.toList)):=by
 have hp:=Qt.print_any t w ht
 unfold Qt.PrintEnd at hp
 have hpl:=prText_len t.data.toList
 unfold OutPost
 generalize Qt.prText t.data.toList = L at *
 generalize Qt.prErr t.data.toList = E at *
 have HL : (⟨L.toArray⟩ : ByteArray).size = L.length:=by simp [ByteArray.size]
 have HB:=Lib.hid h
 have HL2:=Lib.hid HL
 clear h HL
 go_enter Tryz.func54,Tryz.ntmps54
 go_wp2_with fail
 refine hp.mono ?_
 rintro e w1 ⟨rfl,hb1⟩
 have h1 : BldAt w1 B o l:=HB.out.keep fun k ob _ hk _ _ _ => (hb1.block k (by
  rcases Nat.lt_or_ge k w.heap.size with h | h
  ·exact h
  ·rw [Array.getElem?_eq_none h] at hk; cases hk)).trans hk
 have hs1:=hb1.size
 have hs:=bstr_any B o l ⟨L.toArray⟩ w1 h1 (by rw [HL2.out]; omega) (Nat.le_trans hB hs1)
 rw [show (⟨L.toArray⟩ : ByteArray).data.toList = L from rfl] at hs
 have HB1:=Lib.hid (hb1.mono hB)
 have HK1:=Lib.hid (KeepT.of_below hb1)
 clear hb1 h1 hp
 go_wp2_with fail
 refine hs.mono ?_
 rintro e w2 ⟨rfl,h2,hb2,hk2⟩
 go_wp2
 go_end0
 exact ⟨rfl,h2,HB1.out.trans hb2,HK1.out.trans hk2⟩
def aft (n : Nd) (p : Pt) : Pt :=
 if n.k = 8 then (match n.kids with | m :: _ => { p with last:=m.k,keys:=n.t.data.toList :: p.keys } | [] => p)
 else if n.k = 11 then { p with last:=11,keys:=n.t.data.toList :: p.keys } else { p with last:=n.k }
theorem aft_val {n : Nd} (p : Pt) (h8 : n.k ≠ 8) (h11 : n.k ≠ 11) : aft n p = { p with last:=n.k }:=by unfold aft; rw [if_neg h8,if_neg h11]
theorem aft_attr {n : Nd} (p : Pt) (h11 : n.k = 11) : aft n p = { p with last:=11,keys:=n.t.data.toList :: p.keys }:=by unfold aft; rw [if_neg (by omega),if_pos h11]
theorem aft_key {n m : Nd} (p : Pt) (h8 : n.k = 8) (hm : n.kids = [m]) : aft n p = { p with last:=m.k,keys:=n.t.data.toList :: p.keys }:=by unfold aft; rw [if_pos h8,hm]
theorem aft_kind (n : Nd) (p : Pt) : (aft n p).kind = p.kind:=by
 unfold aft
 split
 ·split <;> rfl
 ·split <;> rfl
def aftL (l : List Nd) (p : Pt) : Pt:=l.foldl (fun p n => aft n p) p
theorem run_cons (st : List Pt) (x : Ev) (l : List Ev) : runS st (x :: l) = runS (stepS st x) l:=rfl
theorem gk_shape {k : Int} {kids : List Nd} (h : okShape k kids.length = true) (ho : opensK k = false) : (k = 8 /\ ∃ m,kids = [m]) \/ (k ≠ 8 /\ leafK k = true /\ kids = []):=by
 unfold okShape at h
 rw [ho] at h
 simp only [Bool.false_or,Bool.or_eq_true,Bool.and_eq_true,decide_eq_true_iff] at h
 rcases h with ⟨h1,h2⟩ | ⟨h1,h2⟩
 ·refine .inr ⟨?_,h1,List.eq_nil_of_length_eq_zero h2⟩
  unfold leafK at h1
  rw [decide_eq_true_iff] at h1
  omega
 ·exact .inl ⟨h1,List.length_eq_one_iff.1 h2⟩
theorem opens_k {k : Int} (h : opensK k = true) : k = 5 \/ k = 7 \/ k = 10:=of_decide_eq_true h
mutual
theorem run_flat : ∀ (n : Nd) (p : Pt) (r : List Pt),shaped n = true -> Good (p :: r) -> allOk (p :: r) (flat n) -> runS (p :: r) (flat n) = aft n p :: r
 | .mk k t v kids,p,r,hs,hg,ha => by
  simp only [shaped,Bool.and_eq_true] at hs
  simp only [flat,allOk] at ha
  have hb:=(allOk_append _ _ _).1 ha.2
  have hg1:=good_step hg ⟨k,t,v⟩
  have he:=shape_head hs.1
  have hst : stepS (p :: r) ⟨k,t,v⟩ = goS (p :: r) ⟨k,t,v⟩:=by unfold stepS; rw [if_pos ha.1]
  simp only [flat]
  rw [run_cons,runS_append]
  cases ho : opensK k with
  | true =>
   simp only [endL,ho,if_true] at hb ⊢
   have hgo : goS (p :: r) ⟨k,t,v⟩ = ⟨k,0,[]⟩ :: { p with last:=k } :: r:=by simp [goS,he,ho]
   rw [hst,hgo] at hb hg1 ⊢
   have hk:=runL_flat kids ⟨k,0,[]⟩ ({ p with last:=k } :: r) hs.2 hg1 hb.1
   rw [hk] at hb ⊢
   have h2 : stepE (aftL kids ⟨k,0,[]⟩ :: { p with last:=k } :: r) (endE (endK k)) = 0:=hb.2.1
   show stepS _ _ = _
   unfold stepS
   rw [if_pos h2]
   simp only [goS]
   rw [if_pos (by exact ends_endK k)]
   have hk8:=opens_k ho
   rw [aft_val (n:=.mk k t v kids) p (by show k ≠ 8; omega) (by show k ≠ 11; omega)]
   rfl
  | false =>
   simp only [endL,ho,if_false,Bool.false_eq_true] at hb ⊢
   show runS _ (flatL kids) = _
   rcases gk_shape hs.1 ho with ⟨h8,m,hm⟩ | ⟨h8,hl,hm⟩
   ·subst h8 hm
    have hgo : goS (p :: r) ⟨8,t,v⟩ = { p with last:=8,keys:=t.data.toList :: p.keys } :: r:=by simp [goS,he,ho]
    rw [hst,hgo] at hb hg1 ⊢
    simp only [shapedL,Bool.and_eq_true] at hs
    simp only [flatL,List.append_nil] at hb ⊢
    have hm1:=run_flat m _ r hs.2.1 hg1 hb.1
    rw [hm1]
    have hmv : m.k ≠ 8 /\ m.k ≠ 11:=by
     cases m with
     | mk k2 t2 v2 kids2 =>
      simp only [flat,allOk] at hb
      have hc:=(cont_of hb.1.1).2
      have hk0 : valueK k2 = true:=by
       have hc0:=(cont_of ha.1).2
       simp only [contB] at hc hc0
       by_cases h5 : p.kind = 5
       ·rw [if_pos h5] at hc0
        simp [valueK] at hc0
       rw [if_neg h5] at hc0 hc
       by_cases h7 : p.kind = 7
       ·rw [if_pos h7] at hc
        exact hc
       rw [if_neg h7] at hc0 hc
       by_cases h10 : p.kind = 10
       ·rw [if_pos h10] at hc0
        simp [contElem] at hc0
       rw [if_neg h10] at hc0
       simp [valueK] at hc0
      simp only [Nd.k]
      unfold valueK at hk0
      rw [decide_eq_true_iff] at hk0
      omega
    rw [aft_key (n:=.mk 8 t v [m]) p rfl rfl,aft_val _ hmv.1 hmv.2]
    rfl
   ·subst hm
    have hgo : goS (p :: r) ⟨k,t,v⟩ = aft (.mk k t v []) p :: r:=by
     simp only [goS]
     rw [if_neg (by rw [he]; decide),if_neg (by rw [ho]; decide)]
     by_cases h11 : k = 11
     ·rw [if_pos (.inr h11),aft_attr (n:=.mk k t v []) p h11,h11]
      rfl
     ·rw [if_neg (by omega),aft_val (n:=.mk k t v []) p h8 h11]
      rfl
    rw [hst,hgo]
    rfl
theorem runL_flat : ∀ (l : List Nd) (p : Pt) (r : List Pt),shapedL l = true -> Good (p :: r) -> allOk (p :: r) (flatL l) -> runS (p :: r) (flatL l) = aftL l p :: r
 | [],p,r,_,_,_ => rfl
 | n :: l,p,r,hs,hg,ha => by
  simp only [shapedL,Bool.and_eq_true] at hs
  simp only [flatL] at ha ⊢
  have hb:=(allOk_append _ _ _).1 ha
  have h1:=run_flat n p r hs.1 hg hb.1
  have hg2:=good_run hg (flat n)
  rw [runS_append,h1]
  rw [h1] at hb hg2
  exact runL_flat l (aft n p) r hs.2 hg2 hb.2
end
def gramH (k : Int) (t v : ByteArray) (kids : List Nd) : Prop :=
 formedB ⟨k,t,v⟩ = true /\ okShape k kids.length = true /\ (k = 5 \/ k = 8 -> ∀ m ∈ kids,valueK m.k = true) /\
 (k = 7 -> (∀ m ∈ kids,m.k = 8) /\ (kids.map fun m => m.t.data.toList).Nodup /\ kids.length <= 10) /\
 (k = 10 -> ∃ us cs,kids = us ++ cs /\ (∀ m ∈ us,m.k = 11) /\ (∀ m ∈ cs,m.k = 4 \/ m.k = 10) /\ us.length <= 10)
mutual
def gram : Nd -> Prop
 | .mk k t v kids => gramH k t v kids /\ gramL kids
def gramL : List Nd -> Prop
 | [] => True
 | n :: r => gram n /\ gramL r
end
theorem gramL_mem : ∀ {l : List Nd},gramL l ↔ ∀ n ∈ l,gram n
 | [] => by simp [gramL]
 | n :: r => by simp only [gramL,gramL_mem (l:=r),List.mem_cons,forall_eq_or_imp]
theorem gram.head {n : Nd} (h : gram n) : gramH n.k n.t n.v n.kids:=by cases n; exact h.1
theorem gram.kid {n m : Nd} (h : gram n) (hm : m ∈ n.kids) : gram m:=by cases n; exact gramL_mem.1 h.2 m hm
theorem head_ok {n : Nd} {p : Pt} {r : List Pt} (hs : shaped n = true) (h : allOk (p :: r) (flat n)) : stepE (p :: r) ⟨n.k,n.t,n.v⟩ = 0 /\ endsK n.k = false:=by
 cases n with
 | mk k t v kids =>
  simp only [flat,allOk] at h
  simp only [shaped,Bool.and_eq_true] at hs
  exact ⟨h.1,shape_head hs.1⟩
theorem listed : ∀ (l : List Nd) (p : Pt) (r : List Pt),p.kind = 5 -> shapedL l = true -> Good (p :: r) -> allOk (p :: r) (flatL l) -> ∀ m ∈ l,valueK m.k = true
 | [],_,_,_,_,_,_,_,hm => by cases hm
 | n :: l,p,r,hp,hs,hg,ha,m,hm => by
  simp only [shapedL,Bool.and_eq_true] at hs
  simp only [flatL] at ha
  have hb:=(allOk_append _ _ _).1 ha
  have h0:=head_ok hs.1 hb.1
  rcases List.mem_cons.1 hm with rfl | hm
  ·have hc:=(cont_of h0.1).2
   simp only [contB,hp,if_true,Bool.or_eq_true,decide_eq_true_iff] at hc
   rcases hc with hc | hc
   ·exact hc
   ·have:=h0.2
    rw [hc] at this
    exact absurd this (by decide)
  ·have h1:=run_flat n p r hs.1 hg hb.1
   have hg2:=good_run hg (flat n)
   rw [h1] at hb hg2
   exact listed l (aft n p) r ((aft_kind n p).trans hp) hs.2 hg2 hb.2 m hm
theorem step_keys {p : Pt} {r : List Pt} {x : Ev} (h : stepE (p :: r) x = 0) (hx : x.k = 8 \/ x.k = 11) : x.t.data.toList ∉ p.keys /\ p.keys.length < 10:=by
 have hc:=cont_of h
 simp only [stepE] at h
 rw [if_neg (by rw [hc.1,hc.2]; decide),if_neg (by unfold endsK; rw [decide_eq_true_iff]; omega),if_neg (by unfold opensK; rw [decide_eq_true_iff]; omega),if_pos hx] at h
 split at h
 ·exact absurd h (by decide)
 ·rename_i h1
  split at h
  ·exact absurd h (by decide)
  ·exact ⟨h1,by omega⟩
theorem mapped : ∀ (l : List Nd) (p : Pt) (r : List Pt),p.kind = 7 -> p.last ≠ 8 -> shapedL l = true -> Good (p :: r) -> allOk (p :: r) (flatL l) ->
 (∀ m ∈ l,m.k = 8) /\ (l.map fun m => m.t.data.toList).Nodup /\ (∀ m ∈ l,m.t.data.toList ∉ p.keys) /\ (p.keys.length <= 10 -> l.length + p.keys.length <= 10)
 | [],p,_,_,_,_,_,_ => by simp
 | n :: l,p,r,hp,hl8,hs,hg,ha => by
  simp only [shapedL,Bool.and_eq_true] at hs
  simp only [flatL] at ha
  have hb:=(allOk_append _ _ _).1 ha
  have h0:=head_ok hs.1 hb.1
  have hc:=(cont_of h0.1).2
  simp only [contB,hp] at hc
  rw [if_neg (by decide),if_pos trivial,if_neg hl8,decide_eq_true_iff] at hc
  have hk8 : n.k = 8:=by
   rcases hc with hc | hc
   ·exact hc
   ·have:=h0.2
    rw [hc] at this
    exact absurd this (by decide)
  have hk:=step_keys h0.1 (.inl hk8)
  have h1:=run_flat n p r hs.1 hg hb.1
  have hg2:=good_run hg (flat n)
  have haf : ∃ m,n.kids = [m]:=by
   cases n with
   | mk k t v kids =>
    simp only [Nd.k] at hk8
    subst hk8
    simp only [shaped,Bool.and_eq_true] at hs
    rcases gk_shape hs.1.1 rfl with ⟨_,h⟩ | ⟨h,_⟩
    ·exact h
    ·exact absurd rfl h
  obtain ⟨m,hm⟩:=haf
  have hmv : m.k ≠ 8:=by
   cases n with
   | mk k t v kids =>
    simp only [Nd.k] at hk8
    simp only [Nd.kids] at hm
    subst hk8 hm
    simp only [flat,allOk,flatL,List.append_nil] at hb
    have hb2:=((allOk_append _ _ _).1 hb.1.2).1
    have hst : stepS (p :: r) ⟨8,t,v⟩ = { p with last:=8,keys:=t.data.toList :: p.keys } :: r:=by
     unfold stepS; rw [if_pos hb.1.1]; simp [goS,opensK,endsK]
    rw [hst] at hb2
    simp only [shaped,shapedL,Bool.and_eq_true] at hs
    have h3:=head_ok hs.1.2.1 hb2
    have hc3:=(cont_of h3.1).2
    simp only [contB,hp] at hc3
    rw [if_neg (by decide),if_pos trivial,if_pos trivial] at hc3
    unfold valueK at hc3
    rw [decide_eq_true_iff] at hc3
    omega
  have hae : aft n p = { p with last:=m.k,keys:=n.t.data.toList :: p.keys }:=by
   exact aft_key _ hk8 hm
  rw [h1,hae] at hb hg2
  have ih:=mapped l _ r (by exact hp) (by exact hmv) hs.2 hg2 hb.2
  refine ⟨fun q hq => ?_,?_,fun q hq => ?_,fun hle => ?_⟩
  ·rcases List.mem_cons.1 hq with rfl | hq
   ·exact hk8
   ·exact ih.1 q hq
  ·rw [List.map_cons,List.nodup_cons]
   refine ⟨fun hx => ?_,ih.2.1⟩
   obtain ⟨q,hq,he⟩:=List.mem_map.1 hx
   exact ih.2.2.1 q hq (by rw [he]; exact List.mem_cons_self ..)
  ·rcases List.mem_cons.1 hq with rfl | hq
   ·exact hk.1
   ·exact fun hx => ih.2.2.1 q hq (List.mem_cons_of_mem _ hx)
  ·have:=ih.2.2.2 (by simp; omega)
   simp at this ⊢
   omega
theorem contents : ∀ (l : List Nd) (p : Pt) (r : List Pt),p.kind = 10 -> p.last ≠ 0 -> p.last ≠ 11 -> shapedL l = true -> Good (p :: r) -> allOk (p :: r) (flatL l) -> ∀ m ∈ l,m.k = 4 \/ m.k = 10
 | [],_,_,_,_,_,_,_,_,_,hm => by cases hm
 | n :: l,p,r,hp,hl0,hl11,hs,hg,ha,m,hm => by
  simp only [shapedL,Bool.and_eq_true] at hs
  simp only [flatL] at ha
  have hb:=(allOk_append _ _ _).1 ha
  have h0:=head_ok hs.1 hb.1
  have hc:=(cont_of h0.1).2
  have hn : n.k = 4 \/ n.k = 10:=by
   simp only [contB,hp] at hc
   rw [if_neg (by decide),if_neg (by decide),if_pos trivial] at hc
   unfold contElem at hc
   split at hc
   ·rw [decide_eq_true_iff] at hc; omega
   ·split at hc
    ·exact .inl ‹_›
    ·rw [decide_eq_true_iff] at hc
     rcases hc with hc | hc
     ·exact .inr hc
     ·have:=h0.2
      rw [hc] at this
      exact absurd this (by decide)
  rcases List.mem_cons.1 hm with rfl | hm
  ·exact hn
  ·have h1:=run_flat n p r hs.1 hg hb.1
   have hg2:=good_run hg (flat n)
   have hae : aft n p = { p with last:=n.k }:=by
    exact aft_val _ (by omega) (by omega)
   rw [h1,hae] at hb hg2
   exact contents l _ r (by exact hp) (by show n.k ≠ 0; omega) (by show n.k ≠ 11; omega) hs.2 hg2 hb.2 m hm
theorem parted : ∀ (l : List Nd) (p : Pt) (r : List Pt),p.kind = 10 -> (p.last = 0 \/ p.last = 11) -> p.keys.length <= 10 -> shapedL l = true -> Good (p :: r) -> allOk (p :: r) (flatL l) ->
 ∃ us cs,l = us ++ cs /\ (∀ m ∈ us,m.k = 11) /\ (∀ m ∈ cs,m.k = 4 \/ m.k = 10) /\ us.length + p.keys.length <= 10
 | [],p,_,_,_,hk,_,_,_ => ⟨[],[],rfl,by simp,by simp,by simpa using hk⟩
 | n :: l,p,r,hp,hl,hkl,hs,hg,ha => by
  have hs0:=hs
  have ha0:=ha
  simp only [shapedL,Bool.and_eq_true] at hs
  simp only [flatL] at ha
  have hb:=(allOk_append _ _ _).1 ha
  have h0:=head_ok hs.1 hb.1
  have h1:=run_flat n p r hs.1 hg hb.1
  have hg2:=good_run hg (flat n)
  by_cases h11 : n.k = 11
  ·have hk:=step_keys h0.1 (.inr h11)
   have hae : aft n p = { p with last:=11,keys:=n.t.data.toList :: p.keys }:=by
    exact aft_attr _ h11
   rw [h1,hae] at hb hg2
   obtain ⟨us,cs,rfl,i1,i2,i3⟩:=parted l _ r (by exact hp) (.inr rfl) (by simp; omega) hs.2 hg2 hb.2
   refine ⟨n :: us,cs,rfl,fun m hm => ?_,i2,by simp at i3 ⊢; omega⟩
   rcases List.mem_cons.1 hm with rfl | hm
   ·exact h11
   ·exact i1 m hm
  ·refine ⟨[],n :: l,rfl,by simp,?_,by simpa using hkl⟩
   have hc:=(cont_of h0.1).2
   have hn : n.k = 4 \/ n.k = 10:=by
    simp only [contB,hp] at hc
    rw [if_neg (by decide),if_neg (by decide),if_pos trivial] at hc
    unfold contElem at hc
    rw [if_neg h11] at hc
    split at hc
    ·exact .inl ‹_›
    ·rw [decide_eq_true_iff] at hc
     rcases hc with hc | hc
     ·exact .inr hc
     ·have:=h0.2
      rw [hc] at this
      exact absurd this (by decide)
   have hae : aft n p = { p with last:=n.k }:=by
    exact aft_val _ (by omega) (by omega)
   rw [h1,hae] at hb hg2
   intro m hm
   rcases List.mem_cons.1 hm with rfl | hm
   ·exact hn
   ·exact contents l _ r (by exact hp) (by show n.k ≠ 0; omega) (by show n.k ≠ 11; omega) hs.2 hg2 hb.2 m hm
mutual
theorem gram_of : ∀ (n : Nd) (p : Pt) (r : List Pt),shaped n = true -> Good (p :: r) -> allOk (p :: r) (flat n) -> gram n
 | .mk k t v kids,p,r,hs,hg,ha => by
  have hs0:=hs
  simp only [shaped,Bool.and_eq_true] at hs
  simp only [flat,allOk] at ha
  have hb:=((allOk_append _ _ _).1 ha.2).1
  have hg1:=good_step hg ⟨k,t,v⟩
  have he:=shape_head hs.1
  have hf:=(cont_of ha.1).1
  have hst : stepS (p :: r) ⟨k,t,v⟩ = goS (p :: r) ⟨k,t,v⟩:=by unfold stepS; rw [if_pos ha.1]
  rw [hst] at hb hg1
  cases ho : opensK k with
  | true =>
   have hgo : goS (p :: r) ⟨k,t,v⟩ = ⟨k,0,[]⟩ :: { p with last:=k } :: r:=by simp [goS,he,ho]
   rw [hgo] at hb hg1
   have hk:=opens_k ho
   refine ⟨⟨hf,hs.1,fun h => ?_,fun h => ?_,fun h => ?_⟩,gramL_of kids _ _ hs.2 hg1 hb⟩
   ·exact listed kids _ _ (show k = 5 by omega) hs.2 hg1 hb
   ·have:=mapped kids _ _ (show k = 7 from h) (show (0 : Int) ≠ 8 by decide) hs.2 hg1 hb
    exact ⟨this.1,this.2.1,by have:=this.2.2.2 (by simp); simpa using this⟩
   ·obtain ⟨us,cs,h1,h2,h3,h4⟩:=parted kids _ _ (show k = 10 from h) (.inl rfl) (by simp) hs.2 hg1 hb
    exact ⟨us,cs,h1,h2,h3,by simpa using h4⟩
  | false =>
   rcases gk_shape hs.1 ho with ⟨h8,m,hm⟩ | ⟨h8,hl,hm⟩
   ·subst h8 hm
    have hgo : goS (p :: r) ⟨8,t,v⟩ = { p with last:=8,keys:=t.data.toList :: p.keys } :: r:=by simp [goS,he,ho]
    rw [hgo] at hb hg1
    refine ⟨⟨hf,hs.1,fun _ => ?_,fun h => absurd h (by decide),fun h => absurd h (by decide)⟩,gramL_of [m] _ _ hs.2 hg1 hb⟩
    intro q hq
    rw [List.mem_singleton] at hq
    subst hq
    have hs2:=hs.2
    simp only [shapedL,Bool.and_eq_true] at hs2
    simp only [flatL,List.append_nil] at hb
    have hc:=(cont_of (head_ok hs2.1 hb).1).2
    have hc0:=(cont_of ha.1).2
    simp only [contB] at hc hc0
    by_cases h5 : p.kind = 5
    ·rw [if_pos h5] at hc0
     simp [valueK] at hc0
    rw [if_neg h5] at hc0 hc
    by_cases h7 : p.kind = 7
    ·rw [if_pos h7] at hc
     exact hc
    rw [if_neg h7] at hc0 hc
    by_cases h10 : p.kind = 10
    ·rw [if_pos h10] at hc0
     simp [contElem] at hc0
    rw [if_neg h10] at hc0
    simp [valueK] at hc0
   ·subst hm
    unfold opensK at ho
    rw [decide_eq_false_iff_not] at ho
    exact ⟨⟨hf,hs.1,by simp,fun h => absurd h (by omega),fun h => absurd h (by omega)⟩,trivial⟩
theorem gramL_of : ∀ (l : List Nd) (p : Pt) (r : List Pt),shapedL l = true -> Good (p :: r) -> allOk (p :: r) (flatL l) -> gramL l
 | [],_,_,_,_,_ => trivial
 | n :: l,p,r,hs,hg,ha => by
  simp only [shapedL,Bool.and_eq_true] at hs
  simp only [flatL] at ha
  have hb:=(allOk_append _ _ _).1 ha
  have h1:=run_flat n p r hs.1 hg hb.1
  have hg2:=good_run hg (flat n)
  rw [h1] at hb hg2
  exact ⟨gram_of n p r hs.1 hg hb.1,gramL_of l (aft n p) r hs.2 hg2 hb.2⟩
end
theorem may_gram {n : Nd} (h : mayN n = 0) : gram n:=by
 obtain ⟨hs,ha⟩:=may_shaped h
 exact gram_of n topP [] hs good_start ha
theorem may_value {n : Nd} (h : mayN n = 0) : valueK n.k = true:=by
 obtain ⟨hs,ha⟩:=may_shaped h
 have hc:=(cont_of (head_ok hs ha).1).2
 simp only [contB,topP] at hc
 rw [if_neg (by decide),if_neg (by decide),if_neg (by decide),Bool.and_eq_true] at hc
 exact hc.2
theorem gram.shape {n : Nd} (h : gram n) : okShape n.k n.kids.length = true:=h.head.2.1
theorem gram.leaf {n : Nd} (h : gram n) (hk : n.k ≠ 5 /\ n.k ≠ 7 /\ n.k ≠ 8 /\ n.k ≠ 10) : n.kids = []:=by
 have hs:=h.shape
 unfold okShape opensK at hs
 rw [decide_eq_false (by omega),decide_eq_false (p:=n.k = 8) (by omega)] at hs
 simp only [Bool.false_or,Bool.false_and,Bool.or_false,Bool.and_eq_true,decide_eq_true_iff] at hs
 exact List.eq_nil_of_length_eq_zero hs.2
theorem gram.key {n : Nd} (h : gram n) (hk : n.k = 8) : ∃ m,n.kids = [m] /\ valueK m.k = true /\ gram m:=by
 have hs:=h.shape
 rw [hk] at hs
 have h1 : n.kids.length = 1:=by simpa [okShape,opensK,leafK] using hs
 obtain ⟨m,hm⟩:=List.length_eq_one_iff.1 h1
 exact ⟨m,hm,h.head.2.2.1 (.inr hk) m (by rw [hm]; simp),h.kid (by rw [hm]; simp)⟩
section
variable {σ : Type} (bad : σ -> Nd -> Bool) (next : σ -> Nd -> Nat -> σ)
mutual
def srN : Nd -> σ -> Option (List Nat)
 | .mk k t v kids,s => if bad s (.mk k t v kids) = true then some [] else srL kids (next s (.mk k t v kids)) 0
def srL : List Nd -> (Nat -> σ) -> Nat -> Option (List Nat)
 | [],_,_ => none
 | m :: r,f,i => match srN m (f i) with
  | some q => some (i :: q)
  | none => srL r f (i + 1)
end
theorem srN_def (n : Nd) (s : σ) : srN bad next n s = if bad s n = true then some [] else srL bad next n.kids (next s n) 0:=by cases n; simp only [srN]; rfl
theorem srL_cons (m : Nd) (r : List Nd) (f : Nat -> σ) (i : Nat) : srL bad next (m :: r) f i = match srN bad next m (f i) with | some q => some (i :: q) | none => srL bad next r f (i + 1):=by simp only [srL]
theorem srL_nil (f : Nat -> σ) (i : Nat) : srL bad next [] f i = none:=by simp only [srL]
end
theorem sr_sim {σ τ : Type} (bad : σ -> Nd -> Bool) (next : σ -> Nd -> Nat -> σ) (bad' : τ -> Nd -> Bool) (next' : τ -> Nd -> Nat -> τ) (R : σ -> τ -> Nd -> Prop)
 (hb : ∀ s t n,R s t n -> bad s n = bad' t n) (hn : ∀ s t n,R s t n -> bad s n = false -> ∀ j (h : j < n.kids.length),R (next s n j) (next' t n j) n.kids[j]) :
 ∀ n s t,R s t n -> srN bad next n s = srN bad' next' n t:=by
 intro n
 induction n using Nd.ind with
 | h k tt v kids ih =>
  intro s t h
  rw [srN_def,srN_def,<- hb _ _ _ h]
  cases hx : bad s (.mk k tt v kids) with
  | true => rfl
  | false =>
   rw [if_neg (by decide),if_neg (by decide)]
   have hk:=hn _ _ _ h hx
   simp only [Nd.kids] at hk ⊢
   have key : ∀ (l : List Nd) (i : Nat),(∀ j (h : j < l.length),R (next s (.mk k tt v kids) (i + j)) (next' t (.mk k tt v kids) (i + j)) l[j]) -> (∀ m ∈ l,∀ s t,R s t m -> srN bad next m s = srN bad' next' m t) ->
    srL bad next l (next s (.mk k tt v kids)) i = srL bad' next' l (next' t (.mk k tt v kids)) i:=by
    intro l
    induction l with
    | nil => intro i _ _; rw [srL_nil,srL_nil]
    | cons m r ihl =>
     intro i h1 h2
     rw [srL_cons,srL_cons,h2 m (List.mem_cons_self ..) _ _ (by have:=h1 0 (by simp); simpa using this)]
     split
     ·rfl
     ·exact ihl (i + 1) (fun j hj => by have:=h1 (j + 1) (by simpa using hj); rw [show i + 1 + j = i + (j + 1) by omega]; exact this) (fun m hm => h2 m (List.mem_cons_of_mem _ hm))
   exact key kids 0 (fun j hj => by rw [Nat.zero_add]; exact hk j hj) ih
def spaceOf (t : ByteArray) : List UInt8:=match cutL t.data.toList with | some (s,_) => s | none => []
def bindL : List Nd -> List (List UInt8) -> List (List UInt8)
 | [],acc => acc
 | m :: r,acc => if m.k = 11 then bindL r (if spaceOf m.t = [] \/ spaceOf m.t ∈ acc then acc else acc ++ [spaceOf m.t]) else acc
def needs (o : List UInt8) (n : Nd) : Nat:=(bindL n.kids []).length + (if spaceOf n.t = o then 0 else 1)
def rawB (b : UInt8) : Bool:=!(decide (b < 32) && !decide (b = 9) && !decide (b = 10) && !decide (b = 13))
def rawL (l : List UInt8) : Bool:=l.all rawB
def xmlnsL : List UInt8:=[120,109,108,110,115]
def sameTexts : List Nd -> List Nd -> Bool
 | [],[] => true
 | a :: r,b :: s => decide (a.t = b.t) && sameTexts r s
 | _,_ => false
def rowB (n first : Nd) : Bool:=decide (n.k = 7) && (decide (0 < first.kids.length) && (decide (first.kids.length <= 8) && sameTexts n.kids first.kids))
def lineN (n : Nd) (a : Nat) : Int:=if 0 < n.kids.length then (a : Int) - 1 else (a : Int) + (rowN n).length
def rowsB (n : Nd) : Bool:=decide (n.k = 5) && (decide (0 < n.kids.length) && n.kids.all fun m => decide (m.k = 7))
def brk (n : Nd) : Nat:=if n.k = 7 then 2 else if rowsB n = true then 4 else 0
def deepF (f : Nd) : Bool:=decide (0 < brk (f.kids.getD 0 dNd))
def wordN (n : Nd) : Nat:=(wordL n.t.data.toList).length
inductive Sr where
 | free | brc | dl0 | dl1 (first : Nd) | dl2 | dl3 | ot (a ind : Nat) | ok_ (ind : Nat) | sc0 | sct (a : Nat) | scf (a : Nat) (deep : Bool) | scr (a : Nat) | scl | an0 | ane (o : List UInt8)
def badS : Sr -> Nd -> Bool
 | .free,_ => false
 | .brc,n => decide (n.k = 10)
 | .dl0,n => !decide (n.k = 5)
 | .dl1 first,n => !rowB n first
 | .dl2,_ => false
 | .dl3,n => !decide (n.k = 4)
 | .ot a _,n => decide (n.k = 10) || decide (160 < lineN n a)
 | .ok_ _,_ => false
 | .sc0,n => !decide (n.k = 7)
 | .sct _,_ => false
 | .scf a deep,n => if 0 < brk (n.kids.getD 0 dNd) then decide (160 < a + wordN n + brk (n.kids.getD 0 dNd)) else deep || (!elemN n && decide (160 < (rowN n).length))
 | .scr _,_ => false
 | .scl,n => decide (n.k = 10) || decide (n.k = 1)
 | .an0,n => !decide (n.k = 10) || decide (10 < needs [] n)
 | .ane o,n => if n.k = 11 then decide (n.t.data.toList = xmlnsL) || !rawL n.v.data.toList else if n.k = 4 then !rawL n.t.data.toList else decide (10 < needs o n)
def nextS : Sr -> Nd -> Nat -> Sr
 | .free,_,_ => .free
 | .brc,_,_ => .brc
 | .dl0,n,_ => .dl1 (n.kids.getD 0 dNd)
 | .dl1 _,_,_ => .dl2
 | .dl2,_,_ => .dl3
 | .dl3,_,_ => .dl3
 | .ot _ ind,n,j => if (n.kids.getD j dNd).k = 8 then .ok_ ind else .ot (ind + 2) (ind + 2)
 | .ok_ ind,n,_ => .ot (ind + wordN n + 2) (ind + 2)
 | .sc0,n,j => .scf 0 ((n.kids.take j).any deepF)
 | .sct a,n,j => .scf a ((n.kids.take j).any deepF)
 | .scf a _,n,_ => if 0 < brk (n.kids.getD 0 dNd) then .scr (a + wordN n + 1) else .scl
 | .scr a,n,j => if n.k = 7 then .scf a ((n.kids.take j).any deepF) else .sct a
 | .scl,_,_ => .scl
 | .an0,n,_ => .ane (spaceOf n.t)
 | .ane _,n,_ => .ane (spaceOf n.t)
def startS (x : Int) : Sr:=if x = 1 then .brc else if x = 2 then .an0 else if x = 3 then .ot 0 0 else if x = 4 then .sc0 else if x = 5 then .dl0 else .free
def ofP (x : Int) (n : Nd) : Option (List Nat):=srN badS nextS n (startS x)
def lastN (way : List Nd) : Nd:=way.getLastD dNd
def bindR : List Nd -> List (List UInt8) -> List (List UInt8)
 | [],acc => acc
 | m :: r,acc => bindR r (if ¬ m.k = 11 \/ spaceOf m.t = [] then acc else if spaceOf m.t ∈ acc then acc else acc ++ [spaceOf m.t])
def angleT (way : List Nd) (n : Nd) : Bool :=
 if way = [] /\ n.k ≠ 10 then false
 else if n.k = 4 then rawL n.t.data.toList
 else if n.k = 11 then !decide (n.t.data.toList = xmlnsL) && rawL n.v.data.toList
 else
  let b:=(bindR n.kids []).length + (if spaceOf n.t = (if way = [] then [] else spaceOf (lastN way).t) then 0 else 1)
  decide (b <= 10) && decide (b + (n.kids.filter fun m => decide (m.k = 11)).length <= 20)
def delimT (way : List Nd) (n : Nd) : Bool :=
 match way with
 | [] => decide (n.k = 5)
 | [a] => decide (n.k = 7) && (decide (0 < n.kids.length) && (decide (n.kids.length <= 8) && sameTexts n.kids (a.kids.getD 0 dNd).kids))
 | [_,_,_] => decide (n.k = 4)
 | _ => true
def inN (way : List Nd) : Nat:=(way.filter fun m => !decide (m.k = 8)).length
def outlT (way : List Nd) (n : Nd) : Bool :=
 if n.k = 10 then false else if n.k = 8 then true
 else
  let size : Nat:=if 0 < inN way then 2 * (inN way - 1) + (if (lastN way).k = 8 then wordN (lastN way) else 0) + 2 else 0
  decide (lineN n size <= 160)
def tabR : List UInt8 -> List Nd -> Option (List UInt8)
 | _,[] => none
 | path,[_] => some path
 | _,[_,_] => none
 | path,_ :: f :: v :: rest =>
  let path2:=(if path = [] then [] else path ++ [46]) ++ wordL f.t.data.toList
  if rowsB (f.kids.getD 0 dNd) = true then tabR path2 rest else if (f.kids.getD 0 dNd).k = 7 then tabR path2 (v :: rest) else none
def tabT (way : List Nd) : Option (List UInt8):=if (way.headD dNd).k = 7 then tabR [] way else none
def flatBefore (n : Nd) : List Nd -> Bool
 | [] => true
 | m :: r => if m.t = n.t then true else if deepF m = true then false else flatBefore n r
def sectT (way : List Nd) (n : Nd) : Bool :=
 if n.k = 10 \/ n.k = 1 \/ (way = [] /\ n.k ≠ 7) then false
 else if n.k ≠ 8 then true
 else match tabT way with
  | none => true
  | some path =>
   if deepF n = true then
    decide (wordN n + 2 + (if path ≠ [] \/ 2 < way.length + 1 then path.length + 1 else 0) + (if rowsB (n.kids.getD 0 dNd) = true then 2 else 0) <= 160)
   else flatBefore n (lastN way).kids && (elemN n || decide ((rowN n).length <= 160))
def tellsT (x : Int) (way : List Nd) (n : Nd) : Bool :=
 if x = 1 then !decide (n.k = 10) else if x = 2 then angleT way n else if x = 5 then delimT way n else if x = 3 then outlT way n else if x = 4 then sectT way n else true
def refP (x : Int) (n : Nd) : Option (List Nat):=srN (fun way n => !tellsT x way n) (fun way n _ => way ++ [n]) n []
end Go.Proofs.YtbnppjmmlfncmaaGreatDoor

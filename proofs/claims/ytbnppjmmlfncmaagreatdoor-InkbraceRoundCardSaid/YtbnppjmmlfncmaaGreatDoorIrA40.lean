/-
  brace: its machine as one that a Stream drives; Decode.
  Whether two rows of events are the same (the reference).
  The walk of InkbraceRound.
  What every row of this seat's laws shares: the variables that are listed, a world that holds them, what the walks lean on out of them; (stage 15).
-/
import Derived.Test.YtbnppjmmlfncmaaGreatDoorIrA37
import Derived.Test.YtbnppjmmlfncmaaGreatDoorIrA39
import Derived.Test.YtbnppjmmlfncmaaGreatDoorIrA01
import Derived.Test.YtbnppjmmlfncmaaGreatDoorIrA15
import Derived.Test.YtbnppjmmlfncmaaGreatDoorIrA04
import Derived.Test.YtbnppjmmlfncmaaGreatDoorIrA33
import Derived.Test.YtbnppjmmlfncmaaGreatDoorIrA35
import Derived.Test.YtbnppjmmlfncmaaGreatDoorIrA32
import Derived.Test.YtbnppjmmlfncmaaGreatDoorRows
import Derived.Test.YtbnppjmmlfncmaaGreatDoorCards
import Derived.Test.YtbnppjmmlfncmaaGreatDoorTie
import Derived.Test.YtbnppjmmlfncmaaGreatDoorIrA19
import Derived.Deep.Slices
import Derived.Deep.Fields
import Derived.ChangeSame
import Derived.SizedLaws
import Derived.ProofKit
import Derived.OpenShut
import Derived.ShutString
import Derived.Deep.DeepHandedRow
import Derived.Lib.LaidTab
import Derived.Lay
import Derived.Stop.LaidErr
import Derived.SevenTiedAt
set_option maxRecDepth 100000
set_option linter.unusedSimpArgs false
set_option linter.unusedVariables false
set_option linter.unusedSectionVars false
namespace Go.Proofs.YtbnppjmmlfncmaaGreatDoor
open Go.RowKit Go.Maps
variable [Fo]
theorem CRep.mono' {w : World} {b b' g rb cap : Nat} {qs : List PQ} (h : CRep w b' g rb cap qs) (hb : b <= b') : CRep w b g rb cap qs:=by
 refine ⟨Nat.le_trans hb h.hg,h.blk,⟨h.row.1,?_⟩,?_,h.nf⟩
 ·rcases h.row.2 with hn | ⟨g',cap',cur,hv,hg',hh,q⟩
  ·exact .inl hn
  ·exact .inr ⟨g',cap',cur,hv,Nat.le_trans hb hg',hh,q⟩
 ·have : ∀ l : List PQ,MapsOk w b' l -> MapsOk w b l:=by
   intro l
   induction l with
   | nil => intro h; exact h
   | cons q r ih => intro h; exact ⟨fun c hc => ⟨⟨Nat.le_trans hb (h.1 c hc).1.1,(h.1 c hc).1.2⟩,(h.1 c hc).2⟩,h.2.1,ih h.2.2⟩
  exact this qs h.maps
theorem OAt.dn {w : World} {base b o ck : Nat} {st : List Pt} {l : List Ev} (h : OAt w b o ck st l) (hb : base <= b) : OAt w base o ck st l:=by
 obtain ⟨⟨lv,hB,hR,hf⟩,⟨rb,cap,qs,hq,hC⟩,hbo,ho⟩:=h
 exact ⟨⟨lv,hB,hR.low hb,hf⟩,⟨rb,cap,qs,hq,hC.mono' hb⟩,Nat.le_trans hb hbo,ho⟩
theorem qat_up {w w' : World} {g : Nat} {q : Qt.QS} (h : Qt.QAt w g q) (hs : w.heap.size <= w'.heap.size) (hk : ∀ k o,g <= k -> w.heap[k]? = some o -> w'.heap[k]? = some o) : Qt.QAt w' g q:=by
 obtain ⟨d,n,⟨v,hB,hR,h1,h2,h3⟩,hq⟩:=h
 exact ⟨d,n,⟨v,hk _ _ (Nat.le_refl _) hB,row_up hR (fun k o hk' ho => hk k o (by omega) ho),h1,h2,Nat.le_trans h3 hs⟩,hq⟩
def bst0 : Bs:=⟨mc0,[topP],[]⟩
theorem DAt.out {w : World} {base B m o ck : Nat} {s : Bs} (h : DAt w base B m o ck s) : OAt w base o ck s.st s.l:=by
 rcases h with ⟨_,w0,g,_,h2,_,ht,_,_⟩ | ⟨_,qp,h⟩
 ·exact h2.of_ss ht
 ·exact h.out
theorem DAt.of_ss {w w' : World} {base B m o ck : Nat} {s : Bs} (h : DAt w base B m o ck s) (ht : Tch base ssObj w w') (hk : ∀ k o,B <= k -> w.heap[k]? = some o -> w'.heap[k]? = some o) : DAt w' base B m o ck s:=by
 rcases h with ⟨ha,w0,g,h1,h2,h3,h4,h5,h6⟩ | ⟨ha,qp,h⟩
 ·exact .inl ⟨ha,w0,g,h1,h2,h3,h4.trans ht,qat_up h5 ht.size (fun k o hk' ho => hk k o (by omega) ho),h6⟩
 ·exact .inr ⟨ha,qp,h.mc.of_ss ht,h.out.of_ss ht⟩
theorem binv0 : BInv bst0 0:=⟨good_start,by simp [bst0],by simp [bst0,mc0],by simp [bst0,mc0],by simp [bst0,mc0],by simp [bst0,mc0,ByteArray.size],by simp [bst0,mc0,ByteArray.size],by simp [bst0,mc0,ByteArray.size],Qt.qInv0,by simp [bst0,mc0]⟩
@[reducible] def brP : MachP where
 σ:=Bs
 x0:=bst0
 stp:=fun s b => (stepB s b).b
 ste:=fun s b => (stepB s b).e
 fin:=fun s => (endB s).b
 fne:=fun s => (endB s).e
 st:=fun s => s.st
 l:=fun s => s.l
 Inv:=BInv
 inv0:=binv0
 inv_step:=fun b h _ => binv_step h b
 len_step:=fun b h => (binv_step h b).ln
 inv_mono:=fun h hk => binv_mono h hk
 inv_len:=fun h => h.ln
@[reducible] def brM : Mach where
 toMachP:=brP
 T:=64
 fs:=253
 fe:=252
 hms:=fun a w => by kernel_rfl
 hme:=fun a w => by kernel_rfl
 efs:=fun args w => enters_of Tryz.func253 (by kernel_rfl) rfl args w
 efe:=fun args w => enters_of Tryz.func252 (by kernel_rfl) rfl args w
 num:=True
 raw:=fun w base m => MAt w base m mc0 (.pointer none)
 At:=DAt
 obj:=bObj
 nss:=fun cs t fr h hc => by
  simp only [bObj,tObj,mObj] at hc
  rcases h with rfl | rfl <;> exact absurd hc (by decide)
 raw_below:=fun h hb => h.below hb
 raw_lim:=fun h => h.lim
 start:=fun h hb0 hb h1 h2 ho => .inr ⟨show (0 : Int) ≠ 8 by decide,_,h.below hb,ho.dn (Nat.le_trans hb0 h1)⟩
 out:=fun h => h.out
 ss:=fun h ht hk => h.of_ss ht hk
 step_any:=fun w base B m o ck s b n h hi hn hBw hw hb => bstep_any w base B m o ck s b n h hi hn hBw (hw trivial) hb
 end_any:=fun w base B m o ck s n h hi hn hw hb => bend_any w base B m o ck s n h hi hn (hw trivial) hb
def bEv (bs : List UInt8) : List Ev:=(closeBs (feedG (ss0 brP) bs)).l
def bEr (bs : List UInt8) : Int:=closeE (feedG (ss0 brP) bs)
def bRd (bs : List UInt8) : Nat:=(feedG (ss0 brP) bs).rd
set_option maxHeartbeats 4000000 in
theorem bdecode_any0 (w : World) (v : Value) (bs : List UInt8) (hn : bs.length <= 90000) (hv : BRead w v bs) (hw : Nm.StdW w) (hfl : Fo.lim <= w.heap.size) (htk : Fo.tk = none) :
 Calls Tryz.prog 18 #[v] w fun e w' => ∃ lv,e = .returned (.tuple #[lv,.int .i64 (bEr bs),.int .i64 (bRd bs : Int)]) /\ ERow w' w.heap.size lv (bEv bs) /\ Below w.heap.size w w':=by
 have al : Below w.heap.size w (w.alloc (.cells (mCells mc0 (.slice none 0 0) (.pointer none)) 74)):=(Below.refl _ _).alloc (Nat.le_refl _) _
 have hM : MAt (w.alloc (.cells (mCells mc0 (.slice none 0 0) (.pointer none)) 74)) w.heap.size w.heap.size mc0 (.pointer none):=⟨⟨_,Blk.new _ _ _,ORow.nil _ _ _,NF.nil⟩,Nat.le_refl _,nf_new hfl,Nat.le_trans hfl al.size⟩
 have hC:=sdecode_any (M:=brM) _ w.heap.size w.heap.size v bs hM htk al.size hn (fun w' h => hv.below (al.trans h)) (fun _ => ⟨w,hw,Nat.le_refl _,al⟩)
 have HA:=Lib.hid al
 unfold DEnd at hC
 have hC : Calls Tryz.prog 34 #[.iface 64 (.pointer (some ⟨w.heap.size,0,none⟩)),v] (w.alloc (.cells (mCells mc0 (.slice none 0 0) (.pointer none)) 74)) fun e w' => ∃ lv,e = .returned (.tuple #[lv,.int .i64 (bEr bs),.int .i64 (bRd bs : Int)]) /\ ERow w' w.heap.size lv (bEv bs) /\ Below w.heap.size (w.alloc (.cells (mCells mc0 (.slice none 0 0) (.pointer none)) 74)) w':=hC
 generalize bEr bs = E at *
 obtain ⟨R,hR⟩ : ∃ R,(bRd bs : Int) = R:=⟨_,rfl⟩
 rw [hR] at hC ⊢
 generalize bEv bs = L at *
 clear hM al hw hv hR
 unfold mCells mc0 at hC
 go_enter Tryz.func18,Tryz.ntmps18
 go_wp2_with fail
 refine hC.mono ?_
 rintro e w1 ⟨lv,rfl,hRow,hb1⟩
 have HR:=Lib.hid hRow
 have HB:=Lib.hid (HA.out.trans hb1)
 clear hRow hb1 hC HA
 go_wp2
 go_ret3
 exact ⟨lv,rfl,HR.out,HB.out⟩
theorem bdecode_any (w : World) (v : Value) (bs : List UInt8) (hn : bs.length <= 90000) (hv : BRead w v bs) (hw : Nm.StdW w) (hfl : Fo.lim <= w.heap.size) :
 Calls Tryz.prog 18 #[v] w fun e w' => ∃ lv,e = .returned (.tuple #[lv,.int .i64 (bEr bs),.int .i64 (bRd bs : Int)]) /\ ERow w' w.heap.size lv (bEv bs) /\ Below w.heap.size w w' :=
 @bdecode_any0 (Fo.nt inferInstance) w v bs hn hv hw hfl rfl
end Go.Proofs.YtbnppjmmlfncmaaGreatDoor
namespace Go.Proofs.YtbnppjmmlfncmaaGreatDoor
open Go.RowKit Go.Maps
instance : DecidableEq Ev:=fun x y => decidable_of_iff (x.k = y.k /\ x.t = y.t /\ x.v = y.v) ⟨fun ⟨a,b,c⟩ => by cases x; cases y; simp_all,fun h => by subst h; exact ⟨rfl,rfl,rfl⟩⟩
theorem eq_ibeq {a b : Int} (h : a ≠ b) : (a == b) = false:=by rw [beq_eq_false_iff_ne]; exact h
theorem eq_ibne {a b : Int} (h : a ≠ b) : (a != b) = true:=by simp [bne,h]
theorem take_next {xs ys : List Ev} {j : Nat} (hx : j < xs.length) (hy : j < ys.length) (h : xs.take j = ys.take j) (he : xs[j] = ys[j]) : xs.take (j + 1) = ys.take (j + 1):=by
 rw [List.take_succ_eq_append_getElem hx,List.take_succ_eq_append_getElem hy,h,he]
theorem take_same {xs ys : List Ev} {j : Nat} (hl : xs.length = ys.length) (hj : ¬ j < xs.length) (h : xs.take j = ys.take j) : xs = ys:=by
 rwa [List.take_of_length_le (by omega),List.take_of_length_le (by omega)] at h
theorem diff_at {xs ys : List Ev} {j : Nat} (hx : j < xs.length) (hy : j < ys.length) (h : ¬ xs[j] = ys[j]) : decide (xs = ys) = false:=by
 rw [decide_eq_false_iff_not]
 intro e
 subst e
 exact h rfl
set_option maxHeartbeats 4000000 in
theorem esame_any (w : World) (va vb : Value) (xs ys : List Ev) (ha : ERead w va xs) (hb : ERead w vb ys) :
 Calls Tryz.prog 20 #[va,vb] w fun e w' => e = .returned (.bool (decide (xs = ys))) /\ Below w.heap.size w w':=by
 obtain ⟨A,c,rfl,hlc,hcm,hr⟩:=ha
 obtain ⟨A',c',rfl,hlc',hcm',hr'⟩:=hb
 have hcm2 : c <= 9223372036854775807:=by simpa [maxLen] using hcm
 have hcm2' : c' <= 9223372036854775807:=by simpa [maxLen] using hcm'
 by_cases hl : xs.length = ys.length
 case neg =>
  rw [decide_eq_false (fun h => hl (by rw [h]))]
  have z1:=eq_ibeq (a:=(xs.length : Int)) (b:=ys.length) (by omega)
  have z2:=eq_ibne (a:=(xs.length : Int)) (b:=ys.length) (by omega)
  clear hr hr' hl
  go_enter Tryz.func20,Tryz.ntmps20
  go_wp2
  go_ret
  exact ⟨rfl,Below.refl _ _⟩
 case pos =>
  have HL:=Lib.hid hl
  rw [<- hl]
  rw [<- hl] at hlc'
  clear hl
  obtain ⟨D,hD⟩ : ∃ D,decide (xs = ys) = D:=⟨_,rfl⟩
  rw [hD]
  have HDD:=Lib.hid hD
  clear hD
  go_enter Tryz.func20,Tryz.ntmps20
  go_wp2
  go_loopw [5] (fun i wr => ∃ j : Nat,j <= xs.length /\ i = .int .i64 (j : Int) /\ Hid (xs.take j = ys.take j) /\ Hid (Below w.heap.size w wr)) (fun i _ => xs.length - (intOf i).toNat)
  case atStart => exact ⟨0,Nat.zero_le _,rfl,Lib.hid rfl,Lib.hid (Below.refl _ _)⟩
  case round =>
   obtain ⟨j,hj,rfl,HP,HW⟩:=hrel
   by_cases hlt : j < xs.length
   case pos =>
    obtain ⟨b,o,rfl,hg⟩:=hr (by omega)
    obtain ⟨b',o',rfl,hg'⟩:=hr' (by rw [<- HL.out]; omega)
    have hlt' : j < ys.length:=by rw [<- HL.out]; exact hlt
    obtain ⟨g0,g1,g2⟩:=hg j hlt
    obtain ⟨k0,k1,k2⟩:=hg' j hlt'
    have HN:=Lib.hid (take_next hlt hlt' HP.out)
    have HD:=Lib.hid (diff_at hlt hlt')
    generalize xs[j] = x at *
    generalize ys[j] = y at *
    have g0:=(HW.out.cell (p:=⟨b,o + j * 3,none⟩) (cell_lt g0)).trans g0
    have g1:=(HW.out.cell (p:=⟨b,o + j * 3 + 1,none⟩) (cell_lt g1)).trans g1
    have g2:=(HW.out.cell (p:=⟨b,o + j * 3 + 2,none⟩) (cell_lt g2)).trans g2
    have k0:=(HW.out.cell (p:=⟨b',o' + j * 3,none⟩) (cell_lt k0)).trans k0
    have k1:=(HW.out.cell (p:=⟨b',o' + j * 3 + 1,none⟩) (cell_lt k1)).trans k1
    have k2:=(HW.out.cell (p:=⟨b',o' + j * 3 + 2,none⟩) (cell_lt k2)).trans k2
    have hne : ¬ x = y -> D = false:=fun h => HDD.out ▸ HD.out h
    have HNE:=Lib.hid hne
    clear hg hg' hr hr' hlt' hne HD
    by_cases hk : x.k = y.k
    case neg =>
     have HF:=Lib.hid (HNE.out fun e => hk (by rw [e]))
     clear HN HNE
     go_wp2
     go_region
     go_wp2
     go_ret
     exact ⟨(by rw [HF.out]; rfl),HW.out.trans (below_drew (Below.refl _ _) |>.mono HW.out.size)⟩
    case pos =>
     by_cases ht : x.t = y.t
     case neg =>
      have HF:=Lib.hid (HNE.out fun e => ht (by rw [e]))
      obtain ⟨z1,z2⟩:=str_diff ht
      clear HN HNE ht
      rw [<- hk] at k0
      clear hk
      go_wp2
      go_region
      go_wp2
      go_ret
      exact ⟨(by rw [HF.out]; rfl),HW.out.trans (below_drew (Below.refl _ _) |>.mono HW.out.size)⟩
     case pos =>
      by_cases hv : x.v = y.v
      case neg =>
       have HF:=Lib.hid (HNE.out fun e => hv (by rw [e]))
       obtain ⟨z1,z2⟩:=str_diff hv
       clear HN HNE hv
       rw [<- hk] at k0
       rw [<- ht] at k1
       clear hk ht
       go_wp2
       go_region
       go_wp2
       go_ret
       exact ⟨(by rw [HF.out]; rfl),HW.out.trans (below_drew (Below.refl _ _) |>.mono HW.out.size)⟩
      case pos =>
       have HE:=Lib.hid (HN.out (by cases x; cases y; simp_all))
       rw [<- hk] at k0
       rw [<- ht] at k1
       rw [<- hv] at k2
       clear hk ht hv HN HNE
       go_wp2
       go_region
       go_wp2
       go_roundw
       case rel => exact ⟨j + 1,by omega,by go_num,HE,Lib.hid (HW.out.trans (below_drew (Below.refl _ _) |>.mono HW.out.size))⟩
       case measure => simp [intOf]; omega
   case neg =>
    have HF:=Lib.hid (take_same HL.out hlt HP.out)
    have HG : D = true:=by rw [<- HDD.out,decide_eq_true HF.out]
    have HG:=Lib.hid HG
    clear hr hr' HF
    go_wp2
    go_ret
    exact ⟨(by rw [HG.out]; first | done | rfl),HW.out⟩
theorem seq_short : ∀ (l : List Nd) (b : Bool),(∀ m ∈ l,(inkN m).length + 1 <= sizeN m * 300) -> (inkL b l).length <= sizeL l * 300
 | [],b,_ => by simp [inkL]
 | n :: r,b,h => by
  have h1:=h n (by simp)
  have h2:=seq_short r false fun m hm => h m (by simp [hm])
  simp only [inkL,sizeL,List.length_append]
  have h3 : (if b = true then ([] : List UInt8) else [44]).length <= 1:=by split <;> simp
  omega
theorem ink_short (n : Nd) : gram n -> (inkN n).length + 1 <= sizeN n * 300:=by
 induction n using Nd.ind with
 | h k t v l ih =>
  intro hg
  have hs:=seq_short l true fun m hm => ih m hm (hg.kid hm)
  have hp:=prText_len t.data.toList
  have ht:=(formed_sz hg.head.1).1
  simp only [Nd.t] at ht
  have htl : t.data.toList.length = t.size:=by simp
  simp only [inkN,sizeN]
  repeat' split
  all_goals ((try simp only [List.length_cons,List.length_append,List.length_nil]); omega)
theorem mrun_run : ∀ (bs : List UInt8) (s : Bs),Br.mrun brP s bs = Br.runBs s bs
 | [],s => rfl
 | b :: r,s => by
  simp only [Br.mrun,Br.runBs]
  split
  ·exact mrun_run r _
  ·rfl
theorem dec_ink {n : Nd} (hm : mayN n = 0) (hb : srN badS nextS n .brc = none) : bEr (inkN n) = 0 /\ bRd (inkN n) = (inkN n).length /\ bEv (inkN n) = flat n:=by
 obtain ⟨s1,h1,h2,h3,h4⟩:=Br.brace_reads hm hb
 have hv:=may_value hm
 have h11 : n.k ≠ 11:=fun e => by rw [e] at hv; exact absurd hv (by decide)
 have hf:=Br.feed_run (M:=brP) (inkN n) (ss0 brP) Br.sc0 s1 rfl (Br.sc_ink n (may_gram hm) hb h11) ((mrun_run _ _).trans h1)
 unfold bEr bRd bEv
 rw [hf]
 refine ⟨?_,?_,?_⟩
 ·unfold closeE sendE
  simp only [Br.sc0,ne_eq,not_true_eq_false,if_false,if_true]
  exact h2
 ·simp [ss0]
 ·unfold closeBs endBs
  simp only [Br.sc0,ne_eq,not_true_eq_false,if_false,if_true]
  exact h3
theorem bread_of {w : World} {g c : Nat} {L : List UInt8} (h : ∀ j u,(L.map bV)[j]? = some u -> w.cell? ((⟨g,0,none⟩ : Addr).add j) = some u) : BRead w (.slice (some ⟨g,0,none⟩) L.length c) L :=
 ⟨_,c,rfl,fun _ => ⟨_,rfl,fun j hj => h j _ (by simp [List.getElem?_map,List.getElem?_eq_getElem hj,bV])⟩⟩
set_option maxHeartbeats 8000000 in
theorem walk_InkbraceRound (n : Nd) (A : Option Addr) (c : Nat) (ho : okW 140737488355328 n) (w : World) (hw : Nm.StdW w) (hA : NAt (fun b _ => b < w.heap.size) w n A c) :
 Calls Tryz.prog 6 #[.agg #[.int .i64 n.k,.string n.t,.string n.v,.slice A n.kids.length c]] w fun e w' => e = .returned (.bool true) /\ Below w.heap.size w w':=by
 have bX:=Blk.new w 24 #[.int .i64 n.k,.string n.t,.string n.v,.slice A n.kids.length c]
 have al1:=al_nd w #[.int .i64 n.k,.string n.t,.string n.v,.slice A n.kids.length c]
 have hL:=fun w' h => ilives_any w' h
 obtain ⟨W0,hW0⟩ : ∃ W0,w.alloc (.cells #[.int .i64 n.k,.string n.t,.string n.v,.slice A n.kids.length c] 24) = W0:=⟨_,rfl⟩
 rw [hW0] at bX al1
 have HX:=Lib.hid bX
 have HB:=Lib.hid al1
 have HA:=Lib.hid (hA.upp al1)
 obtain ⟨x0,x1,x2,x3⟩:=nbox bX
 have HF:=Lib.hid (ifew_any n _ A c W0 HA.out)
 have HK:=Lib.hid (ifew_ok ho (by omega))
 clear bX al1 hA
 go_enter Tryz.func6,Tryz.ntmps6
 go_wp2_with fail
 clear hW0
 refine HF.out.mono ?_
 rintro e w1 ⟨rfl,hb1⟩
 generalize decide (0 <= fewN n 200 20) = f1 at *
 have HX1:=Lib.hid (HX.out.below hb1 HX.out.lt)
 have HB1:=Lib.hid (HB.out.trans (hb1.mono HB.out.size))
 have HA1:=Lib.hid (HA.out.upp hb1)
 have hs1:=HB1.out.size
 clear hb1 HX HB HA HF x0 x1 x2 x3
 cases f1 with
 | false =>
  clear HK
  go_wp2_with fail
  refine (hL _ (hw.below HB1.out)).mono ?_
  rintro e w3 ⟨rfl,hb3⟩
  have HB3:=Lib.hid (HB1.out.trans (hb3.mono hs1))
  clear hb3
  go_wp2
  go_ret
  exact ⟨rfl,HB3.out⟩
 | true =>
  obtain ⟨hok,hsz⟩:=HK.out rfl
  obtain ⟨x0,x1,x2,x3⟩:=nbox HX1.out
  have hP:=inkprint_any n A c w1 (hw.below HB1.out) HA1.out hok (by omega) may_small
  unfold PrPost at hP
  have HPE : Hid (prE n = 0 -> mayN n = 0 /\ srN badS nextS n .brc = none):=Lib.hid fun h => by
   obtain ⟨h1,h2⟩:=pr_none h
   exact ⟨h1,by rw [ofP_brc] at h2; exact h2⟩
  have HPS : Hid (prE n = 0 -> prS n = inkN n):=Lib.hid fun h => by unfold prS; rw [if_pos h]
  generalize prP n = PP at *
  obtain ⟨E,hE⟩ : ∃ E,prE n = E:=⟨_,rfl⟩
  obtain ⟨L,hLs⟩ : ∃ L,prS n = L:=⟨_,rfl⟩
  rw [hE,hLs] at hP
  rw [hE] at HPE
  rw [hE,hLs] at HPS
  clear HK hE hLs ho
  by_cases h0 : E = 0
  case neg =>
   have z1:=ibne h0
   have z2:=ibeq h0
   clear h0 HPE HPS hok
   go_wp2_with fail
   refine hP.mono ?_
   rintro e w2 ⟨va,rfl,_,hb2⟩
   have HB2:=Lib.hid (HB1.out.trans (hb2.mono hs1))
   have hL2:=hL w2 (hw.below HB2.out)
   clear hb2 hP x0 x1 x2 x3
   go_wp2_with fail
   refine hL2.mono ?_
   rintro e w3 ⟨rfl,hb3⟩
   have HB3:=Lib.hid (HB2.out.trans (hb3.mono HB2.out.size))
   clear hb3
   go_wp2
   go_ret
   exact ⟨rfl,HB3.out⟩
  case pos =>
   subst h0
   obtain ⟨hm,hb⟩:=HPE.out rfl
   obtain rfl : L = inkN n:=HPS.out rfl
   have hsm:=may_small hm
   have hsh:=ink_short n (may_gram hm)
   obtain ⟨hd1,hd2,hd3⟩:=dec_ink hm hb
   have HDec : Hid (∀ w v,Nm.StdW w -> BRead w v (inkN n) -> Calls Tryz.prog 18 #[v] w fun e w' => ∃ lv,e = .returned (.tuple #[lv,.int .i64 0,.int .i64 ((⟨(inkN n).toArray⟩ : ByteArray).size : Int)]) /\ ERow w' w.heap.size lv (flat n) /\ Below w.heap.size w w'):=Lib.hid fun w v hw hv => by
    have:=bdecode_any w v (inkN n) (by omega) hv hw (Nat.zero_le _)
    rw [hd1,hd2,hd3] at this
    rw [sizeOf_]
    exact this
   have HWk : Hid (∀ w,NAt (fun b _ => b < w.heap.size) w n A c -> Calls Tryz.prog 19 #[.agg #[.int .i64 n.k,.string n.t,.string n.v,.slice A n.kids.length c]] w fun e w' => ∃ lv,e = .returned (.tuple #[lv,.int .i64 0]) /\ Below w.heap.size w w' /\ ERow w' w.heap.size lv (flat n)):=Lib.hid fun w h => by
    have:=rwalk_any n A c w hsm (by omega) h
    rw [hm] at this
    refine this.mono ?_
    rintro e w' ⟨lv,h1,h2,_,h4⟩
    exact ⟨lv,h1,h2,h4 rfl⟩
   have HBy : Hid (∀ w,∃ c w',(convert 9 39 (.string ⟨(inkN n).toArray⟩)).run Tryz.prog w = .ok (.slice (some ⟨w.heap.size,0,none⟩) (inkN n).length c) w' /\ BRead w' (.slice (some ⟨w.heap.size,0,none⟩) (inkN n).length c) (inkN n) /\ Below w.heap.size w w'):=Lib.hid fun w => by
    obtain ⟨c,w',h1,h2,h3⟩:=Qt.bytes_of w (inkN n)
    exact ⟨c,w',h1,bread_of h2,h3⟩
   clear hd1 hd2 hd3 hm hb hsm hsh HPE HPS hok hsz
   generalize flat n = FL at *
   generalize inkN n = IN at *
   go_wp2_with fail
   refine hP.mono ?_
   rintro e w2 ⟨va,rfl,_,hb2⟩
   have HX2:=Lib.hid (HX1.out.below hb2 HX1.out.lt)
   have HB2:=Lib.hid (HB1.out.trans (hb2.mono hs1))
   have HA2:=Lib.hid (HA1.out.upp hb2)
   obtain ⟨cc,w3,hconv,hbr,hb3⟩:=HBy.out w2
   have HX3:=Lib.hid (HX2.out.below hb3 HX2.out.lt)
   have HB3:=Lib.hid (HB2.out.trans (hb3.mono HB2.out.size))
   have HA3:=Lib.hid (HA2.out.upp hb3)
   have hD:=HDec.out w3 _ (hw.below HB3.out) hbr
   clear hb2 hb3 hbr hP HX1 HB1 HA1 hs1 x0 x1 x2 x3 HBy HDec HX2 HA2
   go_wp2_with fail
   refine hD.mono ?_
   rintro e w4 ⟨lv,rfl,hR4,hb4⟩
   have HX4:=Lib.hid (HX3.out.below hb4 HX3.out.lt)
   have HB4:=Lib.hid (HB3.out.trans (hb4.mono HB3.out.size))
   have HA4:=Lib.hid (HA3.out.upp hb4)
   have HR4:=Lib.hid hR4.read
   have hW:=HWk.out w4 HA4.out
   obtain ⟨x0,x1,x2,x3⟩:=nbox HX4.out
   clear hb4 hR4 hD hconv HX3 HB3 HA3 HWk
   go_wp2_with fail
   refine hW.mono ?_
   rintro e w5 ⟨lw,rfl,hb5,hR5⟩
   have HB5:=Lib.hid (HB4.out.trans (hb5.mono HB4.out.size))
   have hS:=esame_any w5 lv lw FL FL (HR4.out.below hb5) hR5.read
   rw [show decide (FL = FL) = true from decide_eq_true rfl] at hS
   clear hb5 hR5 hW HR4 HX4 HB4 HA4 x0 x1 x2 x3
   go_wp2_with fail
   refine hS.mono ?_
   rintro e w6 ⟨rfl,hb6⟩
   have HB6:=Lib.hid (HB5.out.trans (hb6.mono HB5.out.size))
   have hL6:=hL w6 (hw.below HB6.out)
   clear hb6 hS hL
   go_wp2_with fail
   refine hL6.mono ?_
   rintro e w7 ⟨rfl,hb7⟩
   have HB7:=Lib.hid (HB6.out.trans (hb7.mono HB6.out.size))
   clear hb7 hL6
   go_wp2
   go_ret
   exact ⟨rfl,HB7.out⟩
open Go.RowKit Go.ChangeShapes Go.WideShapes Go.Deep
theorem own : ownKnob Tryz.prog.godebug = none:=by kernel_rfl
theorem laidOut : laidOutB Tryz.prog = true:=by kernel_rfl
def laidL : List (String × DataW Unit) := [("math/bits.deBruijn32tab", Rows.laid_math_bits_deBruijn32tab), ("math/bits.deBruijn64tab", Rows.laid_math_bits_deBruijn64tab), ("internal/strconv.uint64pow10", Rows.laid_internal_strconv_uint64pow10), ("unicode/utf8.acceptRanges", Rows.laid_unicode_utf8_acceptRanges), ("strconv.ErrRange", Rows.laid_strconv_ErrRange), ("strconv.ErrSyntax", Rows.laid_strconv_ErrSyntax), ("unicode/utf8.first", Rows.laid_unicode_utf8_first)]
theorem laidL_eq : laidL = [("math/bits.deBruijn32tab", Rows.laid_math_bits_deBruijn32tab), ("math/bits.deBruijn64tab", Rows.laid_math_bits_deBruijn64tab), ("internal/strconv.uint64pow10", Rows.laid_internal_strconv_uint64pow10), ("unicode/utf8.acceptRanges", Rows.laid_unicode_utf8_acceptRanges), ("strconv.ErrRange", Rows.laid_strconv_ErrRange), ("strconv.ErrSyntax", Rows.laid_strconv_ErrSyntax), ("unicode/utf8.first", Rows.laid_unicode_utf8_first)] := rfl
theorem laid_met (os : Os) (args : Array Value) : laidMetH Tryz.prog laidL ((World.laidAll Tryz.prog os laidL).forCall (fun _ _ => 0) ⟨#[],args,[]⟩).memory:=by
 rw [MakeChecks.laidMetH_plain _ _ _ (by kernel_rfl)]
 exact laidMet_laidAll _ (by kernel_rfl) (by kernel_rfl)
theorem shapedW (os : Os) (args : Array Value) : ((World.laidAll Tryz.prog os laidL).forCall (fun _ _ => 0) ⟨#[],args,[]⟩).Shaped Tryz.prog :=
 World.shaped_of_ZipB (by kernel_rfl) (by kernel_rfl)
theorem pow_data : (Rows.laid_internal_strconv_uint64pow10 : DataW Unit) = Lib.tabData .u64 Lib.pow10Tab:=by kernel_rfl
theorem tPow : (Tryz.prog.globals[5]?).map (·.type) = some 233:=by kernel_rfl
theorem tRange : (Tryz.prog.globals[2]?).map (·.type) = some 95:=by kernel_rfl
theorem star : "*" ++ "errors.errorString" = "*errors.errorString" := by decide
theorem row_err (u : TypeId) (h : Tryz.prog.typeName? 3 u = some "*errors.errorString") : u = 237 :=
 typeName_ptr_named (nm := "errors.errorString") (by rw [star]; kernel_rfl) (by kernel_rfl) (by decide) u (by rw [star]; exact h)
theorem std_of {W : World} (hL : laidMetH Tryz.prog laidL W) (hsh : W.ShapedOpen Tryz.prog) : Nm.StdW W:=by
 rw [MakeChecks.laidMetH_plain _ _ _ (by kernel_rfl),laidL_eq] at hL
 refine ⟨Tryz.laysM145.s1_3 W hsh,?_,?_⟩
 ·have h5:=hL.tail.tail.tail.tail
  unfold Rows.laid_strconv_ErrRange at h5
  obtain ⟨a,s,h,_⟩:=laid_sentinel h5 Nm.gRange tRange Tryz.underlying95 row_err Tryz.underlying237 Tryz.underlying239 rfl rfl Tryz.underlying9 (by kernel_rfl) (by kernel_rfl)
  exact ⟨_,_,h⟩
 ·have h3:=hL.tail.tail
  rw [pow_data] at h3
  exact Lib.tabIs_of_head Nm.gPow tPow Tryz.underlying233 Tryz.underlying210 (by kernel_rfl) (by kernel_rfl) h3
theorem sized_node {H : Type} {ts : List TypeId} {ds : List (DataW H)} (h : (DataW.weightsEach Tryz.prog ts ds).all (· <= reachBytes) = true) {j : Nat} {d : DataW H} (ht : ts[j]? = some 24) (hd : ds[j]? = some d) : ∀ k ∈ d.weights Tryz.prog 24,k <= 140737488355328:=by
 intro k hk
 have:=of_decide_eq_true (List.all_eq_true.1 h _ (DataW.weights_mem_each ht hd _ hk))
 simp [reachBytes] at this
 omega
end Go.Proofs.YtbnppjmmlfncmaaGreatDoor

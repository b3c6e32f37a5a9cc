/-
  brace: words and numbers.
  brace: where a word and a string begin.
  brace: value, behind, mark.
  brace: mark, a byte outside of words and strings, Step and End.
-/
import Derived.Test.YtbnppjmmlfncmaaGreatDoorIrA37
set_option maxRecDepth 100000
set_option linter.unusedSimpArgs false
set_option linter.unusedSectionVars false
namespace Go.Proofs.YtbnppjmmlfncmaaGreatDoor
open Go.RowKit Go.Maps
variable [Fo]
set_option maxHeartbeats 4000000 in
theorem letter_any (w : World) (base m o ck : Nat) (s : Bs) (qp : Value) (b : UInt8) (h : BAt w base m o ck s qp) (hrs : 0 < s.m.rs.size) (hr4 : s.m.rs.size <= 4) (het : s.m.et.size <= 48) (hg : Good s.st) (hl : s.l.length <= 1000000) (hw : SW base w) (hb : base <= w.heap.size) :
 Calls Tryz.prog 256 #[.pointer (some ⟨m,0,none⟩),.int .u8 (b.toNat : Int),.pointer (some ⟨o,0,none⟩)] w (BPo w base m o ck qp (letterB s b)):=by
 obtain ⟨⟨a,op,ek,et,ev,rs,nm,q⟩,st,l⟩:=s
 simp only at hrs hr4 het hg hl
 obtain ⟨ov,hB,hR,_⟩:=h.mc.ex
 have c5 : w.cell? ⟨m,5,none⟩ = some (.string rs):=hB.cell 5
 have f5:=hB.frozen 5
 have f0:=hB.frozen 0
 have c0 : w.cell? ⟨m,0,none⟩ = some (.int .i64 a):=hB.cell 0
 have hml:=hB.lt
 have hhd : rs.data.toList.head? = some rs[0]:=by
  rw [List.head?_eq_getElem?,Array.getElem?_toList,Array.getElem?_eq_getElem]
  rfl
 unfold letterB
 simp only [hhd]
 by_cases hbr : rs[0] = b
 case neg =>
  have z1 : ((b.toNat : Int) != (rs[0].toNat : Int)) = true:=by
   rw [bne_iff_ne]; intro e; exact hbr (UInt8.toNat_inj.1 (by omega))
  rw [if_neg (by simpa using hbr)]
  have HH:=Lib.hid h
  clear h hB hR hhd hbr
  go_enter Tryz.func256,Tryz.ntmps256
  go_wp2
  go_ret
  exact ⟨rfl,HH.out,Tch.refl _ _ _⟩
 case pos =>
  rw [if_pos (by rw [hbr])]
  have z1 : ((b.toNat : Int) != (rs[0].toNat : Int)) = false:=by rw [hbr]; simp
  have hsz : (rs.extract 1 rs.size).size = rs.size - 1:=by simp [ByteArray.size_extract]
  have hM1:=h.mc.set 5 (.string (rs.extract 1 rs.size)) (M':=⟨a,op,ek,et,ev,rs.extract 1 rs.size,nm,q⟩) (qp':=qp) (fun ov => rfl) rfl
  have ht1:=(h.mc.touch 5 (.string (rs.extract 1 rs.size))).wide fun _ => mo_of
  by_cases h1 : rs.size = 1
  case neg =>
   rw [if_neg h1]
   have he : (rs.extract 1 rs.size).toList.isEmpty = false:=by
    rw [Bool.eq_false_iff]
    intro e
    have h3:=List.isEmpty_iff.1 e
    have h4 : (rs.extract 1 rs.size).size = 0:=by
     have h5:=congrArg List.length h3
     rw [Lib.toList_data,Array.length_toList] at h5
     exact h5
    omega
   have hO:=h.out.of_m ht1
   have HF:=Lib.hid (And.intro (BAt.mk hM1 hO : BAt _ base m o ck ⟨⟨a,op,ek,et,ev,rs.extract 1 rs.size,nm,q⟩,st,l⟩ qp) (ht1.wide fun _ => m_of_b))
   clear h hB hR hhd hbr hM1 ht1 hO hg hw hsz h1
   go_enter Tryz.func256,Tryz.ntmps256
   go_wp2
   go_ret
   exact ⟨rfl,HF.out.1,HF.out.2⟩
  case pos =>
   rw [if_pos h1]
   have he : (rs.extract 1 rs.size).toList.isEmpty = true:=by
    rw [List.isEmpty_iff]
    apply List.eq_nil_of_length_eq_zero
    rw [Lib.toList_data,Array.length_toList]
    show (rs.extract 1 rs.size).size = 0
    omega
   have c2 : w.cell? ⟨m,2,none⟩ = some (.int .i64 ek):=hB.cell 2
   have c3 : w.cell? ⟨m,3,none⟩ = some (.string et):=hB.cell 3
   have c4 : w.cell? ⟨m,4,none⟩ = some (.string ev):=hB.cell 4
   have hM2:=hM1.set 0 (.int .i64 5) (M':=⟨5,op,ek,et,ev,rs.extract 1 rs.size,nm,q⟩) (qp':=qp) (fun ov => rfl) rfl
   have ht2:=ht1.trans ((hM1.touch 0 (.int .i64 5)).wide fun _ => mo_of)
   have HT:=Lib.hid (tell_any _ base o ck st l ⟨ek,et,ev⟩ (h.out.of_m ht2) hg (NumW.of (hw.tch ht2 hb).std) (by simp only; omega) hl (Nat.le_trans hb ht2.size))
   have HF:=Lib.hid (fun e w' (hp : TellPost _ base o ck st l ⟨ek,et,ev⟩ e w') => told (s:=⟨⟨a,op,ek,et,ev,rs,nm,q⟩,st,l⟩) (x:=⟨ek,et,ev⟩) hM2 hp ht2)
   clear h hB hR hhd hbr hM1 ht1 hM2 ht2 hg hw hsz h1
   go_enter Tryz.func256,Tryz.ntmps256
   go_wp2_with fail
   refine HT.out.mono ?_
   intro e w5 hp
   have hq:=HF.out e w5 hp
   obtain ⟨rfl,_⟩:=hp
   go_wp2
   go_ret
   exact hq
theorem digit_anyB (w : World) (base m o ck : Nat) (s : Bs) (qp : Value) (b : UInt8) (h : BAt w base m o ck s qp) (hn : s.m.nm.size <= 1000) :
 Calls Tryz.prog 259 #[.pointer (some ⟨m,6,none⟩),.int .u8 (b.toNat : Int)] w (BPo w base m o ck qp (digitB s b)):=by
 obtain ⟨⟨a,op,ek,et,ev,rs,nm,q⟩,st,l⟩:=s
 simp only at hn
 obtain ⟨ov,hB,hR,_⟩:=h.mc.ex
 have hT:=tadd_any w m 6 nm b (hB.cell 6) (hB.frozen 6) hB.lt hn
 unfold digitB
 simp only
 refine hT.mono ?_
 intro e w1 hp
 by_cases h30 : 30 <= nm.size
 ·rw [if_pos h30] at hp ⊢
  obtain ⟨rfl,rfl⟩:=hp
  exact ⟨rfl,h,Tch.refl _ _ _⟩
 ·rw [if_neg h30] at hp ⊢
  obtain ⟨rfl,al⟩:=hp
  have hM0:=h.mc.set 6 (.string (nm ++ ⟨#[b]⟩)) (M':=⟨a,op,ek,et,ev,rs,nm ++ ⟨#[b]⟩,q⟩) (qp':=qp) (fun ov => rfl) rfl
  have ht0:=(h.mc.touch 6 (.string (nm ++ ⟨#[b]⟩))).wide fun _ => mo_of
  have ht1:=ht0.trans (Tch.of_below (base:=base) (p:=mObj) al)
  exact ⟨rfl,⟨hM0.below al,h.out.of_m ht1⟩,ht1.wide fun _ => m_of_b⟩
set_option maxHeartbeats 4000000 in
theorem endNum_any (w : World) (base m o ck : Nat) (s : Bs) (qp : Value) (h : BAt w base m o ck s qp) (hn : s.m.nm.size <= 1000) (hg : Good s.st) (hl : s.l.length <= 1000000) (hw : SW base w) (hb : base <= w.heap.size) :
 Calls Tryz.prog 255 #[.pointer (some ⟨m,0,none⟩),.pointer (some ⟨o,0,none⟩)] w (BPo w base m o ck qp (endNumB s)):=by
 obtain ⟨⟨a,op,ek,et,ev,rs,nm,q⟩,st,l⟩:=s
 simp only at hn hg hl
 obtain ⟨ov,hB,hR,_⟩:=h.mc.ex
 have hml:=hB.lt
 have hM0:=h.mc.set 6 (.string ⟨#[]⟩) (M':=⟨a,op,ek,et,ev,rs,⟨#[]⟩,q⟩) (qp':=qp) (fun ov => rfl) rfl
 have ht0:=(h.mc.touch 6 (.string ⟨#[]⟩)).wide fun _ => mo_of
 have hb0:=Nat.le_trans hb ht0.size
 have hEnd:=tend_any w m 6 nm (hB.cell 6) (hB.frozen 6) hB.lt hn (hw.tch ht0 hb).std
 unfold endNumB
 simp only
 have hsz : (endS nm).size <= 1000:=Nat.le_trans (endS_size _) (by decide)
 generalize endC nm = c at *
 generalize endS nm = f at *
 have HE:=Lib.hid hEnd
 have HM:=Lib.hid hM0
 have HO:=Lib.hid (h.out.of_m ht0)
 have HT0:=Lib.hid ht0
 have HSW:=Lib.hid (hw.tch ht0 hb)
 clear hEnd hM0 ht0 h hB hR hw
 by_cases hc : c = 0
 case neg =>
  rw [if_pos hc]
  have z1 : (c == 0) = false:=by rw [beq_eq_false_iff_ne]; exact hc
  have z2 : (c != 0) = true:=by simp [bne,z1]
  clear hc
  go_enter Tryz.func255,Tryz.ntmps255
  go_wp2_with fail
  refine HE.out.mono ?_
  rintro e w1 ⟨rfl,hb1⟩
  have HF : Hid (BAt w1 base m o ck ⟨⟨a,op,ek,et,ev,rs,⟨#[]⟩,q⟩,st,l⟩ qp):=Lib.hid ⟨HM.out.below hb1,HO.out.tch (p:=fun _ => False) (Tch.of_below hb1) (fun _ _ _ _ => id) (fun _ _ => id)⟩
  have HT:=Lib.hid ((HT0.out.wide fun _ => m_of_b).trans (Tch.of_below (base:=base) (p:=bObj) hb1))
  clear hb1 HE
  go_wp2
  go_ret
  exact ⟨rfl,HF.out,HT.out⟩
 case pos =>
  subst hc
  rw [if_neg (by simp)]
  go_enter Tryz.func255,Tryz.ntmps255
  go_wp2_with fail
  refine HE.out.mono ?_
  rintro e w1 ⟨rfl,hb1⟩
  have hM1:=HM.out.below hb1
  have ht0:=HT0.out.trans (Tch.of_below (base:=base) (p:=mObj) hb1)
  have hO1:=HO.out.of_m (Tch.of_below (base:=base) (p:=mObj) hb1)
  have hM2:=hM1.set 0 (.int .i64 5) (M':=⟨5,op,ek,et,ev,rs,⟨#[]⟩,q⟩) (qp':=qp) (fun ov => rfl) rfl
  have ht2:=(hM1.touch 0 (.int .i64 5)).wide fun _ => mo_of
  have hb2 : base <= w1.heap.size:=Nat.le_trans hb0 hb1.size
  have HT:=Lib.hid (tell_any _ base o ck st l ⟨3,f,⟨#[]⟩⟩ (hO1.of_m ht2) hg (NumW.of ((HSW.out.below (hb1.mono hb0)).tch ht2 hb2).std) (by simp only; omega) hl (Nat.le_trans hb2 ht2.size))
  have HF:=Lib.hid (fun e w' (hp : TellPost _ base o ck st l ⟨3,f,⟨#[]⟩⟩ e w') => told (s:=⟨⟨a,op,ek,et,ev,rs,nm,q⟩,st,l⟩) (x:=⟨3,f,⟨#[]⟩⟩) hM2 hp (ht0.trans ht2))
  obtain ⟨ov,hB,_⟩:=hM1.ex
  have f0:=hB.frozen 0
  have c0 : w1.cell? ⟨m,0,none⟩ = some (.int .i64 a):=hB.cell 0
  have hml1:=hB.lt
  clear hB hM1 ht0 hO1 hM2 ht2 hb1 HE HM HO HT0 HSW
  go_wp2_with fail
  refine HT.out.mono ?_
  intro e w5 hp
  have hq:=HF.out e w5 hp
  obtain ⟨rfl,_⟩:=hp
  go_wp2
  go_ret
  exact hq
end Go.Proofs.YtbnppjmmlfncmaaGreatDoor
namespace Go.Proofs.YtbnppjmmlfncmaaGreatDoor
open Go.RowKit Go.Maps
variable [Fo]
def SAt (w : World) (base B m o ck : Nat) (s : Bs) : Prop :=
 ∃ w0 g,MAt w0 base m s.m (.pointer (some ⟨g,0,none⟩)) /\ OAt w0 base o ck s.st s.l /\ w0.heap.size = g /\ Tch base ssObj w0 w /\ Qt.QAt w g s.m.q /\ B <= g
def DAt (w : World) (base B m o ck : Nat) (s : Bs) : Prop:=(s.m.a = 8 /\ SAt w base B m o ck s) \/ (s.m.a ≠ 8 /\ ∃ qp,BAt w base m o ck s qp)
def DPo (w : World) (base B m o ck : Nat) (r : Br) (e : Ending) (w' : World) : Prop :=
 e = .returned (.int .i64 r.e) /\ DAt w' base B m o ck r.b /\ Tch base bObj w w'
theorem BPo.d {w w' : World} {base B m o ck : Nat} {qp : Value} {r : Br} {e : Ending} (h : BPo w base m o ck qp r e w') (ha : r.b.m.a ≠ 8) : DPo w base B m o ck r e w':=⟨h.1,.inr ⟨ha,_,h.2.1⟩,h.2.2⟩
theorem set_both {B : Nat} {w w1 : World} (h : Below B w w1) (p : Addr) (u : Value) : Below B (w.setCell p u) (w1.setCell p u):=by
 refine ⟨h.os,h.tape,h.output,by simpa [World.setCell] using h.size,fun k hk => ?_⟩
 by_cases e : k = p.block
 ·subst e
  have:=h.block p.block hk
  simp [World.setCell,Array.getElem?_modify,this]
 ·rw [Below.heap_setCell w1 p u k e,Below.heap_setCell w p u k e]
  exact h.block k hk
theorem qat_far {w : World} {g m i : Nat} {q : Qt.QS} (h : Qt.QAt w g q) (hm : m < g) (u : Value) : Qt.QAt (w.setCell ⟨m,i,none⟩ u) g q:=by
 obtain ⟨d,n,⟨v,hB,hR,h1,h2,h3⟩,hq⟩:=h
 refine ⟨d,n,⟨v,hB.far (p:=⟨m,i,none⟩) (by simp; omega) u,?_,h1,h2,by simpa [World.setCell] using h3⟩,hq⟩
 exact hR.kept_far (only_setCell (p:=⟨m,i,none⟩) (World.grownBy.refl w (some m)) (.inl rfl) u) (by omega)
set_option maxHeartbeats 4000000 in
theorem beginString_any (w : World) (base B m o ck : Nat) (s : Bs) (qp : Value) (k : Int) (h : BAt w base m o ck s qp) (hBw : B <= w.heap.size) :
 Calls Tryz.prog 254 #[.pointer (some ⟨m,0,none⟩),.int .i64 k] w fun e w' => e = .returned (.tuple #[]) /\ SAt w' base B m o ck (stringB s k).b /\ Tch base bObj w w':=by
 obtain ⟨⟨a,op,ek,et,ev,rs,nm,q⟩,st,l⟩:=s
 obtain ⟨ov,hB,hR,_⟩:=h.mc.ex
 have hN:=Qt.qnew_any w h.mc.lim
 have hml:=hB.lt
 have HH:=Lib.hid h
 clear h
 have HBB:=Lib.hid hB
 clear hB hR
 go_enter Tryz.func254,Tryz.ntmps254
 go_wp2_with fail
 refine hN.mono ?_
 rintro e w1 ⟨rfl,hQ,hb1⟩
 have hB1:=HBB.out.below hb1 HBB.out.lt
 have d0 : w1.cell? ⟨m,0,none⟩ = some (.int .i64 a):=hB1.cell 0
 have d2 : w1.cell? ⟨m,2,none⟩ = some (.int .i64 ek):=hB1.cell 2
 have d3 : w1.cell? ⟨m,3,none⟩ = some (.string et):=hB1.cell 3
 have d4 : w1.cell? ⟨m,4,none⟩ = some (.string ev):=hB1.cell 4
 have d7 : w1.cell? ⟨m,7,none⟩ = some qp:=hB1.cell 7
 have f0:=hB1.frozen 0
 have f2:=hB1.frozen 2
 have f3:=hB1.frozen 3
 have f4:=hB1.frozen 4
 have f7:=hB1.frozen 7
 have hl1:=hB1.lt
 have HQ:=Lib.hid hQ
 have HB1:=Lib.hid hb1
 have hl1g:=hQ.lt
 clear hB1 hQ hb1
 go_wp2
 go_end0
 refine ⟨rfl,?_,?_⟩
 ·have s1:=HH.out.mc.set 0 (.int .i64 8) (M':=⟨8,op,ek,et,ev,rs,nm,q⟩) (qp':=qp) (fun ov => rfl) rfl
  have s2:=s1.set 2 (.int .i64 k) (M':=⟨8,op,k,et,ev,rs,nm,q⟩) (qp':=qp) (fun ov => rfl) rfl
  have s3:=s2.set 3 (.string ⟨#[]⟩) (M':=⟨8,op,k,⟨#[]⟩,ev,rs,nm,q⟩) (qp':=qp) (fun ov => rfl) rfl
  have s4:=s3.set 4 (.string ⟨#[]⟩) (M':=⟨8,op,k,⟨#[]⟩,⟨#[]⟩,rs,nm,q⟩) (qp':=qp) (fun ov => rfl) rfl
  have s5:=s4.set 7 (.pointer (some ⟨w.heap.size,0,none⟩)) (M':=⟨8,op,k,⟨#[]⟩,⟨#[]⟩,rs,nm,Qt.plainQ []⟩) (qp':=.pointer (some ⟨w.heap.size,0,none⟩)) (fun ov => rfl) rfl
  have ht:=((((HH.out.mc.touch 0 (.int .i64 8)).trans (s1.touch 2 (.int .i64 k))).trans (s2.touch 3 (.string ⟨#[]⟩))).trans (s3.touch 4 (.string ⟨#[]⟩))).trans (s4.touch 7 (.pointer (some ⟨w.heap.size,0,none⟩)))
  have hb:=set_both (set_both (set_both (set_both (set_both HB1.out ⟨m,0,none⟩ (.int .i64 8)) ⟨m,2,none⟩ (.int .i64 k)) ⟨m,3,none⟩ (.string ⟨#[]⟩)) ⟨m,4,none⟩ (.string ⟨#[]⟩)) ⟨m,7,none⟩ (.pointer (some ⟨w.heap.size,0,none⟩))
  refine ⟨_,w.heap.size,s5,HH.out.out.of_m (ht.wide fun _ => mo_of),by simp [World.setCell],Tch.of_below ?_,?_,hBw⟩
  ·simpa [World.setCell] using hb
  ·exact qat_far (qat_far (qat_far (qat_far (qat_far HQ.out hml _) hml _) hml _) hml _) hml _
 ·have hM1:=HH.out.mc.below HB1.out
  have s1:=hM1.set 0 (.int .i64 8) (M':=⟨8,op,ek,et,ev,rs,nm,q⟩) (qp':=qp) (fun ov => rfl) rfl
  have s2:=s1.set 2 (.int .i64 k) (M':=⟨8,op,k,et,ev,rs,nm,q⟩) (qp':=qp) (fun ov => rfl) rfl
  have s3:=s2.set 3 (.string ⟨#[]⟩) (M':=⟨8,op,k,⟨#[]⟩,ev,rs,nm,q⟩) (qp':=qp) (fun ov => rfl) rfl
  have s4:=s3.set 4 (.string ⟨#[]⟩) (M':=⟨8,op,k,⟨#[]⟩,⟨#[]⟩,rs,nm,q⟩) (qp':=qp) (fun ov => rfl) rfl
  have ht:=((((hM1.touch 0 (.int .i64 8)).trans (s1.touch 2 (.int .i64 k))).trans (s2.touch 3 (.string ⟨#[]⟩))).trans (s3.touch 4 (.string ⟨#[]⟩))).trans (s4.touch 7 (.pointer (some ⟨w.heap.size,0,none⟩)))
  exact (Tch.of_below HB1.out).trans (ht.wide fun _ h => m_of_b (mo_of h))
set_option maxHeartbeats 4000000 in
theorem beginWord_any (w : World) (base m o ck : Nat) (s : Bs) (qp : Value) (k : Int) (t r : ByteArray) (h : BAt w base m o ck s qp) :
 Calls Tryz.prog 277 #[.pointer (some ⟨m,0,none⟩),.agg #[.int .i64 k,.string t,.string ⟨#[]⟩],.string r] w fun e w' => e = .returned (.tuple #[]) /\ BAt w' base m o ck (wordB s k t r).b qp /\ Tch base bObj w w':=by
 obtain ⟨⟨a,op,ek,et,ev,rs,nm,q⟩,st,l⟩:=s
 obtain ⟨ov,hB,hR,_⟩:=h.mc.ex
 have hml:=hB.lt
 have d0 : w.cell? ⟨m,0,none⟩ = some (.int .i64 a):=hB.cell 0
 have d2 : w.cell? ⟨m,2,none⟩ = some (.int .i64 ek):=hB.cell 2
 have d3 : w.cell? ⟨m,3,none⟩ = some (.string et):=hB.cell 3
 have d4 : w.cell? ⟨m,4,none⟩ = some (.string ev):=hB.cell 4
 have d5 : w.cell? ⟨m,5,none⟩ = some (.string rs):=hB.cell 5
 have f0:=hB.frozen 0
 have f2:=hB.frozen 2
 have f3:=hB.frozen 3
 have f4:=hB.frozen 4
 have f5:=hB.frozen 5
 have HH:=Lib.hid h
 clear h hB hR
 go_enter Tryz.func277,Tryz.ntmps277
 go_wp2
 go_region
 go_wp2
 go_end0
 have s1:=HH.out.mc.set 0 (.int .i64 6) (M':=⟨6,op,ek,et,ev,rs,nm,q⟩) (qp':=qp) (fun ov => rfl) rfl
 have s2:=s1.set 2 (.int .i64 k) (M':=⟨6,op,k,et,ev,rs,nm,q⟩) (qp':=qp) (fun ov => rfl) rfl
 have s3:=s2.set 3 (.string t) (M':=⟨6,op,k,t,ev,rs,nm,q⟩) (qp':=qp) (fun ov => rfl) rfl
 have s4:=s3.set 4 (.string ⟨#[]⟩) (M':=⟨6,op,k,t,⟨#[]⟩,rs,nm,q⟩) (qp':=qp) (fun ov => rfl) rfl
 have s5:=s4.set 5 (.string r) (M':=⟨6,op,k,t,⟨#[]⟩,r,nm,q⟩) (qp':=qp) (fun ov => rfl) rfl
 have ht:=((((HH.out.mc.touch 0 (.int .i64 6)).trans (s1.touch 2 (.int .i64 k))).trans (s2.touch 3 (.string t))).trans (s3.touch 4 (.string ⟨#[]⟩))).trans (s4.touch 5 (.string r))
 have hO:=HH.out.out.of_m (ht.wide fun _ => mo_of)
 generalize ((((w.setCell ⟨m,0,none⟩ (.int .i64 6)).setCell ⟨m,2,none⟩ (.int .i64 k)).setCell ⟨m,3,none⟩ (.string t)).setCell ⟨m,4,none⟩ (.string ⟨#[]⟩)).setCell ⟨m,5,none⟩ (.string r) = W at *
 have al : Below W.heap.size W (W.alloc (.cells #[.int .i64 k,.string t,.string ⟨#[]⟩] 67)).drew:=below_drew ((Below.refl _ _).alloc (Nat.le_refl _) _)
 have h0:=Tch.of_below (base:=base) (p:=fun _ => False) al
 exact ⟨rfl,⟨s5.below al,hO.tch h0 (fun _ _ _ _ => id) (fun _ _ => id)⟩,(ht.wide fun _ h => m_of_b (mo_of h)).trans (h0.wide fun _ h => h.elim)⟩
end Go.Proofs.YtbnppjmmlfncmaaGreatDoor
namespace Go.Proofs.YtbnppjmmlfncmaaGreatDoor
open Go.RowKit Go.Maps
variable [Fo]
theorem dd_of_b {w : World} {base B m o ck : Nat} {s : Bs} {qp : Value} (h : BAt w base m o ck s qp) (ha : s.m.a ≠ 8) : DAt w base B m o ck s:=.inr ⟨ha,qp,h⟩
theorem BAt.below {w w' : World} {base m o ck : Nat} {s : Bs} {qp : Value} (h : BAt w base m o ck s qp) (hb : Below w.heap.size w w') : BAt w' base m o ck s qp :=
 ⟨h.mc.below hb,h.out.tch (p:=fun _ => False) (Tch.of_below hb) (fun _ _ _ _ => id) (fun _ _ => id)⟩
theorem BAt.seta {w : World} {base m o ck : Nat} {s : Bs} {qp : Value} (h : BAt w base m o ck s qp) (a : Int) : BAt (w.setCell ⟨m,0,none⟩ (.int .i64 a)) base m o ck { s with m:={ s.m with a:=a } } qp /\ Tch base bObj w (w.setCell ⟨m,0,none⟩ (.int .i64 a)):=by
 have ht:=h.mc.touch 0 (.int .i64 a)
 exact ⟨⟨h.mc.set 0 (.int .i64 a) (fun ov => rfl) rfl,h.out.of_m (ht.wide fun _ => mo_of)⟩,ht.wide fun _ h => m_of_b (mo_of h)⟩
theorem BAt.open {w : World} {base m o ck : Nat} {s : Bs} {qp : Value} (h : BAt w base m o ck s qp) : ∃ A c,w.cell? ⟨m,1,none⟩ = some (.slice A s.m.op.length c) /\ w.cell? ⟨m,0,none⟩ = some (.int .i64 s.m.a) /\ w.frozen? ⟨m,0,none⟩ = false /\ m < w.heap.size:=by
 obtain ⟨ov,hB,hR,_⟩:=h.mc.ex
 obtain ⟨A,c,rfl⟩:=hR.shape
 rw [List.length_map] at hB
 exact ⟨A,c,hB.cell 1,hB.cell 0,hB.frozen 0,hB.lt⟩
set_option maxHeartbeats 8000000 in
theorem value_any (w : World) (base B m o ck : Nat) (s : Bs) (qp : Value) (b : UInt8) (h : BAt w base m o ck s qp) (hBw : B <= w.heap.size) (ha8 : s.m.a ≠ 8) (hn : s.m.nm.size <= 1000) (hop : s.m.op.length <= 200000) (hg : Good s.st) (hl : s.l.length <= 1000000) (hw : SW base w) (hb : base <= w.heap.size) :
 Calls Tryz.prog 268 #[.pointer (some ⟨m,0,none⟩),.int .u8 (b.toNat : Int),.pointer (some ⟨o,0,none⟩)] w (DPo w base B m o ck (valueB s b)):=by
 have hL:=fun (c : UInt8) (k a : Int) => begin_any w base m o ck s qp k c a h hop hg hl hw hb
 have hS:=beginString_any w base B m o ck s qp 4 h hBw
 have hW:=fun (k : Int) (t r : ByteArray) => beginWord_any w base m o ck s qp k t r h
 obtain ⟨ov0,hB0,_⟩:=h.mc.ex
 have hM:=goes_any w m 6 s.m.nm b (hB0.cell 6) hB0.lt hn
 have hml0:=hB0.lt
 clear hB0
 unfold valueB
 by_cases h91 : b.toNat = 91
 case pos =>
  rw [if_pos h91]
  have z91 : ((b.toNat : Int) == 91) = true:=by rw [h91]; rfl
  have H:=Lib.hid (hL 93 5 1)
  clear hL hS hW hM h hw h91
  go_enter Tryz.func268,Tryz.ntmps268
  go_wp2_with fail
  refine H.out.mono ?_
  intro e w5 hp
  have hq:=hp.d (B:=B) (by simp [beginB,tellB])
  obtain ⟨rfl,_⟩:=hp
  go_wp2
  go_ret
  exact hq
 rw [if_neg h91]
 have z91 : ((b.toNat : Int) == 91) = false:=by rw [beq_eq_false_iff_ne]; omega
 clear h91
 by_cases h123 : b.toNat = 123
 case pos =>
  rw [if_pos h123]
  have z123 : ((b.toNat : Int) == 123) = true:=by rw [h123]; rfl
  have H:=Lib.hid (hL 125 7 2)
  clear hL hS hW hM h hw h123
  go_enter Tryz.func268,Tryz.ntmps268
  go_wp2_with fail
  refine H.out.mono ?_
  intro e w5 hp
  have hq:=hp.d (B:=B) (by simp [beginB,tellB])
  obtain ⟨rfl,_⟩:=hp
  go_wp2
  go_ret
  exact hq
 rw [if_neg h123]
 have z123 : ((b.toNat : Int) == 123) = false:=by rw [beq_eq_false_iff_ne]; omega
 clear h123
 by_cases h34 : b.toNat = 34
 case pos =>
  rw [if_pos h34]
  have z34 : ((b.toNat : Int) == 34) = true:=by rw [h34]; rfl
  have H:=Lib.hid hS
  clear hL hS hW hM h hw h34
  go_enter Tryz.func268,Tryz.ntmps268
  go_wp2_with fail
  refine H.out.mono ?_
  rintro e w5 ⟨rfl,hs5,ht5⟩
  have HF : Hid (DPo w base B m o ck (stringB s 4) (.returned (.int .i64 0)) w5):=Lib.hid ⟨rfl,.inl ⟨rfl,hs5⟩,ht5⟩
  clear hs5 ht5 H
  go_wp2
  go_ret
  exact HF.out
 rw [if_neg h34]
 have z34 : ((b.toNat : Int) == 34) = false:=by rw [beq_eq_false_iff_ne]; omega
 clear h34
 by_cases h110 : b.toNat = 110
 case pos =>
  rw [if_pos h110]
  have z110 : ((b.toNat : Int) == 110) = true:=by rw [h110]; rfl
  have H:=Lib.hid (hW 1 ⟨#[]⟩ ⟨#[117,108,108]⟩)
  clear hL hS hW hM h hw h110
  go_enter Tryz.func268,Tryz.ntmps268
  go_wp2_with fail
  refine H.out.mono ?_
  rintro e w5 ⟨rfl,hs5,ht5⟩
  have HF : Hid (DPo w base B m o ck (wordB s 1 ⟨#[]⟩ ⟨#[117,108,108]⟩) (.returned (.int .i64 0)) w5):=Lib.hid ⟨rfl,dd_of_b hs5 (by simp [wordB]),ht5⟩
  clear hs5 ht5 H
  go_wp2
  go_ret
  exact HF.out
 rw [if_neg h110]
 have z110 : ((b.toNat : Int) == 110) = false:=by rw [beq_eq_false_iff_ne]; omega
 clear h110
 by_cases h116 : b.toNat = 116
 case pos =>
  rw [if_pos h116]
  have z116 : ((b.toNat : Int) == 116) = true:=by rw [h116]; rfl
  have H:=Lib.hid (hW 2 ⟨#[116,114,117,101]⟩ ⟨#[114,117,101]⟩)
  clear hL hS hW hM h hw h116
  go_enter Tryz.func268,Tryz.ntmps268
  go_wp2_with fail
  refine H.out.mono ?_
  rintro e w5 ⟨rfl,hs5,ht5⟩
  have HF : Hid (DPo w base B m o ck (wordB s 2 ⟨#[116,114,117,101]⟩ ⟨#[114,117,101]⟩) (.returned (.int .i64 0)) w5):=Lib.hid ⟨rfl,dd_of_b hs5 (by simp [wordB]),ht5⟩
  clear hs5 ht5 H
  go_wp2
  go_ret
  exact HF.out
 rw [if_neg h116]
 have z116 : ((b.toNat : Int) == 116) = false:=by rw [beq_eq_false_iff_ne]; omega
 clear h116
 by_cases h102 : b.toNat = 102
 case pos =>
  rw [if_pos h102]
  have z102 : ((b.toNat : Int) == 102) = true:=by rw [h102]; rfl
  have H:=Lib.hid (hW 2 ⟨#[102,97,108,115,101]⟩ ⟨#[97,108,115,101]⟩)
  clear hL hS hW hM h hw h102
  go_enter Tryz.func268,Tryz.ntmps268
  go_wp2_with fail
  refine H.out.mono ?_
  rintro e w5 ⟨rfl,hs5,ht5⟩
  have HF : Hid (DPo w base B m o ck (wordB s 2 ⟨#[102,97,108,115,101]⟩ ⟨#[97,108,115,101]⟩) (.returned (.int .i64 0)) w5):=Lib.hid ⟨rfl,dd_of_b hs5 (by simp [wordB]),ht5⟩
  clear hs5 ht5 H
  go_wp2
  go_ret
  exact HF.out
 rw [if_neg h102]
 have z102 : ((b.toNat : Int) == 102) = false:=by rw [beq_eq_false_iff_ne]; omega
 clear h102
 cases hmb : mayB1 s.m.nm b with
 | false =>
  rw [if_pos rfl]
  rw [hmb] at hM
  have HM:=Lib.hid hM
  have HH:=Lib.hid h
  clear hL hS hW hM h hw hmb
  go_enter Tryz.func268,Tryz.ntmps268
  go_wp2_with fail
  refine HM.out.mono ?_
  rintro e w1 ⟨rfl,hb1⟩
  have h1 : BAt w1 base m o ck s qp:=⟨HH.out.mc.below hb1,HH.out.out.tch (p:=fun _ => False) (Tch.of_below hb1) (fun _ _ _ _ => id) (fun _ _ => id)⟩
  have HF : Hid (DPo w base B m o ck ⟨s,2⟩ (.returned (.int .i64 2)) w1):=Lib.hid ⟨rfl,dd_of_b h1 ha8,Tch.of_below hb1⟩
  clear h1 hb1 HM HH
  go_wp2
  go_ret
  exact HF.out
 | true =>
  rw [if_neg (by decide)]
  rw [hmb] at hM
  have HM:=Lib.hid hM
  have HH:=Lib.hid h
  have hda : (digitB { s with m:={ s.m with a:=7 } } b).b.m.a ≠ 8:=by unfold digitB; split <;> simp
  clear hL hS hW hM h hw hmb
  go_enter Tryz.func268,Tryz.ntmps268
  go_wp2_with fail
  refine HM.out.mono ?_
  rintro e w1 ⟨rfl,hb1⟩
  have h1:=HH.out.below hb1
  have HT:=Lib.hid (Tch.of_below (base:=base) (p:=bObj) hb1)
  obtain ⟨h2,t2⟩:=h1.seta 7
  obtain ⟨A,c,_,d0,f0,hml⟩:=h1.open
  have HD:=Lib.hid (digit_anyB _ base m o ck _ qp b h2 hn)
  have HT2:=Lib.hid t2
  clear h1 h2 t2 hb1 HM HH
  go_wp2_with fail
  refine HD.out.mono ?_
  intro e w5 hp
  have hq:=hp.d (B:=B) hda
  have HF:=Lib.hid (show DPo w base B m o ck _ e w5 from ⟨hq.1,hq.2.1,HT.out.trans (HT2.out.trans hq.2.2)⟩)
  have he:=hp.1
  clear hp hq
  subst he
  go_wp2
  go_ret
  exact HF.out
set_option maxHeartbeats 8000000 in
theorem behind_any (w : World) (base B m o ck : Nat) (s : Bs) (qp : Value) (b : UInt8) (h : BAt w base m o ck s qp) (ha8 : s.m.a ≠ 8) (hop : s.m.op.length <= 200000) (hg : Good s.st) (hl : s.l.length <= 1000000) (hw : SW base w) (hb : base <= w.heap.size) :
 Calls Tryz.prog 269 #[.pointer (some ⟨m,0,none⟩),.int .u8 (b.toNat : Int),.pointer (some ⟨o,0,none⟩)] w (DPo w base B m o ck (behindB s b)):=by
 obtain ⟨A,cp,c1,c0,f0,hml⟩:=h.open
 unfold behindB
 by_cases hne : s.m.op = []
 case pos =>
  rw [if_pos hne]
  have z : (s.m.op.length : Int) = 0:=by rw [hne]; rfl
  rw [hne] at c1
  have HF : Hid (DPo w base B m o ck ⟨s,2⟩ (.returned (.int .i64 2)) w):=Lib.hid ⟨rfl,dd_of_b h ha8,Tch.refl _ _ _⟩
  clear h hg hl hw hne z
  go_enter Tryz.func269,Tryz.ntmps269
  go_wp2
  go_ret
  exact HF.out
 case neg =>
  rw [if_neg hne]
  have hlen : 0 < s.m.op.length:=List.length_pos_iff.2 hne
  have z : ((s.m.op.length : Int) == 0) = false:=by rw [beq_eq_false_iff_ne]; omega
  have hdr : Below w.heap.size w w.drew:=below_drew (Below.refl _ _)
  have hdd : Below w.heap.size w w.drew.drew:=below_drew hdr
  have hC:=Lib.hid (closing_any w base m s.m qp h.mc hne)
  have hC2:=Lib.hid (closing_any w.drew base m s.m qp (h.mc.below hdr) hne)
  have hFi:=Lib.hid (finish_any w.drew base m o ck s qp (h.below hdr) hne hg hl (hw.below (hdr.mono hb)) (Nat.le_trans hb hdr.size))
  have HD:=Lib.hid (h.below hdd)
  have HDr:=Lib.hid (h.below hdr)
  have htr:=Lib.hid (Tch.of_below (base:=base) (p:=bObj) hdr)
  have htd:=Lib.hid (Tch.of_below (base:=base) (p:=bObj) hdd)
  by_cases hbt : b = topB s.m.op
  case pos =>
   rw [if_pos hbt]
   have z2 : (((topB s.m.op).toNat : Int) == ((topB s.m.op).toNat : Int)) = true:=by simp
   subst hbt
   have hfa : (finishB s).b.m.a ≠ 8:=by simp [finishB,tellB]
   generalize (topB s.m.op).toNat = tb at *
   clear h hg hl hw hne hdr hdd hC2 HD HDr htd
   go_enter Tryz.func269,Tryz.ntmps269
   go_wp2_with fail
   refine hC.out.mono ?_
   rintro e w1 ⟨rfl,rfl⟩
   go_wp2_with fail
   refine hFi.out.mono ?_
   intro e w5 hp
   have hq:=hp.d (B:=B) hfa
   have HF : Hid (DPo w base B m o ck (finishB s) e w5):=Lib.hid ⟨hq.1,hq.2.1,htr.out.trans hq.2.2⟩
   obtain ⟨rfl,_⟩:=hp
   clear hq
   go_wp2
   go_ret
   exact HF.out
  case neg =>
   rw [if_neg hbt]
   have z2 : ((b.toNat : Int) == ((topB s.m.op).toNat : Int)) = false:=by
    rw [beq_eq_false_iff_ne]; intro e; exact hbt (UInt8.toNat_inj.1 (by omega))
   by_cases h44 : b.toNat = 44
   case neg =>
    rw [if_pos h44]
    have z3 : ((b.toNat : Int) != 44) = true:=by rw [bne_iff_ne]; omega
    have HF : Hid (DPo w base B m o ck ⟨s,2⟩ (.returned (.int .i64 2)) w.drew):=Lib.hid ⟨rfl,dd_of_b HDr.out ha8,htr.out⟩
    clear h hg hl hw hne hdr hdd hC2 HD HDr htd hFi hbt h44
    go_enter Tryz.func269,Tryz.ntmps269
    go_wp2_with fail
    refine hC.out.mono ?_
    rintro e w1 ⟨rfl,rfl⟩
    go_wp2
    go_ret
    exact HF.out
   case pos =>
    rw [if_neg (by omega)]
    have z3 : ((b.toNat : Int) != 44) = false:=by rw [bne_eq_false_iff_eq]; omega
    obtain ⟨k3,t3⟩:=HD.out.seta 3
    obtain ⟨k0,t0⟩:=HD.out.seta 0
    have HF3 : Hid (DPo w base B m o ck ⟨{ s with m:={ s.m with a:=3 } },0⟩ (.returned (.int .i64 0)) (w.drew.drew.setCell ⟨m,0,none⟩ (.int .i64 3))):=Lib.hid ⟨rfl,dd_of_b k3 (by simp),htd.out.trans t3⟩
    have HF0 : Hid (DPo w base B m o ck ⟨{ s with m:={ s.m with a:=0 } },0⟩ (.returned (.int .i64 0)) (w.drew.drew.setCell ⟨m,0,none⟩ (.int .i64 0))):=Lib.hid ⟨rfl,dd_of_b k0 (by simp),htd.out.trans t0⟩
    clear h hg hl hw hne hdr hdd HD HDr htd htr hFi hbt h44 k3 t3 k0 t0
    by_cases h125 : (topB s.m.op).toNat = 125
    case pos =>
     rw [if_pos h125]
     rw [h125] at hC hC2 z2
     clear h125
     go_enter Tryz.func269,Tryz.ntmps269
     go_wp2_with fail
     refine hC.out.mono ?_
     rintro e w1 ⟨rfl,rfl⟩
     go_wp2_with fail
     refine hC2.out.mono ?_
     rintro e w1 ⟨rfl,rfl⟩
     go_wp2
     go_ret
     exact HF3.out
    case neg =>
     rw [if_neg h125]
     have z4 : (((topB s.m.op).toNat : Int) == 125) = false:=by rw [beq_eq_false_iff_ne]; omega
     generalize (topB s.m.op).toNat = tb at *
     clear h125
     go_enter Tryz.func269,Tryz.ntmps269
     go_wp2_with fail
     refine hC.out.mono ?_
     rintro e w1 ⟨rfl,rfl⟩
     go_wp2_with fail
     refine hC2.out.mono ?_
     rintro e w1 ⟨rfl,rfl⟩
     go_wp2
     go_ret
     exact HF0.out
end Go.Proofs.YtbnppjmmlfncmaaGreatDoor
namespace Go.Proofs.YtbnppjmmlfncmaaGreatDoor
open Go.RowKit Go.Maps
variable [Fo]
theorem dpo_here {w : World} {base B m o ck : Nat} {s : Bs} {qp : Value} (h : BAt w base m o ck s qp) (ha : s.m.a ≠ 8) (e : Int) : DPo w base B m o ck ⟨s,e⟩ (.returned (.int .i64 e)) w:=⟨rfl,dd_of_b h ha,Tch.refl _ _ _⟩
theorem ub_t {b : UInt8} {n : Nat} (h : b.toNat = n) : ((b.toNat : Int) == (n : Int)) = true:=by rw [h]; simp
theorem ub_f {b : UInt8} {n : Nat} (h : ¬ b.toNat = n) : ((b.toNat : Int) == (n : Int)) = false:=by rw [beq_eq_false_iff_ne]; omega
set_option maxHeartbeats 16000000 in
theorem mark_any (w : World) (base B m o ck : Nat) (s : Bs) (qp : Value) (b : UInt8) (h : BAt w base m o ck s qp) (hBw : B <= w.heap.size) (h5 : 0 <= s.m.a /\ s.m.a <= 5) (hne : s.m.a = 1 \/ s.m.a = 2 -> s.m.op ≠ []) (hnm : s.m.nm.size <= 1000) (hop : s.m.op.length <= 200000) (hg : Good s.st) (hl : s.l.length <= 1000000) (hw : SW base w) (hb : base <= w.heap.size) :
 Calls Tryz.prog 261 #[.pointer (some ⟨m,0,none⟩),.int .u8 (b.toNat : Int),.pointer (some ⟨o,0,none⟩)] w (DPo w base B m o ck (markB s b)):=by
 obtain ⟨A,cp,c1,c0,f0,hml⟩:=h.open
 have hVal:=fun ha => value_any w base B m o ck s qp b h hBw ha hnm hop hg hl hw hb
 have hBeh:=fun ha => behind_any w base B m o ck s qp b h ha hop hg hl hw hb
 have hFin:=fun hn => finish_any w base m o ck s qp h hn hg hl hw hb
 have hStr:=beginString_any w base B m o ck s qp 8 h hBw
 have hHere:=fun ha e => dpo_here (B:=B) h ha e
 have hSet:=h.seta 0
 obtain ⟨⟨a,op,ek,et,ev,rs,nm,q⟩,st,l⟩:=s
 simp only at h5 hne c0 c1 hVal hBeh hFin hHere hSet
 unfold markB
 simp only
 have ha : a = 0 \/ a = 1 \/ a = 2 \/ a = 3 \/ a = 4 \/ a = 5:=by omega
 clear h5 h hnm hop hg hl hw
 rcases ha with rfl | rfl | rfl | rfl | rfl | rfl
 ·rw [if_neg (by simp),if_neg (by simp),if_neg (by simp),if_pos (by simp)]
  have HC:=Lib.hid (hVal (by decide))
  clear hHere hVal hBeh hFin hStr hSet hne
  go_enter Tryz.func261,Tryz.ntmps261
  go_wp2_with fail
  refine HC.out.mono ?_
  intro e w5 hp
  have HF:=Lib.hid hp
  obtain ⟨rfl,_⟩:=hp
  go_wp2
  go_ret
  exact HF.out
 ·by_cases hbv : b.toNat = 93
  ·have z:=ub_t hbv
   rw [if_neg (by simp),if_pos (by simp [hbv])]
   clear hbv
   have HC:=Lib.hid (hFin (hne (by decide)))
   clear hHere hVal hBeh hFin hStr hSet hne
   go_enter Tryz.func261,Tryz.ntmps261
   go_wp2_with fail
   refine HC.out.mono ?_
   intro e w5 hp
   have HF:=Lib.hid (hp.d (B:=B) (by simp [finishB,tellB]))
   obtain ⟨rfl,_⟩:=hp
   go_wp2
   go_ret
   exact HF.out
  ·have z:=ub_f hbv
   rw [if_neg (by simp),if_neg (by simp [hbv]),if_neg (by simp),if_pos (by simp)]
   clear hbv
   have HC:=Lib.hid (hVal (by decide))
   clear hHere hVal hBeh hFin hStr hSet hne
   go_enter Tryz.func261,Tryz.ntmps261
   go_wp2_with fail
   refine HC.out.mono ?_
   intro e w5 hp
   have HF:=Lib.hid hp
   obtain ⟨rfl,_⟩:=hp
   go_wp2
   go_ret
   exact HF.out
 ·by_cases hbv : b.toNat = 125
  ·have z:=ub_t hbv
   rw [if_neg (by simp),if_pos (by simp [hbv])]
   clear hbv
   have HC:=Lib.hid (hFin (hne (by decide)))
   clear hHere hVal hBeh hFin hStr hSet hne
   go_enter Tryz.func261,Tryz.ntmps261
   go_wp2_with fail
   refine HC.out.mono ?_
   intro e w5 hp
   have HF:=Lib.hid (hp.d (B:=B) (by simp [finishB,tellB]))
   obtain ⟨rfl,_⟩:=hp
   go_wp2
   go_ret
   exact HF.out
  ·have z:=ub_f hbv
   by_cases h34 : b.toNat = 34
   ·have z2:=ub_t h34
    rw [if_neg (by simp),if_neg (by simp [hbv]),if_pos (by simp [h34])]
    clear hbv h34
    have HC:=Lib.hid hStr
    clear hHere hVal hBeh hFin hStr hSet hne
    go_enter Tryz.func261,Tryz.ntmps261
    go_wp2_with fail
    refine HC.out.mono ?_
    rintro e w5 ⟨rfl,hs5,ht5⟩
    have HF : Hid (DPo w base B m o ck (stringB _ 8) (.returned (.int .i64 0)) w5):=Lib.hid ⟨rfl,.inl ⟨rfl,hs5⟩,ht5⟩
    clear hs5 ht5
    go_wp2
    go_ret
    exact HF.out
   ·have z2:=ub_f h34
    rw [if_neg (by simp),if_neg (by simp [hbv]),if_neg (by simp [h34]),if_neg (by simp),if_neg (by simp)]
    clear hbv h34
    have HF:=Lib.hid (hHere (by decide) 2)
    clear hHere hVal hBeh hFin hStr hSet hne
    go_enter Tryz.func261,Tryz.ntmps261
    go_wp2
    go_ret
    exact HF.out
 ·by_cases h34 : b.toNat = 34
  ·have z2:=ub_t h34
   rw [if_neg (by simp),if_neg (by simp),if_pos (by simp [h34])]
   clear h34
   have HC:=Lib.hid hStr
   clear hHere hVal hBeh hFin hStr hSet hne
   go_enter Tryz.func261,Tryz.ntmps261
   go_wp2_with fail
   refine HC.out.mono ?_
   rintro e w5 ⟨rfl,hs5,ht5⟩
   have HF : Hid (DPo w base B m o ck (stringB _ 8) (.returned (.int .i64 0)) w5):=Lib.hid ⟨rfl,.inl ⟨rfl,hs5⟩,ht5⟩
   clear hs5 ht5
   go_wp2
   go_ret
   exact HF.out
  ·have z2:=ub_f h34
   rw [if_neg (by simp),if_neg (by simp),if_neg (by simp [h34]),if_neg (by simp),if_neg (by simp)]
   clear h34
   have HF:=Lib.hid (hHere (by decide) 2)
   clear hHere hVal hBeh hFin hStr hSet hne
   go_enter Tryz.func261,Tryz.ntmps261
   go_wp2
   go_ret
   exact HF.out
 ·by_cases hbv : b.toNat = 58
  ·have z:=ub_t hbv
   rw [if_pos (by simp [hbv])]
   clear hbv
   have HF : Hid (DPo w base B m o ck ⟨⟨⟨0,op,ek,et,ev,rs,nm,q⟩,st,l⟩,0⟩ (.returned (.int .i64 0)) (w.setCell ⟨m,0,none⟩ (.int .i64 0))):=Lib.hid ⟨rfl,dd_of_b hSet.1 (by simp),hSet.2⟩
   clear hHere hVal hBeh hFin hStr hSet hne
   go_enter Tryz.func261,Tryz.ntmps261
   go_wp2
   go_ret
   exact HF.out
  ·have z:=ub_f hbv
   rw [if_neg (by simp [hbv]),if_neg (by simp),if_neg (by simp),if_neg (by simp),if_neg (by simp)]
   clear hbv
   have HF:=Lib.hid (hHere (by decide) 2)
   clear hHere hVal hBeh hFin hStr hSet hne
   go_enter Tryz.func261,Tryz.ntmps261
   go_wp2
   go_ret
   exact HF.out
 ·rw [if_neg (by simp),if_neg (by simp),if_neg (by simp),if_neg (by simp),if_pos (by simp)]
  have HC:=Lib.hid (hBeh (by decide))
  clear hHere hVal hBeh hFin hStr hSet hne
  go_enter Tryz.func261,Tryz.ntmps261
  go_wp2_with fail
  refine HC.out.mono ?_
  intro e w5 hp
  have HF:=Lib.hid hp
  obtain ⟨rfl,_⟩:=hp
  go_wp2
  go_ret
  exact HF.out
end Go.Proofs.YtbnppjmmlfncmaaGreatDoor

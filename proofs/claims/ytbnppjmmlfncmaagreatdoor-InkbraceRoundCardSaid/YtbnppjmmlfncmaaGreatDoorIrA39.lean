/-
  brace: a byte within a string; Step; End.
  brace: Step.
  brace: Step, whatever the state; what holds ahead of each byte stays.
-/
import Derived.Test.YtbnppjmmlfncmaaGreatDoorIrA38
import Derived.Test.YtbnppjmmlfncmaaGreatDoorIrA04
set_option maxRecDepth 100000
set_option linter.unusedSimpArgs false
set_option linter.unusedSectionVars false
set_option linter.unusedVariables false
namespace Go.Proofs.YtbnppjmmlfncmaaGreatDoor
open Go.RowKit Go.Maps
variable [Fo]
abbrev Fr (base B : Nat) (w w' : World) : Prop:=FrG bObj base B w w'
section
variable {base B m o ck : Nat} {w w' w'' : World}
theorem Fr.of_tch (h : Tch base bObj w w') (hb : base <= w.heap.size) : Fr base B w w':=FrG.of_tch h hb
theorem Fr.of_q {g : Nat} (h : Tch g Qt.qObj w w') (hb : base <= g) (hB : B <= g) (hg : g <= w.heap.size) : Fr base B w w':=⟨(h.below hg).mono hb,fun k o ho hk _ => h.block k o ho (.inl (by omega)),fun k o ho hf => h.block k o ho (.inr (.inr hf))⟩
theorem tch_low {p : Obj -> Prop} {w0 : World} (h : Tch base p w0 w) (hb : Below w0.heap.size w w') : Tch base p w0 w' :=
 ⟨hb.os.trans h.os,hb.tape.trans h.tape,hb.output.trans h.output,Nat.le_trans h.size hb.size,fun k o ho hc => (hb.block k (Array.getElem?_eq_some_iff.1 ho).1).trans (h.block k o ho hc)⟩
theorem MAt.of_ss {M : Mc} {qp : Value} (h : MAt w base m M qp) (ht : Tch base ssObj w w') : MAt w' base m M qp :=
 h.tch ht (fun cs t fr h hc => by simp only [ssObj] at hc; rcases h with rfl | rfl <;> exact absurd hc (by decide))
end
def SPo (w : World) (base B m o ck : Nat) (r : Br) (e : Ending) (w' : World) : Prop :=
 e = .returned (.int .i64 r.e) /\ DAt w' base B m o ck r.b /\ Fr base B w w'
theorem DPo.s {w w' : World} {base B m o ck : Nat} {r : Br} {e : Ending} (h : DPo w base B m o ck r e w') (hb : base <= w.heap.size) : SPo w base B m o ck r e w':=⟨h.1,h.2.1,Fr.of_tch h.2.2 hb⟩
set_option maxHeartbeats 8000000 in
theorem char_any (w : World) (base B m o ck : Nat) (s : Bs) (b : UInt8) (ha : s.m.a = 8) (h : SAt w base B m o ck s) (hqi : Qt.QInv s.m.q) (hg : Good s.st) (hl : s.l.length <= 1000000) (hw : SW base w) :
 Calls Tryz.prog 257 #[.pointer (some ⟨m,0,none⟩),.int .u8 (b.toNat : Int),.pointer (some ⟨o,0,none⟩)] w (SPo w base B m o ck (charB s b)):=by
 obtain ⟨⟨a,op,ek,et,ev,rs,nm,q⟩,st,l⟩:=s
 simp only at ha hqi hg hl
 subst ha
 obtain ⟨w0,g,hM0,hO0,hg0,ht,hQ,hBg⟩:=h
 simp only at hQ
 have hbg : base <= g:=by have:=hM0.bm; have:=hM0.lt; omega
 have hmg : m < g:=by have:=hM0.lt; omega
 have hMw:=hM0.of_ss ht
 obtain ⟨ov,hB,hR,_⟩:=hMw.ex
 have c7 : w.cell? ⟨m,7,none⟩ = some (.pointer (some ⟨g,0,none⟩)):=hB.cell 7
 have hml:=hB.lt
 have hb255 : (b.toNat : Int) <= 255:=by have:=b.toNat_lt; omega
 have hS:=Qt.qstep_any w g q (b.toNat : Int) (by omega) hb255 hQ hqi
 have hqr:=Qt.qInv_step (b:=(b.toNat : Int)) hqi
 unfold charB
 simp only
 generalize Qt.qStep q (b.toNat : Int) = r at *
 unfold Qt.StepEnd Qt.Stepd at hS
 have HS:=Lib.hid hS
 have HM0:=Lib.hid hM0
 have HO0:=Lib.hid hO0
 have HT:=Lib.hid ht
 have HG:=Lib.hid hg0
 have hgw : g <= w.heap.size:=Nat.le_of_lt hQ.lt
 have hkeep : ∀ w1,Qt.QAt w1 g r.q -> Tch g Qt.qObj w w1 -> SAt w1 base B m o ck ⟨⟨8,op,ek,et,ev,rs,nm,r.q⟩,st,l⟩ /\ Fr base B w w1:=fun w1 hQ1 hb1 =>
  ⟨⟨w0,g,⟨HM0.out.ex,HM0.out.bm,HM0.out.nf,HM0.out.lim⟩,HO0.out,HG.out,tch_low HT.out (by rw [HG.out]; exact hb1.below hgw),hQ1,hBg⟩,Fr.of_q hb1 hbg hBg hgw⟩
 have HK:=Lib.hid hkeep
 clear hS hM0 hO0 ht hg0 hMw hB hR hQ hkeep
 by_cases he : r.e = 0
 case neg =>
  rw [if_pos (.inl he)]
  have z1 : (r.e == 0) = false:=by rw [beq_eq_false_iff_ne]; exact he
  have z2 : (r.e != 0) = true:=by simp [bne,z1]
  clear he
  go_enter Tryz.func257,Tryz.ntmps257
  go_wp2_with fail
  refine HS.out.mono ?_
  rintro e w1 ⟨rfl,hQ1,hb1⟩
  obtain ⟨k1,k2⟩:=HK.out w1 hQ1 hb1
  have HF : Hid (SPo w base B m o ck ⟨⟨⟨8,op,ek,et,ev,rs,nm,r.q⟩,st,l⟩,r.e⟩ (.returned (.int .i64 r.e)) w1):=Lib.hid ⟨rfl,.inl ⟨rfl,k1⟩,k2⟩
  clear hQ1 hb1 k1 k2
  go_wp2
  go_ret
  exact HF.out
 case pos =>
  by_cases hd : r.done = false
  case pos =>
   rw [if_pos (.inr hd)]
   rw [he,hd] at HS
   rw [he]
   clear he hd
   go_enter Tryz.func257,Tryz.ntmps257
   go_wp2_with fail
   refine HS.out.mono ?_
   rintro e w1 ⟨rfl,hQ1,hb1⟩
   obtain ⟨k1,k2⟩:=HK.out w1 hQ1 hb1
   have HF : Hid (SPo w base B m o ck ⟨⟨⟨8,op,ek,et,ev,rs,nm,r.q⟩,st,l⟩,0⟩ (.returned (.int .i64 0)) w1):=Lib.hid ⟨rfl,.inl ⟨rfl,k1⟩,k2⟩
   clear hQ1 hb1 k1 k2
   go_wp2
   go_ret
   exact HF.out
  case neg =>
   have hdt : r.done = true:=by cases h : r.done; exact absurd h hd; rfl
   rw [if_neg (by simp [he,hdt])]
   rw [he,hdt] at HS
   clear he hd hdt HK
   have hq48 : r.q.xs.length <= 48:=hqr.1
   by_cases h8 : ek = 8
   case pos =>
    subst h8
    rw [if_pos rfl]
    go_enter Tryz.func257,Tryz.ntmps257
    go_wp2_with fail
    refine HS.out.mono ?_
    rintro e w1 ⟨rfl,hQ1,hb1⟩
    have hlow:=tch_low HT.out (show Below w0.heap.size w w1 by rw [HG.out]; exact hb1.below hgw)
    have hM1:=HM0.out.of_ss hlow
    have hO1:=HO0.out.of_ss hlow
    have hFr:=Fr.of_q (base:=base) (B:=B) hb1 hbg hBg hgw
    have hw1:=hw.below ((hb1.below hgw).mono hbg)
    obtain ⟨ov,hB,hR,_⟩:=hM1.ex
    have d0 : w1.cell? ⟨m,0,none⟩ = some (.int .i64 8):=hB.cell 0
    have d2 : w1.cell? ⟨m,2,none⟩ = some (.int .i64 8):=hB.cell 2
    have d3 : w1.cell? ⟨m,3,none⟩ = some (.string et):=hB.cell 3
    have d4 : w1.cell? ⟨m,4,none⟩ = some (.string ev):=hB.cell 4
    have d7 : w1.cell? ⟨m,7,none⟩ = some (.pointer (some ⟨g,0,none⟩)):=hB.cell 7
    have f0:=hB.frozen 0
    have f3:=hB.frozen 3
    have ml:=hB.lt
    have hbw1 : base <= w1.heap.size:=by have:=hM1.bm; omega
    obtain ⟨dd,nn,hraw,_⟩:=qat_far (qat_far hQ1 hmg (.int .i64 5)) hmg (.int .i64 4)
    have HTx:=Lib.hid (Qt.text_any _ g r.q.xs r.q.st dd nn (show Qt.QRaw ((w1.setCell ⟨m,0,none⟩ (.int .i64 5)).setCell ⟨m,0,none⟩ (.int .i64 4)) g r.q.xs r.q.st dd nn from hraw))
    have s1:=hM1.set 0 (.int .i64 5) (M':=⟨5,op,8,et,ev,rs,nm,r.q⟩) (qp':=.pointer (some ⟨g,0,none⟩)) (fun ov => rfl) rfl
    have t1:=(hM1.touch 0 (.int .i64 5)).wide fun _ => mo_of
    have s2:=s1.set 0 (.int .i64 4) (M':=⟨4,op,8,et,ev,rs,nm,r.q⟩) (qp':=.pointer (some ⟨g,0,none⟩)) (fun ov => rfl) rfl
    have t2:=t1.trans ((s1.touch 0 (.int .i64 4)).wide fun _ => mo_of)
    have s3:=s2.set 3 (.string ⟨r.q.xs.toArray⟩) (M':=⟨4,op,8,⟨r.q.xs.toArray⟩,ev,rs,nm,r.q⟩) (qp':=.pointer (some ⟨g,0,none⟩)) (fun ov => rfl) rfl
    have t3:=t2.trans ((s2.touch 3 (.string ⟨r.q.xs.toArray⟩)).wide fun _ => mo_of)
    have hO3:=hO1.of_m t3
    have hxs : (⟨r.q.xs.toArray⟩ : ByteArray).size <= 48:=by
     show r.q.xs.toArray.size <= 48
     rw [List.size_toArray]
     exact hq48
    have HTe:=Lib.hid (tell_any _ base o ck st l ⟨8,⟨r.q.xs.toArray⟩,ev⟩ hO3 hg (NumW.of (hw1.tch t3 hbw1).std) (by simp only; omega) hl (Nat.le_trans hbw1 t3.size))
    have HF:=Lib.hid (fun e w' (hp : TellPost _ base o ck st l ⟨8,⟨r.q.xs.toArray⟩,ev⟩ e w') => (show SPo w base B m o ck (tellB ⟨4,op,8,⟨r.q.xs.toArray⟩,ev,rs,nm,r.q⟩ st l ⟨8,⟨r.q.xs.toArray⟩,ev⟩) e w' from by
     have h1:=told (s:=⟨⟨8,op,8,et,ev,rs,nm,q⟩,st,l⟩) (x:=⟨8,⟨r.q.xs.toArray⟩,ev⟩) s3 hp t3
     exact ⟨h1.1,.inr ⟨by simp [tellB],_,h1.2.1⟩,hFr.trans (Fr.of_tch h1.2.2 hbw1)⟩))
    clear hraw hQ1 hb1 hlow hM1 hO1 hFr hB hR s1 t1 s2 t2 s3 t3 hO3 hxs HS HM0 HO0 HT
    go_wp2_with fail
    refine HTx.out.mono ?_
    rintro e w' ⟨rfl,rfl⟩
    go_wp2_with fail
    refine HTe.out.mono ?_
    intro e w5 hp
    have hq:=HF.out e w5 hp
    obtain ⟨rfl,_⟩:=hp
    go_wp2
    go_ret
    exact hq
   case neg =>
    rw [if_neg h8]
    have z8 : (ek == 8) = false:=by rw [beq_eq_false_iff_ne]; exact h8
    clear h8
    go_enter Tryz.func257,Tryz.ntmps257
    go_wp2_with fail
    refine HS.out.mono ?_
    rintro e w1 ⟨rfl,hQ1,hb1⟩
    have hlow:=tch_low HT.out (show Below w0.heap.size w w1 by rw [HG.out]; exact hb1.below hgw)
    have hM1:=HM0.out.of_ss hlow
    have hO1:=HO0.out.of_ss hlow
    have hFr:=Fr.of_q (base:=base) (B:=B) hb1 hbg hBg hgw
    have hw1:=hw.below ((hb1.below hgw).mono hbg)
    obtain ⟨ov,hB,hR,_⟩:=hM1.ex
    have d0 : w1.cell? ⟨m,0,none⟩ = some (.int .i64 8):=hB.cell 0
    have d2 : w1.cell? ⟨m,2,none⟩ = some (.int .i64 ek):=hB.cell 2
    have d3 : w1.cell? ⟨m,3,none⟩ = some (.string et):=hB.cell 3
    have d4 : w1.cell? ⟨m,4,none⟩ = some (.string ev):=hB.cell 4
    have d7 : w1.cell? ⟨m,7,none⟩ = some (.pointer (some ⟨g,0,none⟩)):=hB.cell 7
    have f0:=hB.frozen 0
    have f3:=hB.frozen 3
    have ml:=hB.lt
    have hbw1 : base <= w1.heap.size:=by have:=hM1.bm; omega
    obtain ⟨dd,nn,hraw,_⟩:=qat_far hQ1 hmg (.int .i64 5)
    have HTx:=Lib.hid (Qt.text_any _ g r.q.xs r.q.st dd nn (show Qt.QRaw (w1.setCell ⟨m,0,none⟩ (.int .i64 5)) g r.q.xs r.q.st dd nn from hraw))
    have s1:=hM1.set 0 (.int .i64 5) (M':=⟨5,op,ek,et,ev,rs,nm,r.q⟩) (qp':=.pointer (some ⟨g,0,none⟩)) (fun ov => rfl) rfl
    have t1:=(hM1.touch 0 (.int .i64 5)).wide fun _ => mo_of
    have s2:=s1
    have t2:=t1
    have s3:=s2.set 3 (.string ⟨r.q.xs.toArray⟩) (M':=⟨5,op,ek,⟨r.q.xs.toArray⟩,ev,rs,nm,r.q⟩) (qp':=.pointer (some ⟨g,0,none⟩)) (fun ov => rfl) rfl
    have t3:=t2.trans ((s2.touch 3 (.string ⟨r.q.xs.toArray⟩)).wide fun _ => mo_of)
    have hO3:=hO1.of_m t3
    have hxs : (⟨r.q.xs.toArray⟩ : ByteArray).size <= 48:=by
     show r.q.xs.toArray.size <= 48
     rw [List.size_toArray]
     exact hq48
    have HTe:=Lib.hid (tell_any _ base o ck st l ⟨ek,⟨r.q.xs.toArray⟩,ev⟩ hO3 hg (NumW.of (hw1.tch t3 hbw1).std) (by simp only; omega) hl (Nat.le_trans hbw1 t3.size))
    have HF:=Lib.hid (fun e w' (hp : TellPost _ base o ck st l ⟨ek,⟨r.q.xs.toArray⟩,ev⟩ e w') => (show SPo w base B m o ck (tellB ⟨5,op,ek,⟨r.q.xs.toArray⟩,ev,rs,nm,r.q⟩ st l ⟨ek,⟨r.q.xs.toArray⟩,ev⟩) e w' from by
     have h1:=told (s:=⟨⟨8,op,ek,et,ev,rs,nm,q⟩,st,l⟩) (x:=⟨ek,⟨r.q.xs.toArray⟩,ev⟩) s3 hp t3
     exact ⟨h1.1,.inr ⟨by simp [tellB],_,h1.2.1⟩,hFr.trans (Fr.of_tch h1.2.2 hbw1)⟩))
    clear hraw hQ1 hb1 hlow hM1 hO1 hFr hB hR s1 t1 s2 t2 s3 t3 hO3 hxs HS HM0 HO0 HT
    go_wp2_with fail
    refine HTx.out.mono ?_
    rintro e w' ⟨rfl,rfl⟩
    go_wp2_with fail
    refine HTe.out.mono ?_
    intro e w5 hp
    have hq:=HF.out e w5 hp
    obtain ⟨rfl,_⟩:=hp
    go_wp2
    go_ret
    exact hq
end Go.Proofs.YtbnppjmmlfncmaaGreatDoor
namespace Go.Proofs.YtbnppjmmlfncmaaGreatDoor
open Go.RowKit Go.Maps
variable [Fo]
theorem tell_a (m : Mc) (st : List Pt) (l : List Ev) (x : Ev) : (tellB m st l x).b.m = m:=rfl
theorem letter_a (s : Bs) (b : UInt8) (h : s.m.a = 6) : (letterB s b).b.m.a ≠ 8:=by
 unfold letterB
 split
 ·split
  ·simp [tell_a]
  ·simp [h]
 ·simp [h]
theorem digit_a (s : Bs) (b : UInt8) (h : s.m.a = 7) : (digitB s b).b.m.a ≠ 8:=by
 unfold digitB
 split <;> simp [h]
theorem endNum_a (s : Bs) (h : s.m.a = 7) : (endNumB s).b.m.a ≠ 8 /\ ((endNumB s).e = 0 -> (endNumB s).b.m.a = 5):=by
 unfold endNumB
 split
 ·rename_i h2; exact ⟨by simp [h],fun e => absurd e h2⟩
 ·exact ⟨by simp [tell_a],fun _ => by simp [tell_a]⟩
theorem endNum_nm (s : Bs) : (endNumB s).b.m.nm.size <= 1000:=by
 unfold endNumB
 split
 ·exact Nat.zero_le _
 ·rw [tell_a]; exact Nat.zero_le _
theorem endNum_good (s : Bs) (hg : Good s.st) (hl : s.l.length <= 900000) : Good (endNumB s).b.st /\ (endNumB s).b.l.length <= 1000000:=by
 unfold endNumB
 split
 ·exact ⟨hg,by simp only; omega⟩
 ·refine ⟨good_step hg _,?_⟩
  simp only [tellB,tellL]
  split
  ·simp; omega
  ·omega
theorem endNum_op (s : Bs) : (endNumB s).b.m.op = s.m.op:=by
 unfold endNumB
 split <;> rfl
set_option maxHeartbeats 8000000 in
theorem bstep_6 (w : World) (base B m o ck : Nat) (s : Bs) (b : UInt8) (qp : Value) (ha : s.m.a = 6) (h : BAt w base m o ck s qp) (hrs : 0 < s.m.rs.size) (hr4 : s.m.rs.size <= 4) (het : s.m.et.size <= 48) (hg : Good s.st) (hl : s.l.length <= 1000000) (hw : SW base w) (hb : base <= w.heap.size) :
 Calls Tryz.prog 253 #[.pointer (some ⟨m,0,none⟩),.int .u8 (b.toNat : Int),.pointer (some ⟨o,0,none⟩)] w (SPo w base B m o ck (letterB s b)):=by
 obtain ⟨A,cp,c1,c0,f0,hml⟩:=h.open
 rw [ha] at c0
 have hC:=Lib.hid (letter_any w base m o ck s qp b h hrs hr4 het hg hl hw hb)
 have h8:=letter_a s b ha
 clear h hg hl hw
 go_enter Tryz.func253,Tryz.ntmps253
 go_wp2
 refine wp_scope_fwd 1 ?_
 generalize hQ : Exit.fwd _ _ _ 1 = Q1
 go_wp2
 go_step3
 go_wp2_with fail
 refine hC.out.mono ?_
 intro e w5 hp
 have HF:=Lib.hid ((hp.d (B:=B) h8).s hb)
 have he:=hp.1
 clear hp
 subst he
 go_wp2
 rw [<- hQ,Exit.fwd_ret]
 go_ret
 exact HF.out
set_option maxHeartbeats 8000000 in
theorem bstep_8 (w : World) (base B m o ck : Nat) (s : Bs) (b : UInt8) (ha : s.m.a = 8) (h : SAt w base B m o ck s) (hqi : Qt.QInv s.m.q) (hg : Good s.st) (hl : s.l.length <= 1000000) (hw : SW base w) (hb : base <= w.heap.size) :
 Calls Tryz.prog 253 #[.pointer (some ⟨m,0,none⟩),.int .u8 (b.toNat : Int),.pointer (some ⟨o,0,none⟩)] w (SPo w base B m o ck (charB s b)):=by
 have hC:=Lib.hid (char_any w base B m o ck s b ha h hqi hg hl hw)
 obtain ⟨w0,g,hM0,_,_,ht,_,_⟩:=h
 obtain ⟨ov,hB,_⟩:=(hM0.of_ss ht).ex
 have c0 : w.cell? ⟨m,0,none⟩ = some (.int .i64 s.m.a):=hB.cell 0
 rw [ha] at c0
 have hml:=hB.lt
 clear hM0 ht hB hg hl hw
 go_enter Tryz.func253,Tryz.ntmps253
 go_wp2
 refine wp_scope_fwd 1 ?_
 generalize hQ : Exit.fwd _ _ _ 1 = Q1
 go_wp2
 go_step3
 go_wp2_with fail
 refine hC.out.mono ?_
 intro e w5 hp
 have HF:=Lib.hid (hp)
 have he:=hp.1
 clear hp
 subst he
 go_wp2
 rw [<- hQ,Exit.fwd_ret]
 go_ret
 exact HF.out
set_option maxHeartbeats 8000000 in
theorem bstep_7d (w : World) (base B m o ck : Nat) (s : Bs) (b : UInt8) (qp : Value) (ha : s.m.a = 7) (h : BAt w base m o ck s qp) (hn : s.m.nm.size <= 1000) (hm : mayB1 s.m.nm b = true) (hg : Good s.st) (hl : s.l.length <= 1000000) (hw : SW base w) (hb : base <= w.heap.size) :
 Calls Tryz.prog 253 #[.pointer (some ⟨m,0,none⟩),.int .u8 (b.toNat : Int),.pointer (some ⟨o,0,none⟩)] w (SPo w base B m o ck (digitB s b)):=by
 obtain ⟨A,cp,c1,c0,f0,hml⟩:=h.open
 rw [ha] at c0
 obtain ⟨ov,hB,_⟩:=h.mc.ex
 have c6 : w.cell? ⟨m,6,none⟩ = some (.string s.m.nm):=hB.cell 6
 have hM:=goes_any w m 6 s.m.nm b c6 hml hn
 rw [hm] at hM
 have HM:=Lib.hid hM
 have HD:=Lib.hid (fun w1 (hb1 : Below w.heap.size w w1) => digit_anyB w1 base m o ck s qp b (h.below hb1) hn)
 have h8:=digit_a s b ha
 clear h hg hl hw hB hM hm
 go_enter Tryz.func253,Tryz.ntmps253
 go_wp2
 refine wp_scope_fwd 1 ?_
 generalize hQ : Exit.fwd _ _ _ 1 = Q1
 go_wp2
 go_step3
 go_wp2_with fail
 refine HM.out.mono ?_
 rintro e w1 ⟨rfl,hb1⟩
 have HC:=Lib.hid (HD.out w1 hb1)
 have HT:=Lib.hid (Fr.of_tch (Tch.of_below (base:=base) (p:=bObj) hb1) hb (B:=B))
 have hb5 : base <= w1.heap.size:=Nat.le_trans hb hb1.size
 clear hb1 HD HM
 go_wp2_with fail
 refine HC.out.mono ?_
 intro e w5 hp
 have HF:=Lib.hid ((show SPo w base B m o ck (digitB s b) e w5 from by have q:=(hp.d (B:=B) h8).s hb5; exact ⟨q.1,q.2.1,HT.out.trans q.2.2⟩))
 have he:=hp.1
 clear hp
 subst he
 go_wp2
 rw [<- hQ,Exit.fwd_ret]
 go_ret
 exact HF.out
set_option maxHeartbeats 8000000 in
theorem bstep_p (w : World) (base B m o ck : Nat) (s : Bs) (b : UInt8) (qp : Value) (ha : 0 <= s.m.a /\ s.m.a <= 5) (h : BAt w base m o ck s qp) (hBw : B <= w.heap.size) (hne : s.m.a = 1 \/ s.m.a = 2 -> s.m.op ≠ []) (hnm : s.m.nm.size <= 1000) (hop : s.m.op.length <= 200000) (hg : Good s.st) (hl : s.l.length <= 1000000) (hw : SW base w) (hb : base <= w.heap.size) :
 Calls Tryz.prog 253 #[.pointer (some ⟨m,0,none⟩),.int .u8 (b.toNat : Int),.pointer (some ⟨o,0,none⟩)] w (SPo w base B m o ck (plainB s b)):=by
 obtain ⟨A,cp,c1,c0,f0,hml⟩:=h.open
 have z6 : (s.m.a == 6) = false:=by rw [beq_eq_false_iff_ne]; omega
 have z7 : (s.m.a == 7) = false:=by rw [beq_eq_false_iff_ne]; omega
 have z8 : (s.m.a == 8) = false:=by rw [beq_eq_false_iff_ne]; omega
 have h8 : s.m.a ≠ 8:=by omega
 have HBl:=Lib.hid (tblank_any b w)
 have HMk:=Lib.hid (mark_any w base B m o ck s qp b h hBw ha hne hnm hop hg hl hw hb)
 have HF0 : Hid (SPo w base B m o ck ⟨s,0⟩ (.returned (.int .i64 0)) w):=Lib.hid ((dpo_here h h8 0).s hb)
 unfold plainB
 clear h hg hl hw h8 hne hnm
 cases hbl : blankB b with
 | true =>
  rw [if_pos rfl]
  rw [hbl] at HBl
  clear hbl HMk
  go_enter Tryz.func253,Tryz.ntmps253
  go_wp2
  refine wp_scope_fwd 1 ?_
  generalize hQ : Exit.fwd _ _ _ 1 = Q1
  go_wp2
  go_step3
  go_wp2_with fail
  refine HBl.out.mono ?_
  rintro e w1 ⟨rfl,rfl⟩
  go_wp2
  rw [<- hQ,Exit.fwd_ret]
  go_ret
  exact HF0.out
 | false =>
  rw [if_neg (by decide)]
  rw [hbl] at HBl
  clear hbl HF0
  go_enter Tryz.func253,Tryz.ntmps253
  go_wp2
  refine wp_scope_fwd 1 ?_
  generalize hQ : Exit.fwd _ _ _ 1 = Q1
  go_wp2
  go_step3
  go_wp2_with fail
  refine HBl.out.mono ?_
  rintro e w1 ⟨rfl,rfl⟩
  go_wp2_with fail
  refine HMk.out.mono ?_
  intro e w5 hp
  have HF:=Lib.hid (hp.s hb)
  have he:=hp.1
  clear hp
  subst he
  go_wp2
  rw [<- hQ,Exit.fwd_ret]
  go_ret
  exact HF.out
set_option maxHeartbeats 8000000 in
theorem bstep_7e (w : World) (base B m o ck : Nat) (s : Bs) (b : UInt8) (qp : Value) (ha : s.m.a = 7) (h : BAt w base m o ck s qp) (hBw : B <= w.heap.size) (hn : s.m.nm.size <= 1000) (hop : s.m.op.length <= 200000) (hl2 : s.l.length <= 900000) (hm : mayB1 s.m.nm b = false) (hg : Good s.st) (hl : s.l.length <= 1000000) (hw : SW base w) (hb : base <= w.heap.size) :
 Calls Tryz.prog 253 #[.pointer (some ⟨m,0,none⟩),.int .u8 (b.toNat : Int),.pointer (some ⟨o,0,none⟩)] w (SPo w base B m o ck (if (endNumB s).e ≠ 0 then endNumB s else plainB (endNumB s).b b)):=by
 obtain ⟨A,cp,c1,c0,f0,hml⟩:=h.open
 rw [ha] at c0
 obtain ⟨ov,hB,_⟩:=h.mc.ex
 have c6 : w.cell? ⟨m,6,none⟩ = some (.string s.m.nm):=hB.cell 6
 have hM:=goes_any w m 6 s.m.nm b c6 hml hn
 rw [hm] at hM
 have HM:=Lib.hid hM
 have HD:=Lib.hid (fun w1 (hb1 : Below w.heap.size w w1) => endNum_any w1 base m o ck s qp (h.below hb1) hn hg hl (hw.below (hb1.mono hb)) (Nat.le_trans hb hb1.size))
 have h8:=endNum_a s ha
 have HSW:=Lib.hid hw
 have hgr:=endNum_good s hg hl2
 have hopr:=endNum_op s
 have hnmr:=endNum_nm s
 clear h hg hl hw hB hM hm
 generalize endNumB s = r at *
 by_cases he : r.e = 0
 case neg =>
  rw [if_pos he]
  have z1 : (r.e == 0) = false:=by rw [beq_eq_false_iff_ne]; exact he
  have z2 : (r.e != 0) = true:=by simp [bne,z1]
  have h88:=h8.1
  clear he h8
  go_enter Tryz.func253,Tryz.ntmps253
  go_wp2
  refine wp_scope_fwd 1 ?_
  generalize hQ : Exit.fwd _ _ _ 1 = Q1
  go_wp2
  go_step3
  go_wp2_with fail
  refine HM.out.mono ?_
  rintro e w1 ⟨rfl,hb1⟩
  have HC:=Lib.hid (HD.out w1 hb1)
  have HT:=Lib.hid (Fr.of_tch (Tch.of_below (base:=base) (p:=bObj) hb1) hb (B:=B))
  have hb5 : base <= w1.heap.size:=Nat.le_trans hb hb1.size
  clear hb1 HD HM
  go_wp2_with fail
  refine HC.out.mono ?_
  intro e w5 hp
  have HF:=Lib.hid ((show SPo w base B m o ck r e w5 from by have q:=(hp.d (B:=B) h88).s hb5; exact ⟨q.1,q.2.1,HT.out.trans q.2.2⟩))
  have he:=hp.1
  clear hp
  subst he
  go_wp2
  rw [<- hQ,Exit.fwd_ret]
  go_ret
  exact HF.out
 case pos =>
  rw [if_neg (by simp [he])]
  have h5:=h8.2 he
  have h88:=h8.1
  obtain ⟨rb,re⟩:=r
  simp only at he h5 h88 hgr hopr hnmr
  subst he
  clear h8
  go_enter Tryz.func253,Tryz.ntmps253
  go_wp2
  refine wp_scope_fwd 1 ?_
  generalize hQ : Exit.fwd _ _ _ 1 = Q1
  go_wp2
  go_step3
  go_wp2_with fail
  refine HM.out.mono ?_
  rintro e w1 ⟨rfl,hb1⟩
  have HC:=Lib.hid (HD.out w1 hb1)
  have HT:=Lib.hid (Fr.of_tch (Tch.of_below (base:=base) (p:=bObj) hb1) hb (B:=B))
  have hb5 : base <= w1.heap.size:=Nat.le_trans hb hb1.size
  have hB5 : B <= w1.heap.size:=Nat.le_trans hBw hb1.size
  clear hb1 HD HM
  go_wp2_with fail
  refine HC.out.mono ?_
  rintro e w2 ⟨rfl,hBA,ht2⟩
  have hs2:=ht2.size
  have hBA2:=hBA
  obtain ⟨A2,cp2,k1,k0,_,hml2⟩:=hBA2.open
  rw [h5] at k0
  have HFr:=Lib.hid (HT.out.trans (Fr.of_tch ht2 hb5))
  have hSW2:=HSW.out.below HFr.out.low
  have HBl:=Lib.hid (tblank_any b w2)
  have HMk:=Lib.hid (mark_any w2 base B m o ck rb qp b hBA (Nat.le_trans hB5 hs2) (by omega) (by omega) hnmr (by rw [hopr]; exact hop) hgr.1 hgr.2 hSW2 (Nat.le_trans hb5 hs2))
  have HF0 : Hid (SPo w base B m o ck ⟨rb,0⟩ (.returned (.int .i64 0)) w2):=Lib.hid ⟨rfl,dd_of_b hBA h88,HFr.out⟩
  have hb6 : base <= w2.heap.size:=Nat.le_trans hb5 hs2
  clear hBA hBA2 ht2 hSW2 HC HT
  go_wp2
  go_step3
  show Q1 _ _ _
  rw [<- hQ]
  refine Exit.fwd_goto 0 _ _ rfl ?_
  generalize hQ0 : Exit.fwd _ _ _ 0 = Q0
  cases hbl : blankB b with
  | true =>
   rw [hbl] at HBl
   have HBB:=Lib.hid hbl
   clear hbl HMk
   go_wp2_with fail
   refine HBl.out.mono ?_
   rintro e w3 ⟨rfl,rfl⟩
   go_wp2
   rw [<- hQ0,Exit.fwd_ret]
   go_ret
   show SPo w base B m o ck (plainB rb b) _ _
   unfold plainB
   rw [if_pos HBB.out]
   exact HF0.out
  | false =>
   rw [hbl] at HBl
   have HBB:=Lib.hid hbl
   clear hbl HF0
   go_wp2_with fail
   refine HBl.out.mono ?_
   rintro e w3 ⟨rfl,rfl⟩
   go_wp2_with fail
   refine HMk.out.mono ?_
   intro e w5 hp
   have q:=hp.s hb6
   have HF : Hid (SPo w base B m o ck (markB rb b) e w5):=Lib.hid ⟨q.1,q.2.1,HFr.out.trans q.2.2⟩
   have he:=hp.1
   clear hp q
   subst he
   go_wp2
   rw [<- hQ0,Exit.fwd_ret]
   go_ret
   show SPo w base B m o ck (plainB rb b) _ _
   unfold plainB
   rw [if_neg (by rw [HBB.out]; decide)]
   exact HF.out
end Go.Proofs.YtbnppjmmlfncmaaGreatDoor
namespace Go.Proofs.YtbnppjmmlfncmaaGreatDoor
open Go.RowKit Go.Maps
variable [Fo]
theorem binv_tell {s : Bs} {n : Nat} (h : BInv s n) (M : Mc) (x : Ev) (k : Nat) (hk : n + 1 <= k) (hop : M.op.length <= k) (h1 : M.a = 1 \/ M.a = 2 \/ M.a = 3 -> M.op ≠ []) (h6 : M.a ≠ 6) (hr : M.rs.size <= 4) (hn : M.nm.size <= 30) (he : M.et.size <= 48) (hq : Qt.QInv M.q) (ha : 0 <= M.a /\ M.a <= 8) :
 BInv (tellB M s.st s.l x).b k:=by
 have:=tellL_len s.st s.l x
 have:=h.ln
 exact ⟨good_step h.good x,by simp only [tellB]; omega,hop,h1,fun e => absurd e h6,hr,hn,he,hq,ha⟩
theorem binv_mono {s : Bs} {n k : Nat} (h : BInv s n) (hk : n <= k) : BInv s k:=⟨h.good,by have:=h.ln; omega,by have:=h.opn; omega,h.op1,h.rsn,h.rsl,h.nml,h.etl,h.qi,h.rng⟩
theorem binv_finish {s : Bs} {n : Nat} (h : BInv s n) : BInv (finishB s).b (n + 1):=by
 have:=h.opn
 refine binv_tell h _ _ _ (Nat.le_refl _) (by simp; omega) (by simp) (by simp) h.rsl h.nml h.etl h.qi (by simp)
theorem binv_begin {s : Bs} {n : Nat} (h : BInv s n) (k : Int) (c : UInt8) (a : Int) (ha : a = 1 \/ a = 2) : BInv (beginB s k c a).b (n + 1):=by
 have:=h.opn
 refine binv_tell h _ _ _ (Nat.le_refl _) (by simp; omega) (by simp) (by simp; omega) h.rsl h.nml h.etl h.qi (by simp; omega)
theorem binv_letter {s : Bs} {n : Nat} (h : BInv s n) : ∀ b,BInv (letterB s b).b (n + 1):=fun b => by
 have:=h.opn
 have hx : (s.m.rs.extract 1 s.m.rs.size).size = s.m.rs.size - 1:=by simp [ByteArray.size_extract]
 have:=h.rsl
 unfold letterB
 split
 ·split
  ·exact binv_tell h _ _ _ (Nat.le_refl _) (by simp; omega) (by simp) (by simp) (by simp only; omega) h.nml h.etl h.qi (by simp)
  ·rename_i hne
   exact ⟨h.good,by have:=h.ln; simp only; omega,by simp only; omega,h.op1,fun e => by have:=h.rsn e; simp only; omega,by simp only; omega,h.nml,h.etl,h.qi,h.rng⟩
 ·exact binv_mono h (Nat.le_succ _)
theorem binv_word {s : Bs} {n : Nat} (h : BInv s n) (k : Int) (t r : ByteArray) (ht : t.size <= 48) (hr : 0 < r.size /\ r.size <= 4) : BInv (wordB s k t r).b (n + 1):=by
 have:=h.opn
 have:=h.ln
 exact ⟨h.good,by simp only [wordB]; omega,by simp only [wordB]; omega,by simp [wordB],fun _ => hr.1,hr.2,h.nml,ht,h.qi,by simp [wordB]⟩
theorem binv_string {s : Bs} {n : Nat} (h : BInv s n) (k : Int) : BInv (stringB s k).b (n + 1):=by
 have:=h.opn
 have:=h.ln
 exact ⟨h.good,by simp only [stringB]; omega,by simp only [stringB]; omega,by simp [stringB],by simp [stringB],h.rsl,h.nml,Nat.zero_le _,Qt.qInv0,by simp [stringB]⟩
theorem binv_a {s : Bs} {n : Nat} (h : BInv s n) (a : Int) (ha : 0 <= a /\ a <= 5) (h1 : a = 1 \/ a = 2 \/ a = 3 -> s.m.op ≠ []) : BInv { s with m:={ s.m with a:=a } } (n + 1):=by
 have:=h.opn
 have:=h.ln
 exact ⟨h.good,by simp only; omega,by simp only; omega,h1,fun e => by simp only at e; omega,h.rsl,h.nml,h.etl,h.qi,by simp only; omega⟩
theorem binv_digit {s : Bs} {n : Nat} (h : BInv s n) (b : UInt8) : BInv (digitB s b).b (n + 1):=by
 have:=h.opn
 have:=h.ln
 unfold digitB
 split
 ·exact binv_mono h (Nat.le_succ _)
 ·rename_i hlt
  refine ⟨h.good,by simp only; omega,by simp only; omega,h.op1,h.rsn,h.rsl,?_,h.etl,h.qi,h.rng⟩
  have h2 : (s.m.nm ++ (⟨#[b]⟩ : ByteArray)).size = s.m.nm.size + 1:=ByteArray.size_append
  show (s.m.nm ++ (⟨#[b]⟩ : ByteArray)).size <= 30
  omega
theorem binv_value {s : Bs} {n : Nat} (h : BInv s n) (b : UInt8) : BInv (valueB s b).b (n + 1):=by
 have:=h.opn
 have:=h.ln
 unfold valueB
 split
 ·exact binv_begin h _ _ _ (.inl rfl)
 ·split
  ·exact binv_begin h _ _ _ (.inr rfl)
  ·split
   ·exact binv_string h _
   ·split
    ·exact binv_word h _ _ _ (by decide) (by decide)
    ·split
     ·exact binv_word h _ _ _ (by decide) (by decide)
     ·split
      ·exact binv_word h _ _ _ (by decide) (by decide)
      ·split
       ·exact binv_mono h (Nat.le_succ _)
       ·exact binv_digit (s:={ s with m:={ s.m with a:=7 } }) (n:=n) ⟨h.good,h.ln,h.opn,by simp,by simp,h.rsl,h.nml,h.etl,h.qi,by simp⟩ b
theorem binv_behind {s : Bs} {n : Nat} (h : BInv s n) (b : UInt8) : BInv (behindB s b).b (n + 1):=by
 unfold behindB
 split
 ·exact binv_mono h (Nat.le_succ _)
 ·rename_i hne
  split
  ·exact binv_finish h
  ·split
   ·exact binv_mono h (Nat.le_succ _)
   ·split
    ·exact binv_a h 3 (by omega) (fun _ => hne)
    ·exact binv_a h 0 (by omega) (fun e => by omega)
theorem binv_mark {s : Bs} {n : Nat} (h : BInv s n) (b : UInt8) : BInv (markB s b).b (n + 1):=by
 unfold markB
 split
 ·exact binv_a h 0 (by omega) (fun e => by omega)
 ·split
  ·exact binv_finish h
  ·split
   ·exact binv_string h _
   ·split
    ·exact binv_value h b
    ·split
     ·exact binv_behind h b
     ·exact binv_mono h (Nat.le_succ _)
theorem binv_plain {s : Bs} {n : Nat} (h : BInv s n) (b : UInt8) : BInv (plainB s b).b (n + 1):=by
 unfold plainB
 split
 ·exact binv_mono h (Nat.le_succ _)
 ·exact binv_mark h b
theorem binv_endNum {s : Bs} {n : Nat} (h : BInv s n) : BInv (endNumB s).b (n + 1):=by
 have:=h.opn
 have:=h.ln
 unfold endNumB
 split
 ·exact ⟨h.good,by simp only; omega,by simp only; omega,h.op1,h.rsn,h.rsl,Nat.zero_le _,h.etl,h.qi,h.rng⟩
 ·exact binv_tell h _ _ _ (Nat.le_refl _) (by simp; omega) (by simp) (by simp) h.rsl (Nat.zero_le _) h.etl h.qi (by simp)
theorem binv_char {s : Bs} {n : Nat} (h : BInv s n) (b : UInt8) : BInv (charB s b).b (n + 1):=by
 have:=h.opn
 have:=h.ln
 have hq:=Qt.qInv_step (b:=(b.toNat : Int)) h.qi
 have hxs : (⟨(Qt.qStep s.m.q (b.toNat : Int)).q.xs.toArray⟩ : ByteArray).size <= 48:=by
  show (Qt.qStep s.m.q (b.toNat : Int)).q.xs.toArray.size <= 48
  rw [List.size_toArray]
  exact hq.1
 unfold charB
 simp only
 split
 ·exact ⟨h.good,by simp only; omega,by simp only; omega,h.op1,h.rsn,h.rsl,h.nml,h.etl,hq,h.rng⟩
 ·refine binv_tell h _ _ _ (Nat.le_refl _) (by simp; omega) ?_ ?_ h.rsl h.nml hxs hq ?_
  ·simp only; split <;> omega
  ·simp only; split <;> omega
  ·simp only; split <;> omega
theorem binv_step {s : Bs} {n : Nat} (h : BInv s n) (b : UInt8) : BInv (stepB s b).b (n + 2):=by
 unfold stepB
 split
 ·exact binv_mono (binv_letter h b) (by omega)
 ·split
  ·exact binv_mono (binv_char h b) (by omega)
  ·split
   ·split
    ·exact binv_mono (binv_digit h b) (by omega)
    ·split
     ·exact binv_mono (binv_endNum h) (by omega)
     ·exact binv_plain (binv_endNum h) b
   ·exact binv_mono (binv_plain h b) (by omega)
theorem bstep_any (w : World) (base B m o ck : Nat) (s : Bs) (b : UInt8) (n : Nat) (h : DAt w base B m o ck s) (hi : BInv s n) (hn : n <= 200000) (hBw : B <= w.heap.size) (hw : SW base w) (hb : base <= w.heap.size) :
 Calls Tryz.prog 253 #[.pointer (some ⟨m,0,none⟩),.int .u8 (b.toNat : Int),.pointer (some ⟨o,0,none⟩)] w (SPo w base B m o ck (stepB s b)):=by
 have hl:=hi.ln
 have hop:=hi.opn
 have hnm:=hi.nml
 have hrg:=hi.rng
 unfold stepB
 rcases h with ⟨ha,h⟩ | ⟨ha,qp,h⟩
 ·rw [if_neg (by omega),if_pos ha]
  exact bstep_8 w base B m o ck s b ha h hi.qi hi.good (by omega) hw hb
 ·by_cases h6 : s.m.a = 6
  ·rw [if_pos h6]
   exact bstep_6 w base B m o ck s b qp h6 h (hi.rsn h6) hi.rsl hi.etl hi.good (by omega) hw hb
  ·rw [if_neg h6,if_neg ha]
   by_cases h7 : s.m.a = 7
   ·rw [if_pos h7]
    cases hm : mayB1 s.m.nm b with
    | true =>
     rw [if_pos rfl]
     exact bstep_7d w base B m o ck s b qp h7 h (by omega) hm hi.good (by omega) hw hb
    | false =>
     rw [if_neg (by decide)]
     exact bstep_7e w base B m o ck s b qp h7 h hBw (by omega) (by omega) (by omega) hm hi.good (by omega) hw hb
   ·rw [if_neg h7]
    exact bstep_p w base B m o ck s b qp (by omega) h hBw (fun e => hi.op1 (by omega)) (by omega) (by omega) hi.good (by omega) hw hb
set_option maxHeartbeats 8000000 in
theorem bend_any (w : World) (base B m o ck : Nat) (s : Bs) (n : Nat) (h : DAt w base B m o ck s) (hi : BInv s n) (hn : n <= 200000) (hw : SW base w) (hb : base <= w.heap.size) :
 Calls Tryz.prog 252 #[.pointer (some ⟨m,0,none⟩),.pointer (some ⟨o,0,none⟩)] w fun e w' => e = .returned (.int .i64 (endB s).e) /\ OAt w' base o ck (endB s).b.st (endB s).b.l /\ Fr base B w w':=by
 have hl:=hi.ln
 have hnm:=hi.nml
 unfold endB
 by_cases h7 : s.m.a = 7
 case pos =>
  rcases h with ⟨ha,_⟩ | ⟨_,qp,h⟩
  ·omega
  obtain ⟨A,cp,c1,c0,f0,hml⟩:=h.open
  rw [h7] at c0
  have hC:=Lib.hid (endNum_any w base m o ck s qp h (by omega) hi.good (by omega) hw hb)
  have h8:=endNum_a s h7
  have hop:=endNum_op s
  rw [if_pos h7]
  clear h hi hl hw hnm
  generalize endNumB s = r at *
  simp only
  by_cases he : r.e = 0
  case neg =>
   rw [if_pos he]
   have z1 : (r.e == 0) = false:=by rw [beq_eq_false_iff_ne]; exact he
   have z2 : (r.e != 0) = true:=by simp [bne,z1]
   clear he h8
   go_enter Tryz.func252,Tryz.ntmps252
   go_wp2_with fail
   refine hC.out.mono ?_
   rintro e w1 ⟨rfl,hBA,ht⟩
   have HF:=Lib.hid (And.intro hBA.out (Fr.of_tch ht hb (B:=B)))
   clear hBA ht
   go_wp2
   go_ret
   exact ⟨rfl,HF.out.1,HF.out.2⟩
  case pos =>
   rw [if_neg (by simp [he])]
   have h5:=h8.2 he
   obtain ⟨rb,re⟩:=r
   simp only at he h5 hop ⊢
   subst he
   clear h8
   by_cases hne : rb.m.op = []
   case pos =>
    rw [if_neg (by simp [h5,hne])]
    go_enter Tryz.func252,Tryz.ntmps252
    go_wp2_with fail
    refine hC.out.mono ?_
    rintro e w1 ⟨rfl,hBA,ht⟩
    have HF:=Lib.hid (And.intro hBA.out (Fr.of_tch ht hb (B:=B)))
    obtain ⟨A2,cp2,k1,k0,_,hml2⟩:=hBA.open
    rw [h5] at k0
    rw [hne] at k1
    clear hBA ht h5 hne hop
    go_wp2
    go_ret
    exact ⟨rfl,HF.out.1,HF.out.2⟩
   case neg =>
    rw [if_pos (.inr hne)]
    go_enter Tryz.func252,Tryz.ntmps252
    go_wp2_with fail
    refine hC.out.mono ?_
    rintro e w1 ⟨rfl,hBA,ht⟩
    have HF:=Lib.hid (And.intro hBA.out (Fr.of_tch ht hb (B:=B)))
    obtain ⟨A2,cp2,k1,k0,_,hml2⟩:=hBA.open
    rw [h5] at k0
    have hlen : 0 < rb.m.op.length:=List.length_pos_iff.2 hne
    have hz : decide ((0 : Int) < (rb.m.op.length : Int)) = true:=by simp; omega
    clear hBA ht h5 hne hop
    go_wp2
    go_ret
    exact ⟨rfl,HF.out.1,HF.out.2⟩
 case neg =>
  rw [if_neg h7]
  have z7 : (s.m.a == 7) = false:=by rw [beq_eq_false_iff_ne]; exact h7
  have hFr : Fr base B w w:=FrG.refl _ _ _ _
  by_cases h5 : s.m.a = 5
  case pos =>
   rcases h with ⟨ha,_⟩ | ⟨_,qp,h⟩
   ·omega
   obtain ⟨A,cp,c1,c0,f0,hml⟩:=h.open
   rw [h5] at c0
   have HF:=Lib.hid (And.intro h.out hFr)
   simp only
   rw [if_neg (by simp)]
   by_cases hne : s.m.op = []
   case pos =>
    rw [if_neg (by simp [h5,hne])]
    rw [hne] at c1
    clear h hi hl hw hnm hne h5 z7 h7 hFr
    go_enter Tryz.func252,Tryz.ntmps252
    go_wp2
    go_ret
    exact ⟨rfl,HF.out.1,HF.out.2⟩
   case neg =>
    rw [if_pos (.inr hne)]
    have hlen : 0 < s.m.op.length:=List.length_pos_iff.2 hne
    have hz : decide ((0 : Int) < (s.m.op.length : Int)) = true:=by simp; omega
    clear h hi hl hw hnm hne h5 z7 h7 hFr
    go_enter Tryz.func252,Tryz.ntmps252
    go_wp2
    go_ret
    exact ⟨rfl,HF.out.1,HF.out.2⟩
  case neg =>
   have z5 : (s.m.a != 5) = true:=by rw [bne_iff_ne]; exact h5
   have hMO : (∃ qp,MAt w base m s.m qp) /\ OAt w base o ck s.st s.l:=by
    rcases h with ⟨_,w0,g,hM0,hO0,_,ht,_,_⟩ | ⟨_,qp,h⟩
    ·exact ⟨⟨_,hM0.of_ss ht⟩,hO0.of_ss ht⟩
    ·exact ⟨⟨qp,h.mc⟩,h.out⟩
   obtain ⟨⟨qp,hM⟩,hO⟩:=hMO
   obtain ⟨ov,hB,_⟩:=hM.ex
   have c0 : w.cell? ⟨m,0,none⟩ = some (.int .i64 s.m.a):=hB.cell 0
   have hml:=hB.lt
   have HF:=Lib.hid (And.intro hO hFr)
   simp only
   rw [if_neg (by simp),if_pos (.inl h5)]
   clear h hi hl hw hnm h5 h7 hFr hO hM hB
   go_enter Tryz.func252,Tryz.ntmps252
   go_wp2
   go_ret
   exact ⟨rfl,HF.out.1,HF.out.2⟩
end Go.Proofs.YtbnppjmmlfncmaaGreatDoor

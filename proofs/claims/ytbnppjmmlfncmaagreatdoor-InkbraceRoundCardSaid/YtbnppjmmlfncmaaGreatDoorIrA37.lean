/-
  stream: New and Decode, for any machine.
  token: an open number, as it lies in a cell; blanks.
  brace: the machine as it lies; what turns it alone.
  brace: what a byte does outside of words, numbers and strings.
-/
import Derived.Test.YtbnppjmmlfncmaaGreatDoorIrA36
import Derived.Test.YtbnppjmmlfncmaaGreatDoorIrA11
import Derived.Test.YtbnppjmmlfncmaaGreatDoorIrA04
import Derived.Test.YtbnppjmmlfncmaaGreatDoorIrA33
import Derived.Test.YtbnppjmmlfncmaaGreatDoorIrA01
import Derived.StillTailTactics
import Derived.Test.YtbnppjmmlfncmaaGreatDoorIrA06
import Derived.Test.YtbnppjmmlfncmaaGreatDoorIrA14
import Derived.IntWalk
set_option maxRecDepth 100000
set_option linter.unusedSimpArgs false
set_option linter.unusedVariables false
set_option linter.unusedSectionVars false
namespace Go.Proofs.YtbnppjmmlfncmaaGreatDoor
open Go.RowKit Go.Maps
variable [Fo]
theorem RowT.erow [Fo] {w : World} {base : Nat} {v : Value} {l : List Ev} (htk : Fo.tk = none) (h : RowT w base v l) : ERow w base v l:=by
 rcases h with ⟨_,h⟩ | ⟨n,h,_⟩
 ·exact h
 ·rw [htk] at h; cases h
theorem sat_any (w : World) (s o rd : Nat) (s4 : w.cell? ⟨s,4,none⟩ = some (.int .i64 (rd : Int))) (s2 : w.cell? ⟨s,2,none⟩ = some (.pointer (some ⟨o,0,none⟩))) (o2 : w.cell? ⟨o,2,none⟩ = some (.int .i64 0)) (hr : rd <= 1000000) :
 Calls Tryz.prog 61 #[.pointer (some ⟨s,0,none⟩)] w fun e w' => e = .returned (.int .i64 (rd : Int)) /\ w' = w.drew:=by
 go_enter Tryz.func61,Tryz.ntmps61
 go_wp2
 go_region
 go_wp2
 go_ret
 exact ⟨rfl,rfl⟩
variable (M : Mach)
set_option maxHeartbeats 4000000 in
theorem snew_any (w : World) (base m : Nat) (hM : M.raw w base m) (htk : Fo.tk = none) (hb : base <= w.heap.size) :
 Calls Tryz.prog 58 #[.iface M.T (.pointer (some ⟨m,0,none⟩))] w fun e w' => ∃ B s sc o ck,e = .returned (.pointer (some ⟨s,0,none⟩)) /\ StA w' base B s m sc o ck (ss0 M.toMachP) false false /\ LowF base w w':=by
 go_enter Tryz.func58,Tryz.ntmps58
 go_wp2_with (first
  | (go_at_call 101; refine (new_any _).mono ?_; rintro e w1 ⟨rfl,rfl⟩))
 have hS1 : ScanAt (w.alloc (.cells #[.int .i64 0,.int .u8 128,.int .u8 191] 160)) w.heap.size 0 128 191:=Blk.new w _ _
 have al1 : Below w.heap.size w (w.alloc (.cells #[.int .i64 0,.int .u8 128,.int .u8 191] 160)):=(Below.refl _ _).alloc (Nat.le_refl _) _
 have hfl:=M.raw_lim hM
 obtain ⟨W0,hW0⟩ : ∃ W0,w.alloc (.cells #[.int .i64 0,.int .u8 128,.int .u8 191] 160) = W0:=⟨_,rfl⟩
 have hz1 : w.heap.size <= W0.heap.size:=by rw [<- hW0]; simp
 have hz0 : base <= W0.heap.size:=Nat.le_trans hb (by rw [<- hW0]; simp)
 rw [hW0] at hS1 al1 ⊢
 go_wp2_with (first
  | (go_at_call 43; refine (cnew_any W0 W0.heap.size (Nat.le_refl _) (Nat.le_trans hfl hz1)).mono ?_; rintro e w2 ⟨ck,rfl,hck,hC2,hb2⟩))
 go_ret
 have hz2 : W0.heap.size <= w2.heap.size:=hb2.size
 have hS2:=hS1.below hb2 hS1.lt
 have hT : Below w2.heap.size w2 ((w2.alloc (.cells #[.pointer (some ⟨ck,0,none⟩),.slice none 0 0,.int .i64 0] 107)).alloc (.cells (sCells M.T m w.heap.size w2.heap.size 0 0 false false) 111)):=((Below.refl _ _).alloc (Nat.le_refl _) _).alloc (by simp) _
 have hO:=Blk.new w2 107 #[.pointer (some ⟨ck,0,none⟩),.slice none 0 0,.int .i64 0]
 have hO3:=hO.alloc (.cells (sCells M.T m w.heap.size w2.heap.size 0 0 false false) 111)
 have hSB:=Blk.new (w2.alloc (.cells #[.pointer (some ⟨ck,0,none⟩),.slice none 0 0,.int .i64 0] 107)) 111 (sCells M.T m w.heap.size w2.heap.size 0 0 false false)
 have hsz : (w2.alloc (.cells #[.pointer (some ⟨ck,0,none⟩),.slice none 0 0,.int .i64 0] 107)).heap.size = w2.heap.size + 1:=by simp
 rw [hsz] at hSB
 refine ⟨((w2.alloc (.cells #[.pointer (some ⟨ck,0,none⟩),.slice none 0 0,.int .i64 0] 107)).alloc (.cells (sCells M.T m w.heap.size w2.heap.size 0 0 false false) 111)).heap.size,w2.heap.size + 1,w.heap.size,w2.heap.size,ck,rfl,?_,?_⟩
 ·refine ⟨hSB,hS2.below hT hS2.lt,M.start hM hb ((al1.trans (hb2.mono hz1)).trans (hT.mono (Nat.le_trans hz1 hz2))) hz1 (Nat.le_trans hz2 hT.size) ⟨⟨_,hO3,RowT.nil htk _ _,NF.nil⟩,hC2.below hT,hz2,nf_new (by omega)⟩,⟨nf_new (by omega),nf_new hfl⟩,?_⟩
  have:=hS1.lt
  exact ⟨hSB.lt,Nat.lt_of_lt_of_le hS2.lt hT.size,by omega,hb,Nat.le_refl _,Nat.le_trans (Nat.le_trans hz0 hz2) hT.size⟩
 ·exact ((LowF.of_below al1 hb).trans (LowF.of_below hb2 hz0)).trans (LowF.of_below hT (Nat.le_trans hz0 hz2))
variable {M}
def DEnd (lv : Value) (x : Ss M.toMachP) : Ending:=.returned (.tuple #[lv,.int .i64 (closeE x),.int .i64 (x.rd : Int)])
set_option maxHeartbeats 4000000 in
theorem sdecode_any (w : World) (base m : Nat) (v : Value) (bs : List UInt8) (hM : M.raw w base m) (htk : Fo.tk = none) (hb : base <= w.heap.size) (hn : bs.length <= 90000) (hv : ∀ w',Below base w w' -> BRead w' v bs) (hw : SN M.num base w) :
 Calls Tryz.prog 34 #[.iface M.T (.pointer (some ⟨m,0,none⟩)),v] w fun e w' => ∃ lv,e = DEnd lv (feedG (ss0 M.toMachP) bs) /\ ERow w' base lv (M.l (closeBs (feedG (ss0 M.toMachP) bs))) /\ Below base w w':=by
 have hx:=sinv_feedG bs (ss0 M.toMachP) 0 sinv0
 rw [Nat.zero_add] at hx
 have HX:=Lib.hid hx
 have HV:=Lib.hid hv
 have HN:=Lib.hid hn
 have HWs:=Lib.hid hw
 clear hx hv hw hn
 unfold DEnd
 generalize hy : feedG (ss0 M.toMachP) bs = y at *
 have HY:=Lib.hid hy
 clear hy
 obtain ⟨E,hE⟩ : ∃ E,closeE y = E:=⟨_,rfl⟩
 rw [hE]
 have HE:=Lib.hid hE
 clear hE
 go_enter Tryz.func34,Tryz.ntmps34
 go_wp2_with (first
  | (go_at_call 58; refine (snew_any M _ base m hM htk hb).mono ?_; rintro e w1 ⟨B,s,sc,o,ck,rfl,hA1,hb1⟩))
 have HB1:=Lib.hid hb1.low
 have HC:=Lib.hid (feed_any w1 base B s m sc o ck (ss0 M.toMachP) false 0 v bs hA1 sinv0 (by have:=HN.out; omega) (fun w' h => HV.out w' (HB1.out.trans h.low)) (HWs.out.below hb1.low))
 clear hb1 hA1 hM
 go_wp2_with fail
 refine HC.out.mono ?_
 rintro e w2 ⟨rfl,hA2,hb2⟩
 rw [HY.out] at hA2
 have HB2:=Lib.hid (HB1.out.trans hb2.low)
 have hD:=sclose_any w2 base B s m sc o ck y false (2 * bs.length) hA2 HX.out.b (by have:=HN.out; omega) (HWs.out.below HB2.out)
 rw [HE.out] at hD
 have HD:=Lib.hid hD
 clear hD
 clear hb2 hA2 HC
 go_wp2_with fail
 refine HD.out.mono ?_
 rintro e w3 ⟨rfl,hE3,hb3⟩
 have HB3:=Lib.hid (HB2.out.trans hb3.low)
 have b2:=hE3.blk.cell 2
 have b3:=hE3.blk.cell 3
 have b4:=hE3.blk.cell 4
 unfold sCells at b2 b3 b4
 obtain ⟨⟨lv,hO,hR0,_⟩,_,_,_⟩:=hE3.out
 have hR:=hR0.erow htk
 have o1:=hO.cell 1
 have o2 : w3.cell? ⟨o,2,none⟩ = some (.int .i64 0):=hO.cell 2
 have HR:=Lib.hid hR
 have hrd : y.rd <= 1000000:=by have:=HX.out.rd; have:=HN.out; omega
 clear hE3 hb3 hO hR HD hR0
 have b4' : w3.cell? ⟨s,4,none⟩ = some (.int .i64 (y.rd : Int)):=b4
 obtain ⟨rd,hrd0⟩ : ∃ rd,y.rd = rd:=⟨_,rfl⟩
 rw [hrd0] at b4' hrd
 have HRD:=Lib.hid hrd0
 clear hrd0 b4
 go_wp2
 refine region_g [] (S:=(fun W => W.cell? ⟨s,2,none⟩ = some (.pointer (some ⟨o,0,none⟩)) /\ W.cell? ⟨s,3,none⟩ = some (.int .i64 E) /\ W.cell? ⟨s,4,none⟩ = some (.int .i64 (rd : Int)) /\ W.cell? ⟨o,1,none⟩ = some lv /\ W.cell? ⟨o,2,none⟩ = some (.int .i64 0))) (by kernel_rfl) ⟨b2,b3,b4',o1,o2⟩ (fun hH => ?_)
 refine g_take (i:=0) (v:=.pointer (some ⟨s,0,none⟩)) (by rfl) (by kernel_rfl) (by kernel_rfl) (by kernel_rfl) (by kernel_rfl) (fun _ _ _ h => (by cases h.1)) (Or.inl ⟨by rfl,fun W hS => (by obtain ⟨s2,s3,s4,o1,o2⟩:=hS; go_simp)⟩) hH ?_
 simp only [Act.put,List.setIfInBounds_toArray,List.set_cons_zero,List.set_cons_succ]
 refine g_take (i:=1) (v:=.pointer (some ⟨s,0,none⟩)) (by rfl) (by kernel_rfl) (by kernel_rfl) (by kernel_rfl) (by kernel_rfl) (fun _ _ _ h => (by cases h.1)) (Or.inl ⟨by rfl,fun W hS => (by obtain ⟨s2,s3,s4,o1,o2⟩:=hS; go_simp)⟩) hH ?_
 simp only [Act.put,List.setIfInBounds_toArray,List.set_cons_zero,List.set_cons_succ]
 refine g_take (i:=2) (v:=.pointer (some ⟨s,2,none⟩)) (by rfl) (by kernel_rfl) (by kernel_rfl) (by kernel_rfl) (by kernel_rfl) (fun _ _ _ h => (by cases h.1)) (Or.inl ⟨by rfl,fun W hS => (by obtain ⟨s2,s3,s4,o1,o2⟩:=hS; go_simp)⟩) hH ?_
 simp only [Act.put,List.setIfInBounds_toArray,List.set_cons_zero,List.set_cons_succ]
 refine g_take (i:=3) (v:=.pointer (some ⟨o,0,none⟩)) (by rfl) (by kernel_rfl) (by kernel_rfl) (by kernel_rfl) (by kernel_rfl) (fun _ _ _ h => (by cases h.1)) (Or.inl ⟨by rfl,fun W hS => (by obtain ⟨s2,s3,s4,o1,o2⟩:=hS; go_simp)⟩) hH ?_
 simp only [Act.put,List.setIfInBounds_toArray,List.set_cons_zero,List.set_cons_succ]
 refine g_take (i:=4) (v:=.pointer (some ⟨o,0,none⟩)) (by rfl) (by kernel_rfl) (by kernel_rfl) (by kernel_rfl) (by kernel_rfl) (fun _ _ _ h => (by cases h.1)) (Or.inl ⟨by rfl,fun W hS => (by obtain ⟨s2,s3,s4,o1,o2⟩:=hS; go_simp)⟩) hH ?_
 simp only [Act.put,List.setIfInBounds_toArray,List.set_cons_zero,List.set_cons_succ]
 refine g_take (i:=5) (v:=.pointer (some ⟨o,1,none⟩)) (by rfl) (by kernel_rfl) (by kernel_rfl) (by kernel_rfl) (by kernel_rfl) (fun _ _ _ h => (by cases h.1)) (Or.inl ⟨by rfl,fun W hS => (by obtain ⟨s2,s3,s4,o1,o2⟩:=hS; go_simp)⟩) hH ?_
 simp only [Act.put,List.setIfInBounds_toArray,List.set_cons_zero,List.set_cons_succ]
 refine g_take (i:=6) (v:=lv) (by rfl) (by kernel_rfl) (by kernel_rfl) (by kernel_rfl) (by kernel_rfl) (fun _ _ _ h => (by cases h.1)) (Or.inl ⟨by rfl,fun W hS => (by obtain ⟨s2,s3,s4,o1,o2⟩:=hS; go_simp)⟩) hH ?_
 simp only [Act.put,List.setIfInBounds_toArray,List.set_cons_zero,List.set_cons_succ]
 refine g_take (i:=7) (v:=.pointer (some ⟨s,0,none⟩)) (by rfl) (by kernel_rfl) (by kernel_rfl) (by kernel_rfl) (by kernel_rfl) (fun _ _ _ h => (by cases h.1)) (Or.inl ⟨by rfl,fun W hS => (by obtain ⟨s2,s3,s4,o1,o2⟩:=hS; go_simp)⟩) hH ?_
 simp only [Act.put,List.setIfInBounds_toArray,List.set_cons_zero,List.set_cons_succ]
 refine g_take (i:=8) (v:=.pointer (some ⟨s,0,none⟩)) (by rfl) (by kernel_rfl) (by kernel_rfl) (by kernel_rfl) (by kernel_rfl) (fun _ _ _ h => (by cases h.1)) (Or.inl ⟨by rfl,fun W hS => (by obtain ⟨s2,s3,s4,o1,o2⟩:=hS; go_simp)⟩) hH ?_
 simp only [Act.put,List.setIfInBounds_toArray,List.set_cons_zero,List.set_cons_succ]
 refine g_take (i:=9) (v:=.pointer (some ⟨s,3,none⟩)) (by rfl) (by kernel_rfl) (by kernel_rfl) (by kernel_rfl) (by kernel_rfl) (fun _ _ _ h => (by cases h.1)) (Or.inl ⟨by rfl,fun W hS => (by obtain ⟨s2,s3,s4,o1,o2⟩:=hS; go_simp)⟩) hH ?_
 simp only [Act.put,List.setIfInBounds_toArray,List.set_cons_zero,List.set_cons_succ]
 refine g_take (i:=10) (v:=.int .i64 E) (by rfl) (by kernel_rfl) (by kernel_rfl) (by kernel_rfl) (by kernel_rfl) (fun _ _ _ h => (by cases h.1)) (Or.inl ⟨by rfl,fun W hS => (by obtain ⟨s2,s3,s4,o1,o2⟩:=hS; go_simp)⟩) hH ?_
 simp only [Act.put,List.setIfInBounds_toArray,List.set_cons_zero,List.set_cons_succ]
 refine g_take (i:=11) (v:=.pointer (some ⟨s,0,none⟩)) (by rfl) (by kernel_rfl) (by kernel_rfl) (by kernel_rfl) (by kernel_rfl) (fun _ _ _ h => (by cases h.1)) (Or.inl ⟨by rfl,fun W hS => (by obtain ⟨s2,s3,s4,o1,o2⟩:=hS; go_simp)⟩) hH ?_
 simp only [Act.put,List.setIfInBounds_toArray,List.set_cons_zero,List.set_cons_succ]
 refine g_one (i:=12) (by kernel_rfl) (by rfl) (fun K hK => ?_)
 go_simp
 refine (sat_any w3.drew s o rd b4' b2 o2 hrd).mono ?_
 rintro e w4 ⟨rfl,rfl⟩
 refine hK.out _ _ (fun _ => ⟨b2,b3,b4',o1,o2⟩) (fun _ => ?_)
 clear hK K hH
 refine g_one (i:=13) (by kernel_rfl) (by rfl) (fun K hK => ?_)
 go_simp
 refine hK.out _ _ (fun _ => ⟨b2,b3,b4',o1,o2⟩) (fun _ => ?_)
 clear hK K
 refine g_one (i:=14) (by kernel_rfl) (by rfl) (fun K hK => ?_)
 go_simp
 refine hK.out _ _ (fun _ => ⟨b2,b3,b4',o1,o2⟩) (fun _ => ?_)
 clear hK K
 refine g_one (i:=15) (by kernel_rfl) (by rfl) (fun K hK => ?_)
 go_simp
 refine hK.out _ _ (fun _ => ⟨b2,b3,b4',o1,o2⟩) (fun _ => ?_)
 clear hK K
 refine g_done (by kernel_rfl) ⟨by first | rfl | trivial,?_⟩ _
 go_wp2
 go_ret3
 exact ⟨lv,by rw [HRD.out]; rfl,(HR.out.below (below_drew (Below.refl _ _))).below (below_drew (Below.refl _ _)),(HB3.out.trans (below_drew (Below.refl _ _))).trans (below_drew (Below.refl _ _))⟩
end Go.Proofs.YtbnppjmmlfncmaaGreatDoor
namespace Go.Proofs.YtbnppjmmlfncmaaGreatDoor
open Go.RowKit Go.Maps
variable [Fo]
theorem one_str (w : World) (b : UInt8) : (convert 39 9 (.slice (some ⟨w.heap.size,0,none⟩) 1 1)).run Tryz.prog (w.alloc (.cells #[.int .u8 (b.toNat : Int)] 5)) = .ok (.string ⟨#[b]⟩) (w.alloc (.cells #[.int .u8 (b.toNat : Int)] 5)) :=
 Nm.put_str [b] (ORow.lit w w.heap.size 5 #[.int .u8 (b.toNat : Int)] (Nat.le_refl _) (by simp [maxLen]))
theorem one_strD (w : World) (b : UInt8) : (convert 39 9 (.slice (some ⟨w.heap.size,0,none⟩) 1 1)).run Tryz.prog (w.alloc (.cells #[.int .u8 (b.toNat : Int)] 5)).drew = .ok (.string ⟨#[b]⟩) (w.alloc (.cells #[.int .u8 (b.toNat : Int)] 5)).drew :=
 Nm.put_str [b] (ORow.drew (ORow.lit w w.heap.size 5 #[.int .u8 (b.toNat : Int)] (Nat.le_refl _) (by simp [maxLen])))
theorem app_one (s : ByteArray) (b : UInt8) : (s ++ (⟨#[b]⟩ : ByteArray)).data.toList = s.data.toList ++ [b]:=by simp [ByteArray.append_eq,ByteArray.data_append]
theorem tblank_any (b : UInt8) (w : World) : Calls Tryz.prog 260 #[.int .u8 (b.toNat : Int)] w fun e w' => e = .returned (.bool (blankB b)) /\ w' = w:=by
 go_enter Tryz.func260,Tryz.ntmps260
 go_wp2
 all_goals
  go_ret
  refine ⟨ret_bool ?_,rfl⟩
  unfold blankB
  rw [Bool.eq_iff_iff]
  first | (simp; done) | (simp; omega) | omega
set_option maxHeartbeats 4000000 in
theorem goes_any (w : World) (m i : Nat) (s : ByteArray) (b : UInt8) (hc : w.cell? ⟨m,i,none⟩ = some (.string s)) (hl : m < w.heap.size) (hs : s.size <= 1000) :
 Calls Tryz.prog 258 #[.pointer (some ⟨m,i,none⟩),.int .u8 (b.toNat : Int)] w fun e w' => e = .returned (.bool (mayB1 s b)) /\ Below w.heap.size w w':=by
 have h1:=one_str w b
 have h1d:=one_strD w b
 have hM:=fun w' => Nm.may_any (s ++ (⟨#[b]⟩ : ByteArray)) w' (by have h2 : (s ++ (⟨#[b]⟩ : ByteArray)).size = s.size + 1:=ByteArray.size_append; omega)
 rw [app_one] at hM
 have al : Below w.heap.size w (w.alloc (.cells #[.int .u8 (b.toNat : Int)] 5)):=(Below.refl _ _).alloc (Nat.le_refl _) _
 have ald : Below w.heap.size w (w.alloc (.cells #[.int .u8 (b.toNat : Int)] 5)).drew:=below_drew al
 unfold mayB1
 go_enter Tryz.func258,Tryz.ntmps258
 go_wp2
 go_region_with (first
  | (go_at_call 175; refine (hM _).mono ?_; rintro e w' ⟨rfl,rfl⟩))
 all_goals
  go_wp2
  go_ret
  exact ⟨rfl,ald⟩
set_option maxHeartbeats 4000000 in
theorem oadd_any (w : World) (m i : Nat) (s : ByteArray) (b : UInt8) (most : Nat) (hc : w.cell? ⟨m,i,none⟩ = some (.string s)) (hf : w.frozen? ⟨m,i,none⟩ = false) (hl : m < w.heap.size) (hs : s.size <= 1000) (hmo : most <= 1000) :
 Calls Tryz.prog 266 #[.pointer (some ⟨m,i,none⟩),.int .u8 (b.toNat : Int),.int .i64 (most : Int)] w fun e w' =>
  if most <= s.size then e = .returned (.int .i64 4) /\ w' = w
  else e = .returned (.int .i64 0) /\ Below (w.setCell ⟨m,i,none⟩ (.string (s ++ ⟨#[b]⟩))).heap.size (w.setCell ⟨m,i,none⟩ (.string (s ++ ⟨#[b]⟩))) w':=by
 by_cases h30 : most <= s.size
 case pos =>
  simp only [if_pos h30]
  go_enter Tryz.func266,Tryz.ntmps266
  go_wp2
  go_ret
  exact ⟨rfl,rfl⟩
 case neg =>
  simp only [if_neg h30]
  have hcv:=one_strD w b
  have al : Below (w.setCell ⟨m,i,none⟩ (.string (s ++ ⟨#[b]⟩))).heap.size (w.setCell ⟨m,i,none⟩ (.string (s ++ ⟨#[b]⟩))) ((w.setCell ⟨m,i,none⟩ (.string (s ++ ⟨#[b]⟩))).alloc (.cells #[.int .u8 (b.toNat : Int)] 5)).drew:=below_drew ((Below.refl _ _).alloc (Nat.le_refl _) _)
  have AL:=Lib.hid al
  clear al
  go_enter Tryz.func266,Tryz.ntmps266
  go_wp2
  go_region
  go_wp2
  go_ret
  exact ⟨rfl,AL.out⟩
theorem otake_any (w : World) (m i : Nat) (s : ByteArray) (hc : w.cell? ⟨m,i,none⟩ = some (.string s)) (hf : w.frozen? ⟨m,i,none⟩ = false) (hl : m < w.heap.size) :
 Calls Tryz.prog 271 #[.pointer (some ⟨m,i,none⟩)] w fun e w' => e = .returned (.string s) /\ w' = w.setCell ⟨m,i,none⟩ (.string ⟨#[]⟩):=by
 go_enter Tryz.func271,Tryz.ntmps271
 go_wp2
 go_ret
 exact ⟨rfl,rfl⟩
theorem tadd_any (w : World) (m i : Nat) (s : ByteArray) (b : UInt8) (hc : w.cell? ⟨m,i,none⟩ = some (.string s)) (hf : w.frozen? ⟨m,i,none⟩ = false) (hl : m < w.heap.size) (hs : s.size <= 1000) :
 Calls Tryz.prog 259 #[.pointer (some ⟨m,i,none⟩),.int .u8 (b.toNat : Int)] w fun e w' =>
  if 30 <= s.size then e = .returned (.int .i64 4) /\ w' = w
  else e = .returned (.int .i64 0) /\ Below (w.setCell ⟨m,i,none⟩ (.string (s ++ ⟨#[b]⟩))).heap.size (w.setCell ⟨m,i,none⟩ (.string (s ++ ⟨#[b]⟩))) w':=by
 have hC:=Lib.hid (oadd_any w m i s b 30 hc hf hl hs (by decide))
 clear hc hf
 go_enter Tryz.func259,Tryz.ntmps259
 go_wp2_with fail
 refine hC.out.mono ?_
 rintro e w' hq
 by_cases h30 : 30 <= s.size
 ·rw [if_pos h30] at hq
  obtain ⟨rfl,rfl⟩:=hq
  go_wp2
  go_ret
  exact ⟨rfl,rfl⟩
 ·rw [if_neg h30] at hq
  obtain ⟨rfl,hb⟩:=hq
  have HB:=Lib.hid hb
  clear hb
  go_wp2
  go_ret
  exact ⟨rfl,by first | exact HB.out | simpa using HB.out⟩
set_option maxHeartbeats 4000000 in
theorem tend_any (w : World) (m i : Nat) (s : ByteArray) (hc : w.cell? ⟨m,i,none⟩ = some (.string s)) (hf : w.frozen? ⟨m,i,none⟩ = false) (hl : m < w.heap.size) (hs : s.size <= 1000) (hw : Nm.StdW (w.setCell ⟨m,i,none⟩ (.string ⟨#[]⟩))) :
 Calls Tryz.prog 262 #[.pointer (some ⟨m,i,none⟩)] w fun e w' =>
  e = .returned (.tuple #[.string (endS s),.int .i64 (endC s)]) /\ Below (w.setCell ⟨m,i,none⟩ (.string ⟨#[]⟩)).heap.size (w.setCell ⟨m,i,none⟩ (.string ⟨#[]⟩)) w':=by
 obtain ⟨W,hW⟩ : ∃ W,w.setCell ⟨m,i,none⟩ (.string ⟨#[]⟩) = W:=⟨_,rfl⟩
 have hMay:=Nm.may_any s (w.setCell ⟨m,i,none⟩ (.string ⟨#[]⟩)) (by omega)
 have hRd:=Nm.read_any s (w.setCell ⟨m,i,none⟩ (.string ⟨#[]⟩)) hw (by omega)
 clear hw
 have HR:=Lib.hid (Below.refl (w.setCell ⟨m,i,none⟩ (.string ⟨#[]⟩)).heap.size (w.setCell ⟨m,i,none⟩ (.string ⟨#[]⟩)))
 unfold endS endC
 cases hi : Nm.isB s.data.toList with
 | false =>
  rw [if_neg (by decide),if_neg (by decide)]
  rw [hi] at hMay
  clear hi hRd
  have hTk:=otake_any w m i s hc hf hl
  rw [hW] at hTk hMay HR ⊢
  have HTk:=Lib.hid hTk
  clear hTk hc hf hW
  go_enter Tryz.func262,Tryz.ntmps262
  go_wp2_with fail
  refine HTk.out.mono ?_
  rintro e w1 ⟨rfl,rfl⟩
  go_wp2_with fail
  refine hMay.mono ?_
  rintro e w' ⟨rfl,rfl⟩
  go_wp2
  go_ret2
  exact ⟨rfl,HR.out⟩
 | true =>
  rw [if_pos rfl,if_pos rfl]
  rw [hi] at hMay
  generalize Nm.readC s.data.toList = c at *
  generalize Nm.readS s.data.toList = f at *
  clear hi
  have hTk:=otake_any w m i s hc hf hl
  rw [hW] at hTk hMay hRd ⊢
  have HTk:=Lib.hid hTk
  clear hTk hc hf hW
  go_enter Tryz.func262,Tryz.ntmps262
  go_wp2_with fail
  refine HTk.out.mono ?_
  rintro e w0 ⟨rfl,rfl⟩
  go_wp2_with fail
  refine hMay.mono ?_
  rintro e w' ⟨rfl,rfl⟩
  go_wp2_with fail
  refine hRd.mono ?_
  rintro e w1 ⟨rfl,hb1⟩
  go_wp2
  go_ret2
  exact ⟨rfl,hb1⟩
end Go.Proofs.YtbnppjmmlfncmaaGreatDoor
namespace Go.Proofs.YtbnppjmmlfncmaaGreatDoor
open Go.RowKit Go.Maps
variable [Fo]
def mCells (M : Mc) (ov qp : Value) : Array Value:=#[.int .i64 M.a,ov,.int .i64 M.ek,.string M.et,.string M.ev,.string M.rs,.string M.nm,qp]
structure MAt (w : World) (base m : Nat) (M : Mc) (qp : Value) : Prop where
 ex : ∃ ov,Blk w m 74 (mCells M ov qp) /\ ORow w base 5 ov (M.op.map bV) /\ NF ov
 bm : base <= m
 nf : ¬ Fo.F m
 lim : Fo.lim <= w.heap.size
def mObj : Obj -> Prop
 | .cells _ t _ => t = 74 \/ t = 5
 | _ => False
def mOnly : Obj -> Prop
 | .cells _ t _ => t = 74
 | _ => False
section
variable {w w' : World} {base m : Nat} {M : Mc} {qp : Value}
theorem MAt.lt (h : MAt w base m M qp) : m < w.heap.size:=by obtain ⟨ov,hB,_⟩:=h.ex; exact hB.lt
theorem MAt.tch {p : Obj -> Prop} (h : MAt w base m M qp) (ht : Tch base p w w') (hp : ∀ cs t fr,t = 74 \/ t = 5 -> ¬ p (.cells cs t fr)) : MAt w' base m M qp:=by
 obtain ⟨ov,hB,hR,hf⟩:=h.ex
 exact ⟨⟨ov,hB.tch ht (.inr (hp _ _ _ (.inl rfl))),row_tch hR ht (fun _ _ => hp _ _ _ (.inr rfl)),hf⟩,h.bm,h.nf,Nat.le_trans h.lim ht.size⟩
theorem MAt.below (h : MAt w base m M qp) (hb : Below w.heap.size w w') : MAt w' base m M qp:=h.tch (p:=fun _ => False) (Tch.of_below hb) (fun _ _ _ _ => id)
theorem MAt.touch (h : MAt w base m M qp) (i : Nat) (u : Value) : Tch base mOnly w (w.setCell ⟨m,i,none⟩ u):=by
 obtain ⟨ov,hB,_⟩:=h.ex
 exact (Tch.refl _ _ _).set hB h.bm h.nf (show mOnly (.cells _ _ _) from rfl) i u
theorem MAt.set (h : MAt w base m M qp) (i : Nat) (u : Value) {M' : Mc} {qp' : Value} (hc : ∀ ov,(mCells M ov qp).setIfInBounds i u = mCells M' ov qp') (ho : M'.op = M.op) : MAt (w.setCell ⟨m,i,none⟩ u) base m M' qp':=by
 have ht:=h.touch i u
 obtain ⟨ov,hB,hR,hf⟩:=h.ex
 refine ⟨⟨ov,by rw [<- hc ov]; exact hB.set_ i u,?_,hf⟩,h.bm,h.nf,Nat.le_trans h.lim ht.size⟩
 rw [ho]
 exact row_tch hR ht (fun _ _ => by simp only [mOnly]; decide)
end
theorem mo_of {o : Obj} (h : mOnly o) : mObj o:=by cases o <;> simp only [mOnly,mObj] at h ⊢; exact .inl h
theorem closing_any (w : World) (base m : Nat) (M : Mc) (qp : Value) (h : MAt w base m M qp) (hne : M.op ≠ []) :
 Calls Tryz.prog 275 #[.pointer (some ⟨m,0,none⟩)] w fun e w' => e = .returned (.int .u8 ((topB M.op).toNat : Int)) /\ w' = w.drew:=by
 obtain ⟨ov,hB,hR,_⟩:=h.ex
 have hf:=hR.form
 rcases hf with ⟨_,h0⟩ | ⟨g,cap,rfl,hg,hgl,hlc,hcm⟩
 ·exact absurd (by simpa using h0) hne
 have hl : 0 < M.op.length:=List.length_pos_iff.2 hne
 rw [List.length_map] at hlc hB hR
 have hcm2 : cap <= 9223372036854775807:=by simpa [maxLen] using hcm
 have hc : w.cell? ⟨g,M.op.length - 1,none⟩ = some (.int .u8 ((topB M.op).toNat : Int)):=by
  have h1 : w.ownsRow base 5 1 (.slice (some ⟨g,0,none⟩) M.op.length cap) M.op.length (M.op.map bV):=by
   unfold ORow at hR; rw [List.length_map] at hR; exact hR
  rw [rowN_cell h1 (by omega)]
  obtain ⟨ys,y,hy⟩ : ∃ ys y,M.op = ys ++ [y]:=⟨_,_,(List.dropLast_concat_getLast hne).symm⟩
  rw [hy]
  simp [topB,bV]
 have c1 : w.cell? ⟨m,1,none⟩ = some (.slice (some ⟨g,0,none⟩) M.op.length cap):=hB.cell 1
 obtain ⟨n,hn⟩ : ∃ n,M.op.length = n + 1:=⟨M.op.length - 1,by omega⟩
 rw [hn] at hc c1 hlc
 rw [Nat.add_sub_cancel] at hc
 generalize (topB M.op).toNat = tb at *
 clear hR hB hn hne hl
 go_enter Tryz.func275,Tryz.ntmps275
 go_wp2
 go_region
 go_wp2
 go_ret
 exact ⟨rfl,rfl⟩
end Go.Proofs.YtbnppjmmlfncmaaGreatDoor
namespace Go.Proofs.YtbnppjmmlfncmaaGreatDoor
open Go.RowKit Go.Maps
variable [Fo]
def bObj (o : Obj) : Prop:=tObj o \/ mObj o
structure BAt (w : World) (base m o ck : Nat) (s : Bs) (qp : Value) : Prop where
 mc : MAt w base m s.m qp
 out : OAt w base o ck s.st s.l
def BPo (w : World) (base m o ck : Nat) (qp : Value) (r : Br) (e : Ending) (w' : World) : Prop :=
 e = .returned (.int .i64 r.e) /\ BAt w' base m o ck r.b qp /\ Tch base bObj w w'
section
variable {w w' : World} {base m o ck : Nat} {s : Bs} {qp : Value}
theorem t_of_b {o : Obj} (h : tObj o) : bObj o:=.inl h
theorem m_of_b {o : Obj} (h : mObj o) : bObj o:=.inr h
theorem OAt.of_m {st : List Pt} {l : List Ev} (h : OAt w base o ck st l) (ht : Tch base mObj w w') : OAt w' base o ck st l :=
 h.tch ht (fun cs t fr h hc => by simp only [mObj] at hc; rcases h with rfl | rfl | rfl | rfl <;> exact absurd hc (by decide)) (fun _ _ hc => hc)
theorem MAt.of_t {M : Mc} (h : MAt w base m M qp) (ht : Tch base tObj w w') : MAt w' base m M qp :=
 h.tch ht (fun cs t fr h hc => by simp only [tObj] at hc; rcases h with rfl | rfl <;> exact absurd hc (by decide))
theorem told {M : Mc} {x : Ev} {e : Ending} (hM : MAt w base m M qp) (h : TellPost w base o ck s.st s.l x e w') {w0 : World} (h0 : Tch base mObj w0 w) : BPo w0 base m o ck qp (tellB M s.st s.l x) e w' :=
 ⟨h.1,⟨hM.of_t h.2.2,h.2.1⟩,(h0.wide fun _ => m_of_b).trans (h.2.2.wide fun _ => t_of_b)⟩
theorem MAt.setop {M : Mc} {ov ov' : Value} {op' : List UInt8} (hB : Blk w m 74 (mCells M ov qp)) (hb : base <= m) (hm : ¬ Fo.F m) (hl : Fo.lim <= w.heap.size) (hf : NF ov') (hR : ORow w base 5 ov' (op'.map bV)) : MAt (w.setCell ⟨m,1,none⟩ ov') base m { M with op:=op' } qp:=by
 have ht : Tch base mOnly w (w.setCell ⟨m,1,none⟩ ov'):=(Tch.refl _ _ _).set hB hb hm (show mOnly (.cells _ _ _) from rfl) 1 ov'
 exact ⟨⟨ov',hB.set_ 1 ov',row_tch hR ht (fun _ _ => by simp only [mOnly]; decide),hf⟩,hb,hm,Nat.le_trans hl ht.size⟩
end
set_option maxHeartbeats 4000000 in
theorem finish_any (w : World) (base m o ck : Nat) (s : Bs) (qp : Value) (h : BAt w base m o ck s qp) (hne : s.m.op ≠ []) (hg : Good s.st) (hl : s.l.length <= 1000000) (hw : SW base w) (hb : base <= w.heap.size) :
 Calls Tryz.prog 267 #[.pointer (some ⟨m,0,none⟩),.pointer (some ⟨o,0,none⟩)] w (BPo w base m o ck qp (finishB s)):=by
 have hC:=closing_any w base m s.m qp h.mc hne
 obtain ⟨ov,hB,hR,hnf⟩:=h.mc.ex
 rcases hR.form with ⟨_,h0⟩ | ⟨g,cap,rfl,hg',hgl,hlc,hcm⟩
 ·exact absurd (by simpa using h0) hne
 rw [List.length_map] at hlc hB hR
 have hcm2 : cap <= 9223372036854775807:=by simpa [maxLen] using hcm
 obtain ⟨n,hn⟩ : ∃ n,s.m.op.length = n + 1:=⟨s.m.op.length - 1,by have:=List.length_pos_iff.2 hne; omega⟩
 have h1 : w.ownsRow base 5 1 (.slice (some ⟨g,0,none⟩) (n + 1) cap) (n + 1) (s.m.op.map bV):=by
  have h:=hR; unfold ORow at h; rw [List.length_map,hn] at h; exact h
 have h2:=rowN_cut h1 (Nat.le_succ n)
 have h3 : ORow w base 5 (.slice (some ⟨g,0,none⟩) n cap) (s.m.op.dropLast.map bV):=by
  unfold ORow
  rw [List.dropLast_eq_take,List.length_map,List.length_take,hn]
  rw [Nat.mul_one,<- List.map_take] at h2
  rw [Nat.add_sub_cancel,Nat.min_eq_left (Nat.le_succ n)]
  exact h2
 rw [hn] at hB hlc
 have c1 : w.cell? ⟨m,1,none⟩ = some (.slice (some ⟨g,0,none⟩) (n + 1) cap):=hB.cell 1
 have hdd : Below w.heap.size w w.drew.drew:=below_drew (below_drew (Below.refl _ _))
 have hB2:=hB.below hdd hB.lt
 have hR2 : ORow w.drew.drew base 5 (.slice (some ⟨g,0,none⟩) n cap) (s.m.op.dropLast.map bV):=h3
 have hM2:=MAt.setop (M:=s.m) hB2 h.mc.bm h.mc.nf h.mc.lim hnf.slice hR2
 have hM3:=hM2.set 0 (.int .i64 5) (M':={ s.m with op:=s.m.op.dropLast,a:=5 }) (qp':=qp) (fun ov => rfl) rfl
 have f1:=hB.frozen 1
 have f0:=hB.frozen 0
 have d0:=hB.cell 0
 have hlt:=hB.lt
 have ht : Tch base mOnly w ((w.drew.drew.setCell ⟨m,1,none⟩ (.slice (some ⟨g,0,none⟩) n cap)).setCell ⟨m,0,none⟩ (.int .i64 5)) :=
  ((Tch.of_below hdd).trans ((Tch.refl _ _ _).set hB2 h.mc.bm h.mc.nf (show mOnly (.cells _ _ _) from rfl) 1 _)).trans (hM2.touch 0 _)
 have ht2:=ht.wide fun _ => mo_of
 have hO:=h.out.of_m ht2
 have hbw : Below base w ((w.drew.drew.setCell ⟨m,1,none⟩ (.slice (some ⟨g,0,none⟩) n cap)).setCell ⟨m,0,none⟩ (.int .i64 5)):=ht.below hb
 have hT:=fun k => tell_any _ base o ck s.st s.l (bare k) hO hg (NumW.of (hw.below hbw).std) (bare_size k) hl (Nat.le_trans hb hbw.size)
 have HT:=Lib.hid hT
 have HF:=Lib.hid (fun k e w' (hp : TellPost _ base o ck s.st s.l (bare k) e w') => told (x:=bare k) hM3 hp ht2)
 unfold finishB
 have hcl : ∀ b : Bool,((topB s.m.op).toNat = 125) = (b = true) -> True:=fun _ _ => trivial
 by_cases h125 : (topB s.m.op).toNat = 125
 case pos =>
  rw [if_pos h125]
  rw [h125] at hC
  clear h125 hT hO hM2 hM3 hB hB2 hR hR2 h1 h2 h3 hne hg hl hcl hbw ht ht2 hdd hw
  go_enter Tryz.func267,Tryz.ntmps267
  go_wp2_with fail
  refine hC.mono ?_
  rintro e w1 ⟨rfl,rfl⟩
  go_wp2
  go_region
  go_wp2_with fail
  refine (HT.out 9).mono ?_
  intro e w5 hp
  have hq:=HF.out 9 e w5 hp
  obtain ⟨rfl,_⟩:=hp
  go_wp2
  go_ret
  exact hq
 case neg =>
  rw [if_neg h125]
  have hcl2 : ((((topB s.m.op).toNat : Nat) : Int) == 125) = false:=by rw [beq_eq_false_iff_ne]; omega
  clear h125 hT hO hM2 hM3 hB hB2 hR hR2 h1 h2 h3 hne hg hl hcl hbw ht ht2 hdd hw
  generalize (topB s.m.op).toNat = tb at *
  go_enter Tryz.func267,Tryz.ntmps267
  go_wp2_with fail
  refine hC.mono ?_
  rintro e w1 ⟨rfl,rfl⟩
  go_wp2
  go_region
  go_wp2_with fail
  refine (HT.out 6).mono ?_
  intro e w5 hp
  have hq:=HF.out 6 e w5 hp
  obtain ⟨rfl,_⟩:=hp
  go_wp2
  go_ret
  exact hq
def uOnly : Obj -> Prop
 | .cells _ t _ => t = 5
 | _ => False
theorem u_of_m {o : Obj} (h : uOnly o) : mObj o:=by cases o <;> simp only [uOnly,mObj] at h ⊢; exact .inr h
theorem op_shape {w : World} {base : Nat} {v u : Value} {l : List UInt8} (h : ORow w base 5 v (l.map bV ++ [u])) : ∃ A c,v = .slice A (l.length + 1) c:=by
 obtain ⟨A,c,e⟩:=h.shape
 exact ⟨A,c,by rw [e]; simp⟩
set_option maxHeartbeats 4000000 in
theorem begin_any (w : World) (base m o ck : Nat) (s : Bs) (qp : Value) (k : Int) (c : UInt8) (a : Int) (h : BAt w base m o ck s qp) (hop : s.m.op.length <= 200000) (hg : Good s.st) (hl : s.l.length <= 1000000) (hw : SW base w) (hb : base <= w.heap.size) :
 Calls Tryz.prog 276 #[.pointer (some ⟨m,0,none⟩),.int .i64 k,.int .u8 (c.toNat : Int),.int .i64 a,.pointer (some ⟨o,0,none⟩)] w (BPo w base m o ck qp (beginB s k c a)):=by
 obtain ⟨ov,hB,hR,hnf⟩:=h.mc.ex
 have hmf:=h.mc.nf
 have hlim:=h.mc.lim
 have HNF:=Lib.hid (And.intro hnf hlim)
 have c1 : w.cell? ⟨m,1,none⟩ = some ov:=hB.cell 1
 have h63 : (s.m.op.map bV).length + 1 <= maxLen:=by simp only [maxLen,List.length_map]; omega
 have h1b : ((s.m.op.map bV).length + 1) * 1 <= 140737488355328:=by simp only [List.length_map]; omega
 have hbm:=h.mc.bm
 have hout:=h.out
 have H : Hid (∀ (A : Option Addr) (n cap : Nat) (w1 : World),ORow w1 base 5 (.slice A n cap) (s.m.op.map bV ++ [.int .u8 (c.toNat : Int)]) -> w.grownBy w1 ov.ownBlock -> NF (.slice A n cap) ->
  w1.frozen? ⟨m,1,none⟩ = false /\ w1.cell? ⟨m,1,none⟩ = some ov /\ w1.frozen? ⟨m,0,none⟩ = false /\ w1.cell? ⟨m,0,none⟩ = some (.int .i64 s.m.a) /\ m < w1.heap.size /\
  (∀ W,W = (w1.setCell ⟨m,1,none⟩ (.slice A n cap)).setCell ⟨m,0,none⟩ (.int .i64 a) -> MAt W base m { s.m with op:=s.m.op ++ [c],a:=a } qp /\ Tch base mObj w W /\ Calls Tryz.prog 263 #[.pointer (some ⟨o,0,none⟩),.agg #[.int .i64 k,.string ⟨#[]⟩,.string ⟨#[]⟩],.slice none 0 0] W (TellPost W base o ck s.st s.l (bare k)))):=by
  refine Lib.hid fun A n cap w1 hown hgr hnf1 => ?_
  have htu : Tch base uOnly w w1:=Tch.of_row hR hgr (Nat.le_refl _) hnf (fun cur => rfl)
  have hB1:=hB.tch htu (.inr (by simp only [uOnly]; decide))
  have hown' : ORow w1 base 5 (.slice A n cap) ((s.m.op ++ [c]).map bV):=by rw [List.map_append]; exact hown
  refine ⟨hB1.frozen 1,hB1.cell 1,hB1.frozen 0,hB1.cell 0,hB1.lt,fun W e => ?_⟩
  subst e
  have hM1:=MAt.setop (M:=s.m) hB1 hbm hmf (Nat.le_trans hlim htu.size) hnf1 hown'
  have hM2:=hM1.set 0 (.int .i64 a) (M':={ s.m with op:=s.m.op ++ [c],a:=a }) (qp':=qp) (fun ov => rfl) rfl
  have ht1 : Tch base mOnly w1 (w1.setCell ⟨m,1,none⟩ (.slice A n cap)):=(Tch.refl _ _ _).set hB1 hbm hmf (show mOnly (.cells _ _ _) from rfl) 1 _
  have ht : Tch base mObj w ((w1.setCell ⟨m,1,none⟩ (.slice A n cap)).setCell ⟨m,0,none⟩ (.int .i64 a)):=((htu.wide fun _ => u_of_m).trans (ht1.wide fun _ => mo_of)).trans ((hM1.touch 0 _).wide fun _ => mo_of)
  exact ⟨hM2,ht,tell_any _ base o ck s.st s.l (bare k) (hout.of_m ht) hg (NumW.of (hw.tch ht hb).std) (bare_size k) hl (Nat.le_trans hb ht.size)⟩
 unfold beginB
 clear hB hbm hout hg hl hw h hnf hmf hlim
 go_enter Tryz.func276,Tryz.ntmps276
 go_wp2_with (first
  | (at_builtin; refine wp_app1 rfl _ _ 39 rfl base 5 (.int .u8 0) 1 Tryz.underlying39 Tryz.info5 rfl ov (s.m.op.map bV) (.int .u8 (c.toNat : Int)) rfl (by exact hR) rfl 1 rfl h63 h1b hb ?_; intro v1 w1 hown1 hg1 hnb1; have hnf1 : NF v1:=HNF.out.1.nb (w:=w) (hnb1.imp id fun e => ⟨_,e,Nat.le_succ _⟩) HNF.out.2; obtain ⟨A1,cp1,rfl⟩:=op_shape hown1; obtain ⟨f1,d1,f0,d0,dl,HN⟩:=H.out _ _ _ w1 hown1 hg1 hnf1; clear hnb1 hnf1 H hown1 hg1 hR c1))
 refine (HN _ rfl).2.2.mono ?_
 intro e w5 hp
 have hq:=told (x:=bare k) (HN _ rfl).1 hp (HN _ rfl).2.1
 obtain ⟨rfl,_⟩:=hp
 clear HN
 go_wp2
 go_ret
 exact hq
end Go.Proofs.YtbnppjmmlfncmaaGreatDoor

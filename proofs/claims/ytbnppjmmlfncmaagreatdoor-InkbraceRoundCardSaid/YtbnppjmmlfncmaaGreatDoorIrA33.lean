/-
  inkbrace's law: few; the document's example.
  inkbrace's law: copied.
  A tree's texts are short (pure).
  The walk of InkbraceStays.
  An event told to a Check: what waits then. Plain functions; no program is read here.
  What an open number tells, and blanks: plain functions. No program is read here.
  The brace syntax as a plain function on bytes: the machine, its step, its end. No program is read here.
-/
import Derived.Test.YtbnppjmmlfncmaaGreatDoorIrA01
import Derived.Test.YtbnppjmmlfncmaaGreatDoorIrA19
import Derived.Test.YtbnppjmmlfncmaaGreatDoorIrA32
import Derived.Test.YtbnppjmmlfncmaaGreatDoorIrA07
import Derived.Test.YtbnppjmmlfncmaaGreatDoorIrA17
import Derived.Test.YtbnppjmmlfncmaaGreatDoorIrA03
import Derived.Test.YtbnppjmmlfncmaaGreatDoorIrA12
import Derived.Test.YtbnppjmmlfncmaaGreatDoorIrA05
set_option maxRecDepth 100000
set_option linter.unusedSimpArgs false
set_option linter.unusedVariables false
namespace Go.Proofs.YtbnppjmmlfncmaaGreatDoor
open Go.RowKit Go.Maps
theorem ifew_any (n : Nd) (S : Nat -> Nat -> Prop) (A : Option Addr) (c : Nat) (w : World) (hA : NAt S w n A c) :
 Calls Tryz.prog 14 #[.agg #[.int .i64 n.k,.string n.t,.string n.v,.slice A n.kids.length c]] w fun e w' => e = .returned (.bool (decide (0 <= fewN n 200 20))) /\ Below w.heap.size w w':=by
 have hal:=al_nd w #[.int .i64 n.k,.string n.t,.string n.v,.slice A n.kids.length c]
 have hF:=rfew_any n 200 20 S A c _ (by omega) (by omega) (by omega) (by omega) (hA.below hal)
 generalize fewN n 200 20 = r at *
 go_enter Tryz.func14,Tryz.ntmps14
 go_wp2_with (first
  | (go_at_call 23; refine hF.mono ?_; clear hF; rintro e w5 ⟨rfl,hb5⟩))
 go_ret
 exact ⟨rfl,hal.trans (hb5.mono hal.size)⟩
def liveI : Nd:=.mk 7 ⟨#[]⟩ ⟨#[]⟩ [.mk 8 ⟨#[97]⟩ ⟨#[]⟩ [.mk 5 ⟨#[]⟩ ⟨#[]⟩ [.mk 3 ⟨#[49]⟩ ⟨#[]⟩ [],.mk 4 ⟨#[120]⟩ ⟨#[]⟩ []]]]
theorem liveI_ok : okT liveI:=by simp [liveI,okT,okTL,okN,Nd.k,Nd.t,Nd.v,ByteArray.size]
theorem liveI_small : smallT liveI:=by simp [liveI,smallT,smallL,ByteArray.size]
theorem liveI_size : sizeN liveI <= 90000:=by decide
def livI (w : World) : World:=((w.alloc (.cells #[.int .i64 3,.string ⟨#[49]⟩,.string ⟨#[]⟩,.slice none 0 0,.int .i64 4,.string ⟨#[120]⟩,.string ⟨#[]⟩,.slice none 0 0] 24)).alloc (.cells #[.int .i64 5,.string ⟨#[]⟩,.string ⟨#[]⟩,.slice (some ⟨w.heap.size,0,none⟩) 2 2] 24)).alloc (.cells #[.int .i64 8,.string ⟨#[97]⟩,.string ⟨#[]⟩,.slice (some ⟨w.heap.size + 1,0,none⟩) 1 1] 24)
theorem livI_below (w : World) : Below w.heap.size w (livI w):=(((Below.refl _ _).alloc (Nat.le_refl _) _).alloc (by simp) _).alloc (by simp; omega) _
theorem livI_at (w : World) : NAt (fun b _ => b < (livI w).heap.size) (livI w) liveI (some ⟨w.heap.size + 2,0,none⟩) 1:=by
 have hs : (livI w).heap.size = w.heap.size + 3:=by simp [livI]
 have b0 : Blk (livI w) w.heap.size 24 #[.int .i64 3,.string ⟨#[49]⟩,.string ⟨#[]⟩,.slice none 0 0,.int .i64 4,.string ⟨#[120]⟩,.string ⟨#[]⟩,.slice none 0 0]:=((Blk.new w _ _).alloc _).alloc _
 have b1 : Blk (livI w) (w.heap.size + 1) 24 #[.int .i64 5,.string ⟨#[]⟩,.string ⟨#[]⟩,.slice (some ⟨w.heap.size,0,none⟩) 2 2]:=by
  have:=Blk.new (w.alloc (.cells #[.int .i64 3,.string ⟨#[49]⟩,.string ⟨#[]⟩,.slice none 0 0,.int .i64 4,.string ⟨#[120]⟩,.string ⟨#[]⟩,.slice none 0 0] 24)) 24 #[.int .i64 5,.string ⟨#[]⟩,.string ⟨#[]⟩,.slice (some ⟨w.heap.size,0,none⟩) 2 2]
  rw [World.size_alloc] at this
  exact this.alloc _
 have b2 : Blk (livI w) (w.heap.size + 2) 24 #[.int .i64 8,.string ⟨#[97]⟩,.string ⟨#[]⟩,.slice (some ⟨w.heap.size + 1,0,none⟩) 1 1]:=by
  have:=Blk.new ((w.alloc (.cells #[.int .i64 3,.string ⟨#[49]⟩,.string ⟨#[]⟩,.slice none 0 0,.int .i64 4,.string ⟨#[120]⟩,.string ⟨#[]⟩,.slice none 0 0] 24)).alloc (.cells #[.int .i64 5,.string ⟨#[]⟩,.string ⟨#[]⟩,.slice (some ⟨w.heap.size,0,none⟩) 2 2] 24)) 24 #[.int .i64 8,.string ⟨#[97]⟩,.string ⟨#[]⟩,.slice (some ⟨w.heap.size + 1,0,none⟩) 1 1]
  rw [World.size_alloc,World.size_alloc] at this
  exact this
 rw [NAt.def_]
 refine ⟨Nat.le_refl _,by decide,fun _ => ⟨w.heap.size + 2,0,rfl,by omega,fun j hj => ?_⟩⟩
 obtain rfl : j = 0:=by simpa [liveI,Nd.kids] using hj
 refine ⟨some ⟨w.heap.size + 1,0,none⟩,1,b2.cell 0,b2.cell 1,b2.cell 2,b2.cell 3,?_⟩
 rw [NAt.def_]
 refine ⟨Nat.le_refl _,by decide,fun _ => ⟨w.heap.size + 1,0,rfl,by omega,fun j hj => ?_⟩⟩
 obtain rfl : j = 0:=by simpa [liveI,Nd.kids] using hj
 refine ⟨some ⟨w.heap.size,0,none⟩,2,b1.cell 0,b1.cell 1,b1.cell 2,b1.cell 3,?_⟩
 rw [NAt.def_]
 refine ⟨Nat.le_refl _,by decide,fun _ => ⟨w.heap.size,0,rfl,by omega,fun j hj => ?_⟩⟩
 have hj2 : j < 2:=by simpa [liveI,Nd.kids] using hj
 match j,hj2 with
 | 0,_ => exact ⟨none,0,b0.cell 0,b0.cell 1,b0.cell 2,b0.cell 3,NAt.leaf _ _ _ _ _ _⟩
 | 1,_ => exact ⟨none,0,b0.cell 4,b0.cell 5,b0.cell 6,b0.cell 7,NAt.leaf _ _ _ _ _ _⟩
theorem liveI_e : prE liveI = 0:=by decide +kernel
theorem liveI_s : prS liveI = [123,34,97,34,58,91,49,44,34,120,34,93,125]:=by decide +kernel
set_option maxHeartbeats 8000000 in
theorem ilives_any (w : World) (hw : Nm.StdW w) : Calls Tryz.prog 15 #[] w fun e w' => e = .returned (.bool true) /\ Below w.heap.size w w':=by
 have hN:=livI_at w
 have hb0:=livI_below w
 have hsz : (livI w).heap.size = w.heap.size + 3:=by simp [livI]
 obtain ⟨W1,hW1⟩ : ∃ W1,(livI w).alloc (.cells #[.int .i64 7,.string ⟨#[]⟩,.string ⟨#[]⟩,.slice (some ⟨w.heap.size + 2,0,none⟩) 1 1] 24) = W1:=⟨_,rfl⟩
 have bX:=Blk.new (livI w) 24 #[.int .i64 7,.string ⟨#[]⟩,.string ⟨#[]⟩,.slice (some ⟨w.heap.size + 2,0,none⟩) 1 1]
 have al1:=al_nd (livI w) #[.int .i64 7,.string ⟨#[]⟩,.string ⟨#[]⟩,.slice (some ⟨w.heap.size + 2,0,none⟩) 1 1]
 rw [hW1] at bX al1
 rw [hsz] at bX
 have hN1:=hN.upp al1
 have hb1:=hb0.trans (al1.mono hb0.size)
 have x0 : W1.cell? ⟨w.heap.size + 3,0,none⟩ = some (.int .i64 7):=bX.cell 0
 have x1 : W1.cell? ⟨w.heap.size + 3,1,none⟩ = some (.string ⟨#[]⟩):=bX.cell 1
 have x2 : W1.cell? ⟨w.heap.size + 3,2,none⟩ = some (.string ⟨#[]⟩):=bX.cell 2
 have x3 : W1.cell? ⟨w.heap.size + 3,3,none⟩ = some (.slice (some ⟨w.heap.size + 2,0,none⟩) 1 1):=bX.cell 3
 have hcR:=inkprint_any liveI _ _ W1 (hw.below hb1) hN1 liveI_ok liveI_size (fun _ => liveI_small)
 unfold PrPost at hcR
 rw [liveI_e,liveI_s] at hcR
 have HB1:=Lib.hid hb1
 clear hN hb0 al1 bX hN1 hb1
 unfold livI at hW1
 go_enter Tryz.func15,Tryz.ntmps15
 go_wp2_with fail
 refine hcR.mono ?_
 rintro e w2 ⟨v,rfl,hv,hb2⟩
 have H2:=Lib.hid (HB1.out.trans (hb2.mono HB1.out.size))
 clear hcR hW1 x0 x1 x2 x3 hv hb2 hsz
 go_wp2
 go_ret
 exact ⟨rfl,H2.out⟩
theorem szL (t : ByteArray) : t.data.toList.length = t.size:=by simp
theorem empty_sz {t : ByteArray} (h : emptyT t = true) : t.size <= 48:=by
 have : t.data.toList = []:=of_decide_eq_true h
 rw [<- szL,this]
 simp
theorem valid_sz {t : ByteArray} (h : validL t.data.toList = true) : t.size <= 48:=by
 simp only [validL,Bool.and_eq_true,decide_eq_true_iff] at h
 rw [<- szL]
 exact h.1
theorem full_sz {t : ByteArray} (h : fullL t.data.toList = true) : t.size <= 48:=by
 rw [<- szL]
 unfold fullL at h
 cases hl : t.data.toList with
 | nil => simp
 | cons c r =>
  rw [hl] at h
  simp only [cutL] at h
  by_cases h48 : 48 < r.length + 1
  ·rw [if_pos h48] at h
   cases h
  ·simp only [List.length_cons]
   omega
theorem norm_sz {t : ByteArray} (h : normL t.data.toList = true) : t.size <= 48:=by
 rw [<- szL]
 unfold normL Nm.readL Nm.readE at h
 by_cases h30 : Nm.isB t.data.toList = true /\ t.data.toList.length <= 30
 ·omega
 ·rw [if_neg h30] at h
  cases h
theorem bool_sz {t : ByteArray} (h : boolL t.data.toList = true) : t.size <= 48:=by
 rw [<- szL]
 simp only [boolL,Bool.or_eq_true,decide_eq_true_iff] at h
 rcases h with h | h <;> rw [h] <;> simp
theorem formed_sz {x : Ev} (h : formedB x = true) : x.t.size <= 48 /\ x.v.size <= 48:=by
 unfold formedB at h
 split at h
 ·simp only [Bool.and_eq_true] at h
  exact ⟨empty_sz h.1,empty_sz h.2⟩
 split at h
 ·simp only [Bool.and_eq_true] at h
  exact ⟨bool_sz h.2,empty_sz h.1⟩
 split at h
 ·simp only [Bool.and_eq_true] at h
  exact ⟨norm_sz h.2,empty_sz h.1⟩
 split at h
 ·simp only [Bool.and_eq_true] at h
  exact ⟨valid_sz h.2,empty_sz h.1⟩
 split at h
 ·simp only [Bool.and_eq_true] at h
  exact ⟨full_sz h.2,empty_sz h.1⟩
 split at h
 ·simp only [Bool.and_eq_true] at h
  exact ⟨full_sz h.2,valid_sz h.1⟩
 ·cases h
theorem gram_small (n : Nd) : gram n -> smallT n:=by
 induction n using Nd.ind with
 | h k t v l ih =>
  intro h
  have h1:=formed_sz h.head.1
  simp only [Nd.t,Nd.v] at h1
  exact ⟨by omega,by omega,smallL_mem.2 fun m hm => ih m hm (h.kid hm)⟩
theorem may_small {n : Nd} (h : mayN n = 0) : smallT n:=gram_small n (may_gram h)
theorem ifew_ok {n : Nd} {R : Nat} (h : okW R n) (hR : R <= 140737488355328) (hf : decide (0 <= fewN n 200 20) = true) : okT n /\ sizeN n <= 200:=by
 have h1:=few_size (left:=200) (by omega) (of_decide_eq_true hf)
 exact ⟨okT_of n R h hR (by omega),by omega⟩
def tellL (st : List Pt) (l : List Ev) (x : Ev) : List Ev:=if stepE st x = 0 then l ++ [x] else l
theorem tellL_len (st : List Pt) (l : List Ev) (x : Ev) : (tellL st l x).length <= l.length + 1:=by
 unfold tellL; split <;> simp
def bare (k : Int) : Ev:=⟨k,⟨#[]⟩,⟨#[]⟩⟩
theorem bare_size (k : Int) : (bare k).t.size <= 140737488355328:=Nat.zero_le _
def mayB1 (nm : ByteArray) (b : UInt8) : Bool:=Nm.begB (nm.data.toList ++ [b])
def blankB (b : UInt8) : Bool:=decide (b.toNat = 32 \/ b.toNat = 9 \/ b.toNat = 10 \/ b.toNat = 13)
def endS (nm : ByteArray) : ByteArray:=if Nm.isB nm.data.toList = true then Nm.readS nm.data.toList else ⟨#[]⟩
def endC (nm : ByteArray) : Int:=if Nm.isB nm.data.toList = true then Nm.readC nm.data.toList else 2
theorem endS_size (nm : ByteArray) : (endS nm).size <= 30:=by
 unfold endS
 split
 ·generalize nm.data.toList = l
  cases h : Nm.readL l with
  | none => rw [Nm.readS_none h]; exact Nat.zero_le _
  | some v =>
   rw [Nm.readS_some h]
   have h2 : Nm.okV v = true:=by
    unfold Nm.readL Nm.readE at h
    split at h
    ·split at h
     ·rename_i hok
      injection h with h
      rw [<- h]; exact hok
     ·cases h
    ·cases h
   unfold Nm.okV at h2
   have h3:=(of_decide_eq_true h2).2.2
   show (Nm.formL v).toArray.size <= 30
   rw [List.size_toArray]
   exact h3
 ·exact Nat.zero_le _
structure Mc where
 a : Int
 op : List UInt8
 ek : Int
 et : ByteArray
 ev : ByteArray
 rs : ByteArray
 nm : ByteArray
 q : Qt.QS
def mc0 : Mc:=⟨0,[],0,⟨#[]⟩,⟨#[]⟩,⟨#[]⟩,⟨#[]⟩,Qt.plainQ []⟩
structure Bs where
 m : Mc
 st : List Pt
 l : List Ev
structure Br where
 b : Bs
 e : Int
def tellB (m : Mc) (st : List Pt) (l : List Ev) (x : Ev) : Br:=⟨⟨m,stepS st x,tellL st l x⟩,stepE st x⟩
def topB (op : List UInt8) : UInt8:=op.getLastD 0
def finishB (s : Bs) : Br:=tellB { s.m with op:=s.m.op.dropLast,a:=5 } s.st s.l (bare (if (topB s.m.op).toNat = 125 then 9 else 6))
def beginB (s : Bs) (k : Int) (c : UInt8) (a : Int) : Br:=tellB { s.m with op:=s.m.op ++ [c],a:=a } s.st s.l (bare k)
def letterB (s : Bs) (b : UInt8) : Br :=
 if s.m.rs.data.toList.head? = some b then
  (if s.m.rs.size = 1 then tellB { s.m with rs:=s.m.rs.extract 1 s.m.rs.size,a:=5 } s.st s.l ⟨s.m.ek,s.m.et,s.m.ev⟩
   else ⟨{ s with m:={ s.m with rs:=s.m.rs.extract 1 s.m.rs.size } },0⟩)
 else ⟨s,2⟩
def wordB (s : Bs) (k : Int) (t r : ByteArray) : Br:=⟨{ s with m:={ s.m with a:=6,ek:=k,et:=t,ev:=⟨#[]⟩,rs:=r } },0⟩
def stringB (s : Bs) (k : Int) : Br:=⟨{ s with m:={ s.m with a:=8,ek:=k,et:=⟨#[]⟩,ev:=⟨#[]⟩,q:=Qt.plainQ [] } },0⟩
def charB (s : Bs) (b : UInt8) : Br :=
 let r:=Qt.qStep s.m.q (b.toNat : Int)
 if r.e ≠ 0 \/ r.done = false then ⟨{ s with m:={ s.m with q:=r.q } },r.e⟩
 else tellB { s.m with q:=r.q,a:=if s.m.ek = 8 then 4 else 5,et:=⟨r.q.xs.toArray⟩ } s.st s.l ⟨s.m.ek,⟨r.q.xs.toArray⟩,s.m.ev⟩
def digitB (s : Bs) (b : UInt8) : Br:=if 30 <= s.m.nm.size then ⟨s,4⟩ else ⟨{ s with m:={ s.m with nm:=s.m.nm ++ ⟨#[b]⟩ } },0⟩
def endNumB (s : Bs) : Br :=
 if endC s.m.nm ≠ 0 then ⟨{ s with m:={ s.m with nm:=⟨#[]⟩ } },endC s.m.nm⟩
 else tellB { s.m with nm:=⟨#[]⟩,a:=5 } s.st s.l ⟨3,endS s.m.nm,⟨#[]⟩⟩
def valueB (s : Bs) (b : UInt8) : Br :=
 if b.toNat = 91 then beginB s 5 93 1 else if b.toNat = 123 then beginB s 7 125 2 else if b.toNat = 34 then stringB s 4
 else if b.toNat = 110 then wordB s 1 ⟨#[]⟩ ⟨#[117,108,108]⟩ else if b.toNat = 116 then wordB s 2 ⟨#[116,114,117,101]⟩ ⟨#[114,117,101]⟩
 else if b.toNat = 102 then wordB s 2 ⟨#[102,97,108,115,101]⟩ ⟨#[97,108,115,101]⟩
 else if mayB1 s.m.nm b = false then ⟨s,2⟩ else digitB { s with m:={ s.m with a:=7 } } b
def behindB (s : Bs) (b : UInt8) : Br :=
 if s.m.op = [] then ⟨s,2⟩ else if b = topB s.m.op then finishB s else if b.toNat ≠ 44 then ⟨s,2⟩
 else if (topB s.m.op).toNat = 125 then ⟨{ s with m:={ s.m with a:=3 } },0⟩ else ⟨{ s with m:={ s.m with a:=0 } },0⟩
def markB (s : Bs) (b : UInt8) : Br :=
 if s.m.a = 4 /\ b.toNat = 58 then ⟨{ s with m:={ s.m with a:=0 } },0⟩
 else if (s.m.a = 1 /\ b.toNat = 93) \/ (s.m.a = 2 /\ b.toNat = 125) then finishB s
 else if (s.m.a = 2 \/ s.m.a = 3) /\ b.toNat = 34 then stringB s 8
 else if s.m.a = 0 \/ s.m.a = 1 then valueB s b else if s.m.a = 5 then behindB s b else ⟨s,2⟩
def plainB (s : Bs) (b : UInt8) : Br:=if blankB b = true then ⟨s,0⟩ else markB s b
def stepB (s : Bs) (b : UInt8) : Br :=
 if s.m.a = 6 then letterB s b else if s.m.a = 8 then charB s b
 else if s.m.a = 7 then (if mayB1 s.m.nm b = true then digitB s b else if (endNumB s).e ≠ 0 then endNumB s else plainB (endNumB s).b b)
 else plainB s b
def endB (s : Bs) : Br :=
 let r:=if s.m.a = 7 then endNumB s else ⟨s,0⟩
 if r.e ≠ 0 then r else if r.b.m.a ≠ 5 \/ r.b.m.op ≠ [] then ⟨r.b,2⟩ else ⟨r.b,0⟩
structure BInv (s : Bs) (n : Nat) : Prop where
 good : Good s.st
 ln : s.l.length <= 2 * n
 opn : s.m.op.length <= n
 op1 : s.m.a = 1 \/ s.m.a = 2 \/ s.m.a = 3 -> s.m.op ≠ []
 rsn : s.m.a = 6 -> 0 < s.m.rs.size
 rsl : s.m.rs.size <= 4
 nml : s.m.nm.size <= 30
 etl : s.m.et.size <= 48
 qi : Qt.QInv s.m.q
 rng : 0 <= s.m.a /\ s.m.a <= 8
end Go.Proofs.YtbnppjmmlfncmaaGreatDoor

/-
  quote's Print: the text of a text, or refused.
  carry, pure: a key as a word, the one-line form, elements within a node.
  inkbrace, pure: what is printed of a node.
  Nodes as they lie in memory: a value of four cells, its kids in a row; what keeps them; what reads them.
  tree: formed, endOf, walk; the reference's End.
  carry: elements within a node, the program's and the reference's.
  The reference's One: the character at the beginning.
  The reference's One where the character has two bytes by its first.
-/
import Derived.Test.YtbnppjmmlfncmaaGreatDoorIrA06
import Derived.Test.YtbnppjmmlfncmaaGreatDoorIrA01
import Derived.Test.YtbnppjmmlfncmaaGreatDoorIrA04
import Derived.Test.YtbnppjmmlfncmaaGreatDoorIrA02
set_option maxRecDepth 100000
set_option linter.unusedSectionVars false
namespace Go.Proofs.YtbnppjmmlfncmaaGreatDoor.Qt
open Go.RowKit Go.Maps
variable [Fo]
theorem pr_any (w : World) (base : Nat) (v : Value) (xs : List UInt8) (b : UInt8) (ho : ORow w base 5 v (xs.map bV)) (hl : xs.length <= 1000) (hbase : base <= w.heap.size) :
 Calls Tryz.prog 73 #[v,.int .u8 (b.toNat : Int)] w (PrPost w base xs b):=by
 have hb:=byte_le b
 obtain ⟨A,cap,hv⟩:=ho.shape
 subst hv
 rw [List.length_map] at ho ⊢
 obtain ⟨bi,hbi⟩ : ∃ bi : Int,bi = (b.toNat : Int):=⟨_,rfl⟩
 have h0 : 0 <= bi:=by omega
 have h255 : bi <= 255:=by omega
 by_cases c34 : bi = 34
 ·have hp : (prB b).map bV = [.int .u8 92,.int .u8 34]:=by
   unfold prB; rw [if_pos (by omega)]
   simp only [List.map_cons,List.map_nil,bV]
   rw [<- hbi,c34]; rfl
  rw [<- hbi,c34]
  exact pr_34 w base A cap xs b ho hl hbase (Lib.hid hp)
 by_cases c92 : bi = 92
 ·have hp : (prB b).map bV = [.int .u8 92,.int .u8 92]:=by
   unfold prB; rw [if_pos (by omega)]
   simp only [List.map_cons,List.map_nil,bV]
   rw [<- hbi,c92]; rfl
  rw [<- hbi,c92]
  exact pr_92 w base A cap xs b ho hl hbase (Lib.hid hp)
 by_cases c10 : bi = 10
 ·have hp : (prB b).map bV = [.int .u8 92,.int .u8 110]:=by
   unfold prB; rw [if_neg (by omega),if_pos (by omega)]; rfl
  rw [<- hbi,c10]
  exact pr_10 w base A cap xs b ho hl hbase (Lib.hid hp)
 by_cases c9 : bi = 9
 ·have hp : (prB b).map bV = [.int .u8 92,.int .u8 116]:=by
   unfold prB; rw [if_neg (by omega),if_neg (by omega),if_pos (by omega)]; rfl
  rw [<- hbi,c9]
  exact pr_9 w base A cap xs b ho hl hbase (Lib.hid hp)
 by_cases c13 : bi = 13
 ·have hp : (prB b).map bV = [.int .u8 92,.int .u8 114]:=by
   unfold prB; rw [if_neg (by omega),if_neg (by omega),if_neg (by omega),if_pos (by omega)]; rfl
  rw [<- hbi,c13]
  exact pr_13 w base A cap xs b ho hl hbase (Lib.hid hp)
 by_cases c32 : bi < 32
 ·have q0 : 0 <= bi / 16 /\ bi / 16 < 16:=by omega
  have q1 : 0 <= bi % 16 /\ bi % 16 < 16:=by omega
  have r0:=hexD_rg _ q0.1 q0.2
  have r1:=hexD_rg _ q1.1 q1.2
  have hp : (prB b).map bV = [.int .u8 92,.int .u8 117,.int .u8 48,.int .u8 48,.int .u8 (hexD (bi / 16)),.int .u8 (hexD (bi % 16))]:=by
   unfold prB; rw [if_neg (by omega),if_neg (by omega),if_neg (by omega),if_neg (by omega),if_pos (by omega)]
   rw [<- hbi]
   simp only [List.map_cons,List.map_nil]
   rw [bV_b8 _ r0.1 r0.2,bV_b8 _ r1.1 r1.2]
   rfl
  rw [<- hbi]
  exact pr_ctl w base A cap xs b bi ho hl hbase (Lib.hid hp) h0 c32 (beq_eq_false_iff_ne.2 c10) (beq_eq_false_iff_ne.2 c9) (beq_eq_false_iff_ne.2 c13)
 ·have hp : (prB b).map bV = [.int .u8 bi]:=by
   unfold prB; rw [if_neg (by omega),if_neg (by omega),if_neg (by omega),if_neg (by omega),if_neg (by omega)]
   simp only [List.map_cons,List.map_nil,bV]
   rw [<- hbi]
  rw [<- hbi]
  exact pr_char w base A cap xs b bi ho hl hbase (Lib.hid hp) (by omega) h255 (beq_eq_false_iff_ne.2 c34) (beq_eq_false_iff_ne.2 c92)
def prText (L : List UInt8) : List UInt8:=if (runesL L).isSome = true then (if 48 < L.length then [] else printL L) else []
def prErr (L : List UInt8) : Int:=if (runesL L).isSome = true then (if 48 < L.length then 4 else 0) else 3
def PrintEnd (L : List UInt8) : Ending:=.returned (.tuple #[.string ⟨(prText L).toArray⟩,.int .i64 (prErr L)])
set_option maxHeartbeats 1000000 in
theorem print_any (s : ByteArray) (w : World) (hm : s.size <= 140737488355328) :
 Calls Tryz.prog 42 #[.string s] w fun e w' => e = PrintEnd s.data.toList /\ Below w.heap.size w w':=by
 have hsz : s.data.toList.length = s.size:=by simp
 by_cases hu : (runesL s.data.toList).isSome = true
 ·by_cases ho : 48 < s.size
  ·have hE : PrintEnd s.data.toList = .returned (.tuple #[.string ⟨#[]⟩,.int .i64 4]):=by
    unfold PrintEnd prText prErr; rw [if_pos hu,if_pos hu,if_pos (by omega),if_pos (by omega)]
   rw [hE]
   have HU:=Lib.hid hu
   clear hE hu
   go_enter Tryz.func42,Tryz.ntmps42
   go_wp2_with (first
    | (go_at_call 72; refine (isutf_any s _ hm).mono ?_; rintro e w1 ⟨rfl,hb1⟩; rw [HU.out]))
   go_ret2
   exact ⟨rfl,hb1⟩
  ·have hE : PrintEnd s.data.toList = .returned (.tuple #[.string ⟨(34 :: (prAll s.data.toList ++ [34])).toArray⟩,.int .i64 0]):=by
    unfold PrintEnd prText prErr; rw [if_pos hu,if_pos hu,if_neg (by omega),if_neg (by omega)]; rfl
   rw [hE]
   have HU:=Lib.hid hu
   clear hE hu
   go_enter Tryz.func42,Tryz.ntmps42
   go_wp2_with (first
    | (go_at_call 72; refine (isutf_any s _ hm).mono ?_; rintro e w1 ⟨rfl,hb1⟩; rw [HU.out]))
   have hs1:=hb1.size
   go_loopw [4,15] (fun v i wr => ∃ (k : Nat),k <= s.size /\ i = .int .i64 k /\ ORow wr w.heap.size 5 v ((34 :: prAll (s.data.toList.take k)).map bV) /\ Below w.heap.size w wr) (fun _ i _ => s.size - (intOf i).toNat)
   case atStart => exact ⟨0,Nat.zero_le _,rfl,by have:=ORow.lit w1 w.heap.size 5 #[.int .u8 34] hs1 (by simp [maxLen]); exact this,hb1.alloc hs1 _⟩
   case round =>
    obtain ⟨k,hk,rfl,hown,hbel⟩:=hrel
    have hbs:=hbel.size
    have hlen:=(prAll_len (s.data.toList.take k)).2
    have htl : (s.data.toList.take k).length <= k:=List.length_take_le _ _
    by_cases hlt : k < s.size
    ·have hle:=byte_le s[k]
     have HT:=Lib.hid (take_snoc s k hlt)
     go_wp2_with fail
     refine (pr_any _ _ _ (34 :: prAll (s.data.toList.take k)) s[k] hown (by simp; omega) hbs).mono ?_
     rintro e w2 ⟨v2,rfl,hown2,hb2⟩
     go_wp2
     go_roundw
     case rel => exact ⟨k + 1,by omega,by go_num,by rw [HT.out,prAll_snoc]; exact hown2,hbel.trans hb2⟩
     case measure => simp [intOf]; omega
    ·have hkn : k = s.size:=by omega
     subst hkn
     have htk : s.data.toList.take s.size = s.data.toList:=List.take_of_length_le (by omega)
     rw [htk] at hown hlen
     obtain ⟨A,cap,hv⟩:=hown.shape
     subst hv
     rw [List.length_map] at hown
     rw [List.length_map]
     have hx : (34 :: prAll s.data.toList).length <= 1000:=by simp; omega
     go_wp2_with (first
      | (at_builtin; refine wp_appS rfl _ _ 39 rfl w.heap.size 5 (.int .u8 0) 1 Tryz.underlying39 Tryz.info5 rfl _ _ [.int .u8 34] rfl (by exact hown.alloc _) (by simp [Value.oneCell']) ⟨wr.heap.size,0,none⟩ 1 1 rfl rfl (cells_new wr [.int .u8 34] 5) (by simp [maxLen] at hx ⊢; omega) (by simp at hx ⊢; omega) (by simp; omega) ?_; intro v2 w2 hown2 hb2))
     have hstr:=put_str (34 :: (prAll s.data.toList ++ [34])) (by simpa [bV] using hown2)
     first | rw [hstr] | skip
     go_wp2
     go_ret2
     exact ⟨rfl,(hbel.alloc hbs _).trans hb2⟩
 ·have hE : PrintEnd s.data.toList = .returned (.tuple #[.string ⟨#[]⟩,.int .i64 3]):=by
   unfold PrintEnd prText prErr; rw [if_neg hu,if_neg hu]
  have huf : (runesL s.data.toList).isSome = false:=by simpa using hu
  rw [hE]
  have HU:=Lib.hid huf
  clear hE hu huf
  go_enter Tryz.func42,Tryz.ntmps42
  go_wp2_with (first
   | (go_at_call 72; refine (isutf_any s _ hm).mono ?_; rintro e w1 ⟨rfl,hb1⟩; rw [HU.out]))
  go_ret2
  exact ⟨rfl,hb1⟩
end Go.Proofs.YtbnppjmmlfncmaaGreatDoor.Qt
namespace Go.Proofs.YtbnppjmmlfncmaaGreatDoor
def dNd : Nd:=.mk 0 ⟨#[]⟩ ⟨#[]⟩ []
theorem getDn {l : List Nd} {j : Nat} (h : j < l.length) : l.getD j dNd = l[j]:=by simp [List.getD_eq_getElem?_getD,List.getElem?_eq_getElem h]
def wordL (L : List UInt8) : List UInt8:=if localL L = true /\ (46 : UInt8) ∉ L then L else Qt.prText L
mutual
def rowN : Nd -> List UInt8
 | .mk k t _ kids => if k = 1 then [110,117,108,108] else if k = 4 then Qt.prText t.data.toList else if k = 5 then 91 :: (seqN true kids ++ [93]) else if k = 7 then 123 :: (seqN true kids ++ [125])
  else if k = 8 then wordL t.data.toList ++ ([32,61,32] ++ seqN true kids) else t.data.toList
def seqN : Bool -> List Nd -> List UInt8
 | _,[] => []
 | b,n :: r => (if b = true then [] else [44,32]) ++ (rowN n ++ seqN false r)
end
theorem seqN_snoc : ∀ (l : List Nd) (b : Bool) (m : Nd),seqN b (l ++ [m]) = seqN b l ++ ((if b = true /\ l = [] then [] else [44,32]) ++ rowN m)
 | [],b,m => by cases b <;> simp [seqN]
 | n :: r,b,m => by
  simp only [List.cons_append,seqN,seqN_snoc r false m]
  simp [List.append_assoc]
mutual
def elemN : Nd -> Bool
 | .mk k _ _ kids => decide (k = 10) || elemL kids
def elemL : List Nd -> Bool
 | [] => false
 | n :: r => elemN n || elemL r
end
theorem prText_len (L : List UInt8) : (Qt.prText L).length <= 290:=by
 unfold Qt.prText
 split
 ·split
  ·simp
  ·have h1:=Qt.printL_len L
   have h2:=(Qt.prAll_len L).2
   omega
 ·simp
theorem wordL_len (L : List UInt8) : (wordL L).length <= L.length + 290:=by
 unfold wordL
 split
 ·omega
 ·have:=prText_len L; omega
mutual
theorem rowN_len : ∀ n : Nd,smallT n -> (rowN n).length + 2 <= sizeN n * 1048900
 | .mk k t v kids,h => by
  obtain ⟨h1,_,h3⟩:=h
  have hl:=seqN_len kids h3 true
  have h5 : t.data.toList.length = t.size:=by simp
  have hp:=prText_len t.data.toList
  have hw:=wordL_len t.data.toList
  simp only [rowN,sizeN]
  repeat' split
  all_goals ((try simp only [List.length_cons,List.length_append,List.length_nil]); omega)
theorem seqN_len : ∀ l : List Nd,smallL l -> ∀ b,(seqN b l).length <= sizeL l * 1048900
 | [],_,b => by simp [seqN]
 | n :: r,h,b => by
  have h1:=rowN_len n h.1
  have h2:=seqN_len r h.2 false
  simp only [seqN,sizeL,List.length_append]
  have h3 : (if b = true then ([] : List UInt8) else [44,32]).length <= 2:=by split <;> simp
  omega
end
mutual
def inkN : Nd -> List UInt8
 | .mk k t _ kids => if k = 1 then [110,117,108,108] else if k = 4 then Qt.prText t.data.toList else if k = 5 then 91 :: (inkL true kids ++ [93]) else if k = 7 then 123 :: (inkL true kids ++ [125])
  else if k = 8 then Qt.prText t.data.toList ++ ([58] ++ inkL true kids) else t.data.toList
def inkL : Bool -> List Nd -> List UInt8
 | _,[] => []
 | b,n :: r => (if b = true then [] else [44]) ++ (inkN n ++ inkL false r)
end
theorem inkL_snoc : ∀ (l : List Nd) (b : Bool) (m : Nd),inkL b (l ++ [m]) = inkL b l ++ ((if b = true /\ l = [] then [] else [44]) ++ inkN m)
 | [],b,m => by cases b <;> simp [inkL]
 | n :: r,b,m => by
  simp only [List.cons_append,inkL,inkL_snoc r false m]
  simp [List.append_assoc]
mutual
theorem inkN_len : ∀ n : Nd,smallT n -> (inkN n).length + 2 <= sizeN n * 1048900
 | .mk k t v kids,h => by
  obtain ⟨h1,_,h3⟩:=h
  have hl:=inkL_len kids h3 true
  have h5 : t.data.toList.length = t.size:=by simp
  have hp:=prText_len t.data.toList
  simp only [inkN,sizeN]
  repeat' split
  all_goals ((try simp only [List.length_cons,List.length_append,List.length_nil]); omega)
theorem inkL_len : ∀ l : List Nd,smallL l -> ∀ b,(inkL b l).length <= sizeL l * 1048900
 | [],_,b => by simp [inkL]
 | n :: r,h,b => by
  have h1:=inkN_len n h.1
  have h2:=inkL_len r h.2 false
  simp only [inkL,sizeL,List.length_append]
  have h3 : (if b = true then ([] : List UInt8) else [44]).length <= 1:=by split <;> simp
  omega
end
theorem inkN_1 (t v : ByteArray) (l : List Nd) : inkN (.mk 1 t v l) = [110,117,108,108]:=by simp only [inkN]; rw [if_pos trivial]
theorem inkN_4 (t v : ByteArray) (l : List Nd) : inkN (.mk 4 t v l) = Qt.prText t.data.toList:=by simp only [inkN]; rw [if_neg (by decide),if_pos trivial]
theorem inkN_5 (t v : ByteArray) (l : List Nd) : inkN (.mk 5 t v l) = 91 :: (inkL true l ++ [93]):=by simp only [inkN]; rw [if_neg (by decide),if_neg (by decide),if_pos trivial]
theorem inkN_7 (t v : ByteArray) (l : List Nd) : inkN (.mk 7 t v l) = 123 :: (inkL true l ++ [125]):=by simp only [inkN]; rw [if_neg (by decide),if_neg (by decide),if_neg (by decide),if_pos trivial]
theorem inkN_8 (t v : ByteArray) (l : List Nd) : inkN (.mk 8 t v l) = Qt.prText t.data.toList ++ ([58] ++ inkL true l):=by simp only [inkN]; rw [if_neg (by decide),if_neg (by decide),if_neg (by decide),if_neg (by decide),if_pos trivial]
theorem inkN_e {k : Int} (t v : ByteArray) (l : List Nd) (h1 : k ≠ 1) (h4 : k ≠ 4) (h5 : k ≠ 5) (h7 : k ≠ 7) (h8 : k ≠ 8) : inkN (.mk k t v l) = t.data.toList:=by simp only [inkN]; rw [if_neg h1,if_neg h4,if_neg h5,if_neg h7,if_neg h8]
theorem ink_at (l : List Nd) (b : Bool) (j : Nat) (h : j < l.length) : inkL b (l.take (j + 1)) = inkL b (l.take j) ++ ((if b = true /\ j = 0 then [] else [44]) ++ inkN (l.getD j dNd)):=by
 rw [List.take_succ_eq_append_getElem h,inkL_snoc,getDn h]
 congr 2
 have : l.take j = [] ↔ j = 0:=by
  rw [List.take_eq_nil_iff]
  constructor
  ·rintro (h1 | h1)
   ·exact h1
   ·subst h1; simp at h
  ·exact .inl
 simp only [this]
open Go.RowKit
def ndC (n : Nd) (A : Option Addr) (c : Nat) : List Value:=[.int .i64 n.k,.string n.t,.string n.v,.slice A n.kids.length c]
mutual
def NAt (S : Nat -> Nat -> Prop) (w : World) : Nd -> Option Addr -> Nat -> Prop
 | .mk _ _ _ kids,A,c => kids.length <= c /\ c <= maxLen /\ (0 < kids.length -> ∃ b o,A = some ⟨b,o,none⟩ /\ S b o /\ KAt S w b o kids)
def KAt (S : Nat -> Nat -> Prop) (w : World) (b : Nat) : Nat -> List Nd -> Prop
 | _,[] => True
 | o,n :: r => (∃ A c,w.cell? ⟨b,o,none⟩ = some (.int .i64 n.k) /\ w.cell? ⟨b,o + 1,none⟩ = some (.string n.t) /\ w.cell? ⟨b,o + 2,none⟩ = some (.string n.v) /\ w.cell? ⟨b,o + 3,none⟩ = some (.slice A n.kids.length c) /\ NAt S w n A c) /\ KAt S w b (o + 4) r
end
def KidAt (S : Nat -> Nat -> Prop) (w : World) (b o : Nat) (n : Nd) : Prop :=
 ∃ A c,w.cell? ⟨b,o,none⟩ = some (.int .i64 n.k) /\ w.cell? ⟨b,o + 1,none⟩ = some (.string n.t) /\ w.cell? ⟨b,o + 2,none⟩ = some (.string n.v) /\ w.cell? ⟨b,o + 3,none⟩ = some (.slice A n.kids.length c) /\ NAt S w n A c
section
variable {S S' : Nat -> Nat -> Prop} {w w' : World}
theorem KAt.get {b : Nat} : ∀ {o : Nat} {l : List Nd},KAt S w b o l -> ∀ j (h : j < l.length),KidAt S w b (o + j * 4) l[j]
 | o,n :: r,h,0,_ => by
  have:=h.1
  simpa [KidAt] using this
 | o,n :: r,h,j + 1,hj => by
  have:=KAt.get h.2 j (by simpa using hj)
  rw [show o + (j + 1) * 4 = o + 4 + j * 4 by omega]
  exact this
theorem KAt.of {b : Nat} : ∀ {o : Nat} {l : List Nd},(∀ j (h : j < l.length),KidAt S w b (o + j * 4) l[j]) -> KAt S w b o l
 | _,[],_ => trivial
 | o,n :: r,h => by
  refine ⟨by have:=h 0 (by simp); simpa [KidAt] using this,KAt.of fun j hj => ?_⟩
  have:=h (j + 1) (by simpa using hj)
  rw [show o + 4 + j * 4 = o + (j + 1) * 4 by omega]
  exact this
theorem NAt.def_ (n : Nd) (A : Option Addr) (c : Nat) : NAt S w n A c ↔ n.kids.length <= c /\ c <= maxLen /\ (0 < n.kids.length -> ∃ b o,A = some ⟨b,o,none⟩ /\ S b o /\ ∀ j (h : j < n.kids.length),KidAt S w b (o + j * 4) n.kids[j]):=by
 cases n with
 | mk k t v kids =>
  simp only [NAt,Nd.kids]
  constructor
  ·rintro ⟨h1,h2,h3⟩
   refine ⟨h1,h2,fun hp => ?_⟩
   obtain ⟨b,o,hA,hS,hk⟩:=h3 hp
   exact ⟨b,o,hA,hS,hk.get⟩
  ·rintro ⟨h1,h2,h3⟩
   refine ⟨h1,h2,fun hp => ?_⟩
   obtain ⟨b,o,hA,hS,hk⟩:=h3 hp
   exact ⟨b,o,hA,hS,KAt.of hk⟩
theorem NAt.keep {n : Nd} : ∀ {A : Option Addr} {c : Nat},NAt S w n A c -> (∀ b o,S b o -> (∃ i u,w.cell? ⟨b,i,none⟩ = some u) -> (∀ i u,w.cell? ⟨b,i,none⟩ = some u -> w'.cell? ⟨b,i,none⟩ = some u) /\ S' b o) -> NAt S' w' n A c:=by
 induction n using Nd.ind with
 | h k t v kids ih =>
  intro A c h hk
  rw [NAt.def_] at h ⊢
  obtain ⟨h1,h2,h3⟩:=h
  refine ⟨h1,h2,fun hp => ?_⟩
  obtain ⟨b,o,hA,hS,hg⟩:=h3 hp
  have hb : (∀ i u,w.cell? ⟨b,i,none⟩ = some u -> w'.cell? ⟨b,i,none⟩ = some u) /\ S' b o:=by
   obtain ⟨A',c',c0,_⟩:=hg 0 hp
   exact hk b o hS ⟨_,_,c0⟩
  refine ⟨b,o,hA,hb.2,fun j hj => ?_⟩
  obtain ⟨A',c',c0,c1,c2,c3,hn⟩:=hg j hj
  exact ⟨A',c',hb.1 _ _ c0,hb.1 _ _ c1,hb.1 _ _ c2,hb.1 _ _ c3,ih _ (List.getElem_mem hj) hn hk⟩
theorem NAt.weaken {n : Nd} {A : Option Addr} {c : Nat} (h : NAt S w n A c) (hs : ∀ b o,S b o -> S' b o) : NAt S' w n A c:=h.keep fun b o hb _ => ⟨fun _ _ hu => hu,hs b o hb⟩
theorem NAt.below {n : Nd} {A : Option Addr} {c : Nat} (h : NAt S w n A c) (hb : Below w.heap.size w w') : NAt S w' n A c :=
 h.keep fun _ _ hs _ => ⟨fun _ _ hu => (hb.cell (cell_lt hu)).trans hu,hs⟩
theorem NAt.lt {n : Nd} {A : Option Addr} {c : Nat} (h : NAt S w n A c) : NAt (fun b o => S b o /\ b < w.heap.size) w n A c:=h.keep fun _ _ hs ⟨_,_,hc⟩ => ⟨fun _ _ hu => hu,hs,cell_lt hc⟩
theorem NAt.leaf (S : Nat -> Nat -> Prop) (w : World) (k : Int) (t v : ByteArray) (A : Option Addr) : NAt S w (.mk k t v []) A 0:=by
 rw [NAt.def_]; exact ⟨Nat.le_refl _,Nat.zero_le _,fun h => absurd h (by simp [Nd.kids])⟩
theorem KidAt.keep {n : Nd} {b o : Nat} (h : KidAt S w b o n) (hb : ∀ i u,w.cell? ⟨b,i,none⟩ = some u -> w'.cell? ⟨b,i,none⟩ = some u) (hk : ∀ b o,S b o -> (∃ i u,w.cell? ⟨b,i,none⟩ = some u) -> (∀ i u,w.cell? ⟨b,i,none⟩ = some u -> w'.cell? ⟨b,i,none⟩ = some u) /\ S' b o) : KidAt S' w' b o n:=by
 obtain ⟨A,c,c0,c1,c2,c3,hn⟩:=h
 exact ⟨A,c,hb _ _ c0,hb _ _ c1,hb _ _ c2,hb _ _ c3,hn.keep hk⟩
theorem kid_cells {n : Nd} {b o : Nat} (h : KidAt S w b o n) (hb : Below w.heap.size w w') : KidAt S w' b o n :=
 h.keep (fun _ _ hu => (hb.cell (cell_lt hu)).trans hu) (fun _ _ hs _ => ⟨fun _ _ hu => (hb.cell (cell_lt hu)).trans hu,hs⟩)
theorem NAt.low {n : Nd} {A : Option Addr} {c B : Nat} (h : NAt (fun b _ => b < B) w n A c) (hb : ∀ k,k < B -> w'.heap[k]? = w.heap[k]?) : NAt (fun b _ => b < B) w' n A c :=
 h.keep fun b _ hs _ => ⟨fun _ _ hu => by
  rw [<- hu]
  unfold World.cell?
  rw [hb b hs],hs⟩
end
def NBox (w : World) (g : Nat) (n : Nd) (A : Option Addr) (c : Nat) : Prop:=Blk w g 24 #[.int .i64 n.k,.string n.t,.string n.v,.slice A n.kids.length c]
theorem NBox.cells {w : World} {g : Nat} {n : Nd} {A : Option Addr} {c : Nat} (h : NBox w g n A c) :
 w.cell? ⟨g,0,none⟩ = some (.int .i64 n.k) /\ w.cell? ⟨g,1,none⟩ = some (.string n.t) /\ w.cell? ⟨g,2,none⟩ = some (.string n.v) /\ w.cell? ⟨g,3,none⟩ = some (.slice A n.kids.length c) :=
 ⟨Blk.cell h 0,Blk.cell h 1,Blk.cell h 2,Blk.cell h 3⟩
def okN (n : Nd) : Prop:=-9223372036854775808 <= n.k /\ n.k <= 9223372036854775807 /\ n.t.size <= 140737488355328 /\ n.v.size <= 140737488355328
mutual
def okT : Nd -> Prop
 | .mk k t v kids => okN (.mk k t v kids) /\ kids.length <= 1000000000000 /\ okTL kids
def okTL : List Nd -> Prop
 | [] => True
 | n :: r => okT n /\ okTL r
end
theorem okTL_mem : ∀ {l : List Nd},okTL l ↔ ∀ n ∈ l,okT n
 | [] => by simp [okTL]
 | n :: r => by simp only [okTL,okTL_mem (l:=r),List.mem_cons,forall_eq_or_imp]
theorem okT.head {n : Nd} (h : okT n) : okN n:=by cases n; exact h.1
theorem okT.kids {n : Nd} (h : okT n) : ∀ m ∈ n.kids,okT m:=by cases n; exact okTL_mem.1 h.2.2
theorem okT.len {n : Nd} (h : okT n) : n.kids.length <= 1000000000000:=by cases n; exact h.2.1
def endI (k : Int) : Int:=if k = 5 then 6 else if k = 7 then 9 else if k = 10 then 12 else 0
theorem endI_opens (k : Int) : (opensK k = true -> endI k = endK k /\ endI k ≠ 0) /\ (opensK k = false -> endI k = 0):=by
 unfold opensK endI endK
 rw [decide_eq_true_iff,decide_eq_false_iff_not]
 constructor
 ·rintro (rfl | rfl | rfl) <;> decide
 ·intro h
  rw [if_neg (by omega),if_neg (by omega),if_neg (by omega)]
theorem ibeq {a b : Int} (h : a ≠ b) : (a == b) = false:=by rw [beq_eq_false_iff_ne]; exact h
theorem ibne {a b : Int} (h : a ≠ b) : (a != b) = true:=by simp [bne,h]
theorem endOf_any (k : Int) (w : World) : Calls Tryz.prog 77 #[.int .i64 k] w fun e w' => e = .returned (.int .i64 (endI k)) /\ w' = w:=by
 by_cases h5 : k = 5
 ·subst h5
  go_enter Tryz.func77,Tryz.ntmps77
  go_wp2; go_ret; exact ⟨rfl,rfl⟩
 by_cases h7 : k = 7
 ·subst h7
  go_enter Tryz.func77,Tryz.ntmps77
  go_wp2; go_ret; exact ⟨rfl,rfl⟩
 by_cases h10 : k = 10
 ·subst h10
  go_enter Tryz.func77,Tryz.ntmps77
  go_wp2; go_ret; exact ⟨rfl,rfl⟩
 have he : endI k = 0:=by unfold endI; rw [if_neg h5,if_neg h7,if_neg h10]
 have d5:=ibeq h5
 have d7:=ibeq h7
 have d10:=ibeq h10
 rw [he]
 clear h5 h7 h10 he
 go_enter Tryz.func77,Tryz.ntmps77
 go_wp2; go_ret; exact ⟨rfl,rfl⟩
theorem rend_any (k : Int) (w : World) : Calls Tryz.prog 62 #[.int .i64 k] w fun e w' => e = .returned (.int .i64 (endI k)) /\ w' = w:=by
 by_cases h5 : k = 5
 ·subst h5
  go_enter Tryz.func62,Tryz.ntmps62
  go_wp2; go_ret; exact ⟨rfl,rfl⟩
 by_cases h7 : k = 7
 ·subst h7
  go_enter Tryz.func62,Tryz.ntmps62
  go_wp2; go_ret; exact ⟨rfl,rfl⟩
 by_cases h10 : k = 10
 ·subst h10
  go_enter Tryz.func62,Tryz.ntmps62
  go_wp2; go_ret; exact ⟨rfl,rfl⟩
 have he : endI k = 0:=by unfold endI; rw [if_neg h5,if_neg h7,if_neg h10]
 have d5:=ibeq h5
 have d7:=ibeq h7
 have d10:=ibeq h10
 rw [he]
 clear h5 h7 h10 he
 go_enter Tryz.func62,Tryz.ntmps62
 go_wp2; go_ret; exact ⟨rfl,rfl⟩
theorem shape_open {k : Int} (h : k = 5 \/ k = 7 \/ k = 10) (n : Nat) : okShape k n = true:=by
 unfold okShape opensK; rw [decide_eq_true h]; rfl
theorem shape_key (n : Nat) : okShape 8 n = decide (n = 1):=by simp [okShape,opensK,leafK]
theorem shape_leaf {k : Int} (h : k = 1 \/ k = 2 \/ k = 3 \/ k = 4 \/ k = 11) (n : Nat) : okShape k n = decide (n = 0):=by
 have h2 : opensK k = false:=by unfold opensK; rw [decide_eq_false_iff_not]; omega
 have h3 : leafK k = true:=by unfold leafK; rw [decide_eq_true_iff]; exact h
 have h8 : ¬ k = 8:=by omega
 simp [okShape,h2,h3,h8]
theorem shape_none {k : Int} (h1 : k ≠ 1) (h2 : k ≠ 2) (h3 : k ≠ 3) (h4 : k ≠ 4) (h5 : k ≠ 5) (h7 : k ≠ 7) (h8 : k ≠ 8) (h10 : k ≠ 10) (h11 : k ≠ 11) (n : Nat) : okShape k n = false:=by
 simp [okShape,opensK,leafK,h1,h2,h3,h4,h5,h7,h8,h10,h11]
theorem formed_tree (k : Int) (t v : ByteArray) (A : Option Addr) (n c : Nat) (w : World) :
 Calls Tryz.prog 75 #[.agg #[.int .i64 k,.string t,.string v,.slice A n c]] w fun e w' => e = .returned (.bool (okShape k n)) /\ Below w.heap.size w w':=by
 by_cases h5 : k = 5 \/ k = 7 \/ k = 10
 ·rw [shape_open h5]
  rcases h5 with rfl | rfl | rfl
  all_goals
   go_enter Tryz.func75,Tryz.ntmps75
   go_wp2
   go_ret
   exact ⟨rfl,(Below.refl _ _).alloc (Nat.le_refl _) _⟩
 by_cases h8 : k = 8
 ·subst h8
  rw [shape_key]
  clear h5
  by_cases h1 : n = 1
  ·subst h1
   go_enter Tryz.func75,Tryz.ntmps75
   go_wp2
   go_ret
   exact ⟨rfl,(Below.refl _ _).alloc (Nat.le_refl _) _⟩
  ·rw [decide_eq_false h1]
   have d1 : ((n : Int) == 1) = false:=ibeq (by omega)
   clear h1
   go_enter Tryz.func75,Tryz.ntmps75
   go_wp2
   go_ret
   exact ⟨rfl,(Below.refl _ _).alloc (Nat.le_refl _) _⟩
 by_cases h1 : k = 1 \/ k = 2 \/ k = 3 \/ k = 4 \/ k = 11
 ·rw [shape_leaf h1]
  clear h5 h8
  by_cases h0 : n = 0
  ·subst h0
   rcases h1 with rfl | rfl | rfl | rfl | rfl
   all_goals
    go_enter Tryz.func75,Tryz.ntmps75
    go_wp2
    go_ret
    exact ⟨rfl,(Below.refl _ _).alloc (Nat.le_refl _) _⟩
  ·rw [decide_eq_false h0]
   have d1 : ((n : Int) == 0) = false:=ibeq (by omega)
   clear h0
   rcases h1 with rfl | rfl | rfl | rfl | rfl
   all_goals
    go_enter Tryz.func75,Tryz.ntmps75
    go_wp2
    go_ret
    exact ⟨rfl,(Below.refl _ _).alloc (Nat.le_refl _) _⟩
 have e1 : k ≠ 1:=fun h => h1 (.inl h)
 have e2 : k ≠ 2:=fun h => h1 (.inr (.inl h))
 have e3 : k ≠ 3:=fun h => h1 (.inr (.inr (.inl h)))
 have e4 : k ≠ 4:=fun h => h1 (.inr (.inr (.inr (.inl h))))
 have e11 : k ≠ 11:=fun h => h1 (.inr (.inr (.inr (.inr h))))
 have e5 : k ≠ 5:=fun h => h5 (.inl h)
 have e7 : k ≠ 7:=fun h => h5 (.inr (.inl h))
 have e10 : k ≠ 10:=fun h => h5 (.inr (.inr h))
 rw [shape_none e1 e2 e3 e4 e5 e7 h8 e10 e11]
 have d1:=ibeq e1
 have d2:=ibeq e2
 have d3:=ibeq e3
 have d4:=ibeq e4
 have d5:=ibeq e5
 have d7:=ibeq e7
 have d8:=ibeq h8
 have d10:=ibeq e10
 have d11:=ibeq e11
 clear e1 e2 e3 e4 e5 e7 e10 e11 h1 h5 h8
 go_enter Tryz.func75,Tryz.ntmps75
 go_wp2
 go_ret
 exact ⟨rfl,(Below.refl _ _).alloc (Nat.le_refl _) _⟩
theorem twalk_any (k : Int) (t v : ByteArray) (A : Option Addr) (n c : Nat) (w : World) :
 Calls Tryz.prog 44 #[.agg #[.int .i64 k,.string t,.string v,.slice A n c]] w fun e w' =>
  e = .returned (.func (.func 74) #[] #[.pointer (some ⟨w.heap.size,0,none⟩)]) /\ w' = w.alloc (.cells #[.int .i64 k,.string t,.string v,.slice A n c] 24):=by
 go_enter Tryz.func44,Tryz.ntmps44
 go_wp2
 go_ret
 exact ⟨rfl,rfl⟩
open Go.RowKit Go.Maps
theorem nbox {w : World} {g : Nat} {n : Nd} {A : Option Addr} {c : Nat} (h : Blk w g 24 #[.int .i64 n.k,.string n.t,.string n.v,.slice A n.kids.length c]) :
 w.cell? ⟨g,0,none⟩ = some (.int .i64 n.k) /\ w.cell? ⟨g,1,none⟩ = some (.string n.t) /\ w.cell? ⟨g,2,none⟩ = some (.string n.v) /\ w.cell? ⟨g,3,none⟩ = some (.slice A n.kids.length c) :=
 ⟨h.cell 0,h.cell 1,h.cell 2,h.cell 3⟩
theorem al_nd (w : World) (cs : Array Value) : Below w.heap.size w (w.alloc (.cells cs 24)):=(Below.refl _ _).alloc (Nat.le_refl _) _
theorem bytes_cons (s : ByteArray) (h : 0 < s.size) : s.data.toList = s[0] :: s.data.toList.drop 1:=by
 have : s.data.toList = s.data.toList.drop 0:=rfl
 rw [this,List.drop_eq_getElem_cons (by simpa using h)]
 rfl
theorem bytes_take (s : ByteArray) (k : Nat) (h1 : 1 <= k) (h : k < s.size) : (s.data.toList.drop 1).take k = (s.data.toList.drop 1).take (k - 1) ++ [s[k]]:=by
 obtain ⟨j,rfl⟩ : ∃ j,k = j + 1:=⟨k - 1,by omega⟩
 simp only [Nat.add_sub_cancel]
 rw [List.take_succ_eq_append_getElem (by simp; omega)]
 congr 1
 simp [ByteArray.getElem_eq_getElem_data]
def OneEnd (l : List UInt8) (e : Ending) : Prop:=e = .returned (.tuple #[.int .i64 (oneL l).1,.int .i64 (oneL l).2])
theorem oneEnd_of {l : List UInt8} {r n : Int} (h : oneL l = (r,n)) : OneEnd l (.returned (.tuple #[.int .i64 r,.int .i64 n])):=by unfold OneEnd; rw [h]
theorem one_0 (s : ByteArray) (w : World) (h : s.size = 0) :
 Calls Tryz.prog 138 #[.string s] w fun e w' => OneEnd s.data.toList e /\ w = w':=by
 have hl : s.data.toList = []:=List.eq_nil_of_length_eq_zero (by simpa using h)
 have hb : ((s.size : Int) == 0) = true:=by simp [h]
 rw [hl]
 clear h hl
 go_enter Tryz.func138,Tryz.ntmps138
 go_wp2
 go_ret2
 exact ⟨oneEnd_of rfl,rfl⟩
theorem one_1 (s : ByteArray) (w : World) (hm : s.size <= 140737488355328) (h : 0 < s.size) (hc : (s[0].toNat : Int) < 128) :
 Calls Tryz.prog 138 #[.string s] w fun e w' => OneEnd s.data.toList e /\ w = w':=by
 have hb : ((s.size : Int) == 0) = false:=beq_eq_false_iff_ne.2 (by omega)
 have hone : oneL s.data.toList = ((s[0].toNat : Int),1):=by rw [bytes_cons s h,oneL,if_pos hc]
 have HO:=Lib.hid hone
 clear hone
 go_enter Tryz.func138,Tryz.ntmps138
 go_wp2
 go_ret2
 exact ⟨oneEnd_of HO.out,rfl⟩
theorem one_bad (s : ByteArray) (w : World) (hm : s.size <= 140737488355328) (h : 0 < s.size) (hc : 128 <= (s[0].toNat : Int)) (hn : (s[0].toNat : Int) < 192 \/ 248 <= (s[0].toNat : Int)) :
 Calls Tryz.prog 138 #[.string s] w fun e w' => OneEnd s.data.toList e /\ w = w':=by
 have hb : ((s.size : Int) == 0) = false:=beq_eq_false_iff_ne.2 (by omega)
 have hone : oneL s.data.toList = (0,0):=by
  have : leadN (s[0].toNat : Int) = 0:=by unfold leadN; rw [if_neg (by omega),if_neg (by omega),if_neg (by omega)]
  rw [bytes_cons s h,oneL,if_neg (by omega),if_pos (.inl this)]
 have HO:=Lib.hid hone
 clear hone
 have hle:=byte_le s[0]
 rcases hn with hn | hn
 all_goals
  go_enter Tryz.func138,Tryz.ntmps138
  go_wp2
  go_ret2
  exact ⟨oneEnd_of HO.out,rfl⟩
theorem one_short (s : ByteArray) (w : World) (hm : s.size <= 140737488355328) (h : 0 < s.size) (hc : 192 <= (s[0].toNat : Int)) (hn : (s[0].toNat : Int) < 248) (hs : (s.size : Int) < leadN s[0].toNat) :
 Calls Tryz.prog 138 #[.string s] w fun e w' => OneEnd s.data.toList e /\ w = w':=by
 have hb : ((s.size : Int) == 0) = false:=beq_eq_false_iff_ne.2 (by omega)
 have hone : oneL s.data.toList = (0,0):=by
  have hz : ((s.data.toList.drop 1).length : Int) + 1 = s.size:=by simp; omega
  rw [bytes_cons s h,oneL,if_neg (by omega),if_pos (.inr (by omega))]
 have HO:=Lib.hid hone
 clear hone
 rcases (show ((s[0].toNat : Int) < 224 /\ (s.size : Int) < 2) \/ (224 <= (s[0].toNat : Int) /\ (s[0].toNat : Int) < 240 /\ (s.size : Int) < 3) \/ (240 <= (s[0].toNat : Int) /\ (s.size : Int) < 4) by
  unfold leadN at hs
  split at hs
  ·omega
  ·split at hs
   ·omega
   ·split at hs <;> omega) with ⟨g1,g2⟩ | ⟨g1,g2,g3⟩ | ⟨g1,g2⟩
 all_goals
  clear hs
  go_enter Tryz.func138,Tryz.ntmps138
  go_wp2
  go_ret2
  exact ⟨oneEnd_of HO.out,rfl⟩
set_option maxHeartbeats 1000000 in
theorem one_2b (s : ByteArray) (w : World) (hm : s.size <= 140737488355328) (h : 0 < s.size) (a : 192 <= (s[0].toNat : Int)) (b : (s[0].toNat : Int) < 224) (hs : 2 <= s.size)
 (hone : oneL s.data.toList = oneFin 2 (tails ((s[0].toNat : Int) - 192) ((s.data.toList.drop 1).take 1))) :
 Calls Tryz.prog 138 #[.string s] w fun e w' => OneEnd s.data.toList e /\ w = w':=by
 have hb : ((s.size : Int) == 0) = false:=beq_eq_false_iff_ne.2 (by omega)
 have HO:=Lib.hid hone
 clear hone
 go_enter Tryz.func138,Tryz.ntmps138
 go_wp2
 generalize hV : (s[0].toNat : Int) - 192 = V at *
 have hV0 : 0 <= V /\ V < 64:=by omega
 have HV:=Lib.hid hV
 clear hV
 go_loop [6,7] (fun u i => ∃ (k : Nat) (x : Int),1 <= k /\ k <= 2 /\ i = .int .i64 k /\ u = .int .i64 x /\ 0 <= x /\ x < ((64 ^ k : Nat) : Int) /\ Hid (tails V ((s.data.toList.drop 1).take (k - 1)) = some x)) (fun _ i => 2 - (intOf i).toNat)
 case atStart => exact ⟨1,V,by omega,by omega,rfl,rfl,hV0.1,hV0.2,Lib.hid rfl⟩
 case round =>
  obtain ⟨k,x,hk1,hk,rfl,rfl,hx0,hx1,HT⟩:=hrel
  by_cases hlt : k < 2
  ·have hbt:=bytes_take s k hk1 (by omega)
   have hsn:=tails_snoc V ((s.data.toList.drop 1).take (k - 1)) s[k]
   rw [<- hbt,HT.out] at hsn
   simp only [Option.bind_some] at hsn
   have HS:=Lib.hid hsn
   clear hsn hbt
   have hpow : ((64 ^ (k + 1) : Nat) : Int) = 64 * ((64 ^ k : Nat) : Int):=by rw [Nat.pow_succ]; omega
   have hpw:=Lib.hid hpow
   clear hpow
   have hp4 : ((64 ^ k : Nat) : Int) <= 262144:=by
    have : 64 ^ k <= 64 ^ 3:=Nat.pow_le_pow_right (by decide) (by omega)
    omega
   have hle:=byte_le s[k]
   by_cases hd : (s[k].toNat : Int) < 128
   ·go_wp2
    go_ret2
    have hnone : tails V ((s.data.toList.drop 1).take 1) = none:=tails_none_take _ _ k _ (by omega) (by rw [HS.out,if_pos (.inl hd)])
    refine ⟨oneEnd_of ?_,rfl⟩
    rw [HO.out,hnone]; rfl
   by_cases hd2 : (s[k].toNat : Int) < 192
   ·have hx2 : x <= 262143:=by omega
    go_wp2
    go_round
    case rel => exact ⟨k + 1,64 * x + (s[k].toNat : Int) - 128,by omega,by omega,by go_num,by first | rfl | go_num,by omega,by rw [hpw.out]; omega,Lib.hid (by rw [Nat.add_sub_cancel,HS.out,if_neg (by omega)])⟩
    case measure => simp [intOf]; omega
   ·have hd3 : 192 <= (s[k].toNat : Int):=by omega
    go_wp2
    go_ret2
    have hnone : tails V ((s.data.toList.drop 1).take 1) = none:=tails_none_take _ _ k _ (by omega) (by rw [HS.out,if_pos (.inr hd3)])
    refine ⟨oneEnd_of ?_,rfl⟩
    rw [HO.out,hnone]; rfl
  ·have hkN : k = 2:=by omega
   subst hkN
   have hfin : oneL s.data.toList = oneFin 2 (some x):=by rw [HO.out]; exact congrArg _ HT.out
   clear HO HT
   have HF:=Lib.hid hfin
   clear hfin
   by_cases hmy : mayB x = true
   ·have HM:=Lib.hid hmy
    clear hmy
    by_cases hlg : longI x = 2
    ·have hne : (longI x != 2) = false:=by simp [hlg]
     have HL:=Lib.hid hlg
     clear hlg
     go_wp2_with (first
      | (go_at_call 158; refine (may_any _ _).mono ?_; rintro e w' ⟨rfl,rfl⟩; rw [HM.out])
      | (go_at_call 159; refine (long_any _ _).mono ?_; rintro e w' ⟨rfl,rfl⟩))
     go_ret2
     exact ⟨oneEnd_of (by rw [HF.out]; exact if_pos ⟨HM.out,HL.out⟩),rfl⟩
    ·have hne : (longI x != 2) = true:=bne_iff_ne.2 hlg
     go_wp2_with (first
      | (go_at_call 158; refine (may_any _ _).mono ?_; rintro e w' ⟨rfl,rfl⟩; rw [HM.out])
      | (go_at_call 159; refine (long_any _ _).mono ?_; rintro e w' ⟨rfl,rfl⟩))
     go_ret2
     exact ⟨oneEnd_of (by rw [HF.out]; exact if_neg (fun h => hlg h.2)),rfl⟩
   ·have hmf : mayB x = false:=by simpa using hmy
    have HM:=Lib.hid hmf
    clear hmf
    have HM2:=Lib.hid hmy
    clear hmy
    go_wp2_with (first
     | (go_at_call 158; refine (may_any _ _).mono ?_; rintro e w' ⟨rfl,rfl⟩; rw [HM.out]))
    go_ret2
    exact ⟨oneEnd_of (by rw [HF.out]; exact if_neg (fun h => HM2.out h.1)),rfl⟩
end Go.Proofs.YtbnppjmmlfncmaaGreatDoor

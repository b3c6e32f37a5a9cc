/-
  Contracts of num's machine: digit, step, complete, May.
  Contracts of num's exponent, the order of texts, compareSizes.
  The shape of a number's bytes, and where its parts are found.
  num's valueOf: its contract.
-/
import Derived.Test.YtbnppjmmlfncmaaGreatDoorChecked
import Derived.Test.YtbnppjmmlfncmaaGreatDoorIrA02
import Derived.WalkKit
import Derived.WalkSpells
import Derived.WalkLawsBesides
import Derived.Lib.Hide
import Derived.Test.YtbnppjmmlfncmaaGreatDoorIrA03
import Derived.Test.YtbnppjmmlfncmaaGreatDoorIrA04
import Derived.Test.YtbnppjmmlfncmaaGreatDoorShelf
import Derived.WalkSmall
import Derived.Lib.LaidTab
import Derived.Lib.AppendIntMem
import Derived.BigQuiet
import Derived.Deep.QuietTactic
import Derived.Lib.IndexAny
import Derived.Lib.IndexMore
namespace Go.Proofs.YtbnppjmmlfncmaaGreatDoor.Nm
open Go.RowKit
theorem ret_bool {a b : Bool} (h : a = b) : Ending.returned (.bool a) = .returned (.bool b):=by rw [h]
theorem ret_int {k : IntKind} {a b : Int} (h : a = b) : Ending.returned (.int k a) = .returned (.int k b):=by rw [h]
theorem digit_any (a : Int) (w : World) :
 Calls Tryz.prog 189 #[.int .i64 a] w fun e w' => e = .returned (.int .i64 (dgI a)) /\ w = w':=by
 go_enter Tryz.func189,Tryz.ntmps189
 go_wp2
 all_goals go_ret
 all_goals refine ⟨ret_int ?_,rfl⟩
 all_goals unfold dgI
 all_goals repeat' split
 all_goals first | rfl | (exfalso; simp_all; done) | (exfalso; simp_all; omega)
theorem compl_any (a : Int) (w : World) :
 Calls Tryz.prog 182 #[.int .i64 a] w fun e w' => e = .returned (.bool (compB a)) /\ w = w':=by
 go_enter Tryz.func182,Tryz.ntmps182
 go_wp2
 all_goals go_ret
 all_goals refine ⟨ret_bool ?_,rfl⟩
 all_goals unfold compB
 all_goals first | (refine (decide_eq_true ?_).symm; simp_all; done) | (refine (decide_eq_false ?_).symm; simp_all; done)
set_option maxHeartbeats 2000000 in
theorem step_any (a b : Int) (w : World) :
 Calls Tryz.prog 181 #[.int .i64 a,.int .u8 b] w fun e w' => e = .returned (.int .i64 (stepI a b)) /\ w = w':=by
 go_enter Tryz.func181,Tryz.ntmps181
 go_wp2_with (go_at_call 189; refine (digit_any _ _).mono ?_; rintro e w' ⟨rfl,rfl⟩)
 all_goals go_ret
 all_goals refine ⟨ret_int ?_,rfl⟩
 all_goals simp only [beq_iff_eq,beq_eq_false_iff_ne,ne_eq] at *
 all_goals unfold stepI
 all_goals repeat' split
 all_goals first | rfl | omega
theorem may_any (s : ByteArray) (w : World) (hm : s.size <= 9223372036854775807) :
 Calls Tryz.prog 175 #[.string s] w fun e w' => e = .returned (.tuple #[.bool (begB s.data.toList),.bool (isB s.data.toList)]) /\ w = w':=by
 go_enter Tryz.func175,Tryz.ntmps175
 go_wp2
 go_loop [4,5] (fun a i => ∃ k : Nat,k <= s.size /\ i = .int .i64 k /\ a = .int .i64 (mst 1 (s.data.toList.take k))) (fun _ i => s.size - (intOf i).toNat)
 case atStart => exact ⟨0,Nat.zero_le _,rfl,rfl⟩
 case round =>
  obtain ⟨k,hk,rfl,rfl⟩:=hrel
  generalize hM : mst 1 (s.data.toList.take k) = M
  have HM:=Lib.hid hM
  clear hM
  by_cases hlt : k < s.size
  ·by_cases h0 : M = 0
   ·have hb : (M != 0) = false:=by simp [h0]
    have hfin : mst 1 s.data.toList = 0:=by
     rw [<- List.take_append_drop k s.data.toList,mst_append,HM.out,h0,mst_0]
    have HF:=Lib.hid hfin
    have H0:=Lib.hid h0
    clear hfin h0
    go_wp2_with (first | (go_at_call 182; refine (compl_any _ _).mono ?_; rintro e w' ⟨rfl,rfl⟩))
    go_ret2
    refine ⟨?_,rfl⟩
    unfold begB isB
    rw [HF.out,H0.out]
    rfl
   ·have hb : (M != 0) = true:=by simpa using h0
    have hts : mst 1 (s.data.toList.take (k + 1)) = stepI M (s[k].toNat : Int):=by
     rw [List.take_succ_eq_append_getElem (by simpa using hlt),mst_snoc,HM.out]
     rfl
    have HT:=Lib.hid hts
    clear hts h0
    go_wp2_with (first | (go_at_call 181; refine (step_any _ _ _).mono ?_; rintro e w' ⟨rfl,rfl⟩))
    go_round
    case rel => exact ⟨k + 1,by omega,by go_num,by rw [HT.out]⟩
    case measure => simp [intOf]; omega
  ·have hfin : begB s.data.toList = (M != 0) /\ isB s.data.toList = compB M:=by
    have h1 : mst 1 s.data.toList = M:=by rw [<- HM.out,List.take_of_length_le (by simp; omega)]
    unfold begB isB
    rw [h1]
    exact ⟨by rw [Bool.eq_iff_iff]; simp,rfl⟩
   have HF:=Lib.hid hfin
   clear hfin
   go_wp2_with (first | (go_at_call 182; refine (compl_any _ _).mono ?_; rintro e w' ⟨rfl,rfl⟩))
   all_goals go_ret2
   all_goals refine ⟨?_,rfl⟩
   all_goals rw [HF.out.1,HF.out.2]
   all_goals rfl
theorem gRange : Tryz.prog.globalNamed "strconv.ErrRange" = some 2 := by kernel_rfl
theorem gPow : Tryz.prog.globalNamed "internal/strconv.uint64pow10" = some 5 := by kernel_rfl
structure StdW (w : World) : Prop where
 max : ∃ m,w.cell? ⟨0,0,none⟩ = some (.int .i64 m)
 range : ∃ tp p, w.var? Tryz.prog "strconv.ErrRange" = some #[.iface tp p]
 pow : Lib.TabIs Tryz.prog w "internal/strconv.uint64pow10" .u64 Lib.pow10Tab
theorem StdW.below {w w' : World} (h : StdW w) (hb : Below w.heap.size w w') : StdW w':=by
 obtain ⟨⟨m,hm⟩,⟨tp,p,hr⟩,hp⟩:=h
 refine ⟨⟨m,(hb.cell (p:=⟨0,0,none⟩) (cell_lt hm)).trans hm⟩,⟨tp,p,?_⟩,Lib.tabBelow_of_tabIs hp w' hb⟩
 have hc:=World.var?_cell gRange hr 0
 exact var?_below hb gRange (cell_lt (p:=⟨2,0,none⟩) hc) hr
theorem StdW.drewN {w : World} (h : StdW w) (n : Nat) : StdW (w.drewN n):=h.below (below_drewN (Below.refl _ _) n)
theorem expo_any (s : ByteArray) (w : World) (hw : StdW w) (hs : s.size <= 30) (h1 : sgn s.data.toList ≠ []) (h2 : (sgn s.data.toList).all dig = true) :
 Calls Tryz.prog 184 #[.string s] w fun e w' => e = .returned (.int .i64 (clampI (atoiI s.data.toList))) /\ Below w.heap.size w w':=by
 rcases (atoi_tail _ h1 h2).1 with ha | ⟨v,ha⟩
 ·have hv : atoiI s.data.toList = Lib.atoiSat s.data.toList:=by unfold atoiI; rw [ha]; rfl
  rw [hv]
  have HA:=Lib.hid ha
  clear ha hv
  obtain ⟨tp,p,hr⟩:=hw.range
  go_enter Tryz.func184,Tryz.ntmps184
  go_wp2_with fail
  refine (Tryz.strconv_Atoi_range_var s (by omega) HA.out tp p _ hr).mono ?_
  rintro e w1 ⟨N,rfl,_,_,hb⟩
  go_wp2
  go_ret
  exact ⟨rfl,hb⟩
 ·have hv : atoiI s.data.toList = v:=by unfold atoiI; rw [ha]; rfl
  rw [hv]
  have HA:=Lib.hid ha
  clear ha hv
  go_enter Tryz.func184,Tryz.ntmps184
  go_wp2_with fail
  refine (Tryz.strconv_Atoi_ok s (by omega) v HA.out _).mono ?_
  rintro e w1 ⟨rfl,hw1⟩
  have hb : Below w.heap.size w w1:=by
   rcases hw1 with rfl | ⟨t,rfl⟩
   ·exact Below.refl _ _
   ·exact Lib.bytesWorld_below _ _ _
  clear hw1
  go_wp2
  go_ret
  exact ⟨rfl,hb⟩
def decA (v : Val) : Value:=.agg #[.int .i64 (sgI v),.string ⟨v.digs.toArray⟩,.int .i64 v.pow]
def sgL (l : List UInt8) : List UInt8:=if negL l then [45] else []
theorem sgL_split (l : List UInt8) : l = sgL l ++ unsigned l:=by
 cases l with
 | nil => rfl
 | cons b l =>
  unfold sgL unsigned
  by_cases h : b.toNat = 45
  ·have hb : b = 45:=UInt8.toNat_inj.1 h
   subst hb
   rfl
  ·rw [show negL (b :: l) = false from decide_eq_false h]
   rfl
def PtOf (F pt : List UInt8) : Prop:=(pt = [] /\ F = []) \/ (pt = 46 :: F /\ F ≠ [])
def EtOf (T et : List UInt8) : Prop:=(et = [] /\ T = []) \/ (∃ c,isE c = true /\ et = c :: T /\ sgn T ≠ [] /\ (sgn T).all dig = true)
structure ShapeOf (p : Parts) (u pt et : List UInt8) : Prop where
 ne : p.whole ≠ []
 whole : p.whole.all dig = true
 part : p.part.all dig = true
 hpt : PtOf p.part pt
 het : EtOf p.tail et
 eq : u = p.whole ++ pt ++ et
theorem all_tw (l : List UInt8) : (l.takeWhile dig).all dig = true:=by
 induction l with
 | nil => rfl
 | cons b l ih =>
  rw [List.takeWhile_cons]
  split
  ·rw [List.all_cons,ih]; simp [*]
  ·rfl
theorem shape_E (W F x pt : List UInt8) (c : UInt8) (hc : isE c = true) (hW : W ≠ []) (hW2 : W.all dig = true) (hF : F.all dig = true) (hp : PtOf F pt) (h : (partsE W F x).is = true) :
 ShapeOf (partsE W F x) (W ++ pt ++ (c :: x)) pt (c :: x):=by
 unfold partsE at h ⊢
 by_cases k : (sgn x).all dig = true
 ·rw [if_pos k] at h ⊢
  exact ⟨hW,hW2,hF,hp,.inr ⟨c,hc,rfl,of_decide_eq_true h,k⟩,rfl⟩
 ·rw [if_neg k] at h
  cases h
theorem shape_X (W F r pt : List UInt8) (hW : W ≠ []) (hW2 : W.all dig = true) (hF : F.all dig = true) (hp : PtOf F pt) (h : (partsX W F r).is = true) :
 ShapeOf (partsX W F r) (W ++ pt ++ r) pt r:=by
 cases r with
 | nil => cases h
 | cons c x =>
  simp only [partsX] at h ⊢
  by_cases k : isE c = true
  ·rw [if_pos k] at h ⊢; exact shape_E W F x pt c k hW hW2 hF hp h
  ·rw [if_neg k] at h; cases h
theorem shape_W (W r : List UInt8) (hW2 : W.all dig = true) (hW : W ≠ []) (h : (partsW W r).is = true) : ∃ pt et,ShapeOf (partsW W r) (W ++ r) pt et:=by
 cases r with
 | nil => exact ⟨[],[],hW,hW2,rfl,.inl ⟨rfl,rfl⟩,.inl ⟨rfl,rfl⟩,by simp [partsW]⟩
 | cons c r =>
  simp only [partsW] at h ⊢
  by_cases k : c.toNat = 46
  ·have hc : c = 46:=UInt8.toNat_inj.1 k
   subst hc
   rw [if_pos k] at h ⊢
   unfold partsF at h ⊢
   have hs:=List.takeWhile_append_dropWhile (p:=dig) (l:=r)
   by_cases k1 : r.dropWhile dig = []
   ·rw [if_pos k1] at h ⊢
    rw [k1,List.append_nil] at hs
    have h2 : r.takeWhile dig ≠ []:=of_decide_eq_true h
    exact ⟨46 :: r.takeWhile dig,[],hW,hW2,all_tw r,.inr ⟨rfl,h2⟩,.inl ⟨rfl,rfl⟩,by simp [hs]⟩
   ·rw [if_neg k1] at h ⊢
    by_cases k2 : r.takeWhile dig = []
    ·rw [if_pos k2] at h; cases h
    ·rw [if_neg k2] at h ⊢
     have:=shape_X W (r.takeWhile dig) (r.dropWhile dig) (46 :: r.takeWhile dig) hW hW2 (all_tw r) (.inr ⟨rfl,k2⟩) h
     rw [show W ++ 46 :: List.takeWhile dig r ++ List.dropWhile dig r = W ++ 46 :: r from by simp [hs]] at this
     exact ⟨_,_,this⟩
  ·rw [if_neg k] at h ⊢
   have:=shape_X W [] (c :: r) [] hW hW2 rfl (.inl ⟨rfl,rfl⟩) h
   rw [List.append_nil] at this
   exact ⟨_,_,this⟩
theorem shape_of {l : List UInt8} (h : isB l = true) : ∃ pt et,ShapeOf (parts l) (unsigned l) pt et:=by
 rw [<- parts_is] at h
 unfold parts at h ⊢
 generalize unsigned l = u at *
 unfold partsU at h ⊢
 split at h
 ·cases h
 ·rename_i k1
  rw [if_neg k1]
  split at h
  ·cases h
  ·rename_i k2
   rw [if_neg k2]
   have hs:=List.takeWhile_append_dropWhile (p:=dig) (l:=u)
   by_cases k3 : u.takeWhile dig = []
   ·have k4 : u.dropWhile dig = []:=by
     apply Decidable.byContradiction
     intro hc
     exact k1 ⟨hc,k3⟩
    rw [k3,k4] at h
    cases h
   ·have:=shape_W _ _ (all_tw u) k3 h
    rw [hs] at this
    exact this
theorem dig_range {b : UInt8} (h : dig b = true) : 48 <= b.toNat /\ b.toNat <= 57:=(dig_iff b).1 h
theorem isE_iff (b : UInt8) : isE b = true ↔ b.toNat = 101 \/ b.toNat = 69:=by unfold isE; simp
theorem step_ascii {a : Int} {b : UInt8} (h : stepI a b.toNat ≠ 0) : b.toNat < 128:=by
 apply Decidable.byContradiction
 intro hc
 apply h
 unfold stepI
 repeat' split
 all_goals omega
theorem ascii_of_is {l : List UInt8} (h : isB l = true) : ∀ (j : Nat) b,l[j]? = some b -> b.toNat < 128:=by
 have h1:=is_begins h
 unfold begB at h1
 have h2:=of_decide_eq_true h1
 intro j b hb
 have hj : j < l.length:=by
  rcases Nat.lt_or_ge j l.length with h' | h'
  ·exact h'
  ·rw [List.getElem?_eq_none h'] at hb; cases hb
 rw [List.getElem?_eq_getElem hj] at hb
 injection hb with hb
 apply Decidable.byContradiction
 intro hc
 apply h2
 have e : l = l.take j ++ (b :: l.drop (j + 1)):=by
  have:=List.take_append_drop j l
  rw [List.drop_eq_getElem_cons hj,hb] at this
  exact this.symm
 rw [e,mst_append,mst]
 have h0 : stepI (mst 1 (l.take j)) b.toNat = 0:=by
  apply Decidable.byContradiction
  intro hk
  exact hc (step_ascii hk)
 rw [h0,mst_0]
def noE (l : List UInt8) : Prop:=∀ b ∈ l,isE b = false
theorem contains_e (b : UInt8) : ([101,69] : List UInt8).contains b = isE b:=by
 have e : isE b = decide (b.toNat = 101 \/ b.toNat = 69):=rfl
 rw [e,Bool.eq_iff_iff]
 simp [<- UInt8.toNat_inj]
theorem idx_none (l : List UInt8) (h : noE l) : Lib.indexAny l [101,69] = -1:=by
 induction l with
 | nil => rfl
 | cons b l ih =>
  rw [Lib.indexAny,contains_e,h b (by simp),ih (fun x hx => h x (by simp [hx]))]
  rfl
theorem idx_hit (l : List UInt8) (c : UInt8) (r : List UInt8) (h : noE l) (hc : isE c = true) : Lib.indexAny (l ++ c :: r) [101,69] = l.length:=by
 induction l with
 | nil => simp only [List.nil_append]; rw [Lib.indexAny,contains_e,hc]; rfl
 | cons b l ih =>
  rw [List.cons_append,Lib.indexAny,contains_e,h b (by simp),ih (fun x hx => h x (by simp [hx]))]
  have : ((l.length : Int) == -1) = false:=by rw [beq_eq_false_iff_ne]; omega
  rw [this]
  simp
theorem dig_noE {l : List UInt8} (h : l.all dig = true) : noE l:=by
 intro b hb
 have:=dig_range (List.all_eq_true.1 h b hb)
 cases he : isE b
 ·rfl
 ·rw [isE_iff] at he; omega
theorem sgL_noE (l : List UInt8) : noE (sgL l):=by
 unfold sgL
 split
 ·intro b hb
  simp at hb
  subst hb
  rfl
 ·intro b hb; cases hb
theorem noE_append {a b : List UInt8} (h1 : noE a) (h2 : noE b) : noE (a ++ b):=by
 intro x hx
 rcases List.mem_append.1 hx with h | h
 ·exact h1 x h
 ·exact h2 x h
theorem pt_noE {F pt : List UInt8} (h : PtOf F pt) (hF : F.all dig = true) : noE pt:=by
 rcases h with ⟨rfl,_⟩ | ⟨rfl,_⟩
 ·intro b hb; cases hb
 ·intro b hb
  rcases List.mem_cons.1 hb with rfl | hb
  ·rfl
  ·exact dig_noE hF b hb
theorem point_none (l : List UInt8) (h : l.all dig = true) : Lib.index l [46] = -1:=by
 induction l with
 | nil => rfl
 | cons b l ih =>
  rw [List.all_cons,Bool.and_eq_true] at h
  have:=dig_range h.1
  have hp : ([46] : List UInt8).isPrefixOf (b :: l) = false:=by
   simp [List.isPrefixOf]
   intro hc; subst hc; simp at this
  rw [Lib.index,hp,ih h.2]
  rfl
theorem point_hit (l r : List UInt8) (h : l.all dig = true) : Lib.index (l ++ 46 :: r) [46] = l.length:=by
 induction l with
 | nil => simp only [List.nil_append]; rw [Lib.index]; simp [List.isPrefixOf]
 | cons b l ih =>
  rw [List.all_cons,Bool.and_eq_true] at h
  have:=dig_range h.1
  have hp : ([46] : List UInt8).isPrefixOf (b :: (l ++ 46 :: r)) = false:=by
   simp [List.isPrefixOf]
   intro hc; subst hc; simp at this
  rw [List.cons_append,Lib.index,hp,ih h.2]
  have : ((l.length : Int) == -1) = false:=by rw [beq_eq_false_iff_ne]; omega
  rw [this]
  simp
theorem cut_point {W F pt : List UInt8} (h : W.all dig = true) (hp : PtOf F pt) : (Lib.cut (W ++ pt) [46]).1 = W /\ (Lib.cut (W ++ pt) [46]).2.1 = F:=by
 unfold Lib.cut
 rcases hp with ⟨rfl,rfl⟩ | ⟨rfl,_⟩
 ·rw [List.append_nil,point_none W h,if_neg (by omega)]
  exact ⟨rfl,rfl⟩
 ·rw [point_hit W F h,if_pos (by omega)]
  refine ⟨?_,?_⟩
  ·simp
  ·simp only [List.length_cons,List.length_nil,Int.toNat_natCast]
   rw [List.drop_append]
   simp
structure CutE (l : List UInt8) (H : List UInt8) (pt : List UInt8) : Prop where
 sh : ∃ et,ShapeOf (parts l) (unsigned l) pt et
 head : H = sgL l ++ ((parts l).whole ++ pt)
 neg : negL H = negL l
 uns : unsigned H = (parts l).whole ++ pt
theorem neg_head {l u W : List UInt8} (hW : W ≠ []) (hW2 : W.all dig = true) : negL (sgL l ++ (W ++ u)) = negL l /\ unsigned (sgL l ++ (W ++ u)) = W ++ u:=by
 cases hn : negL l
 ·unfold sgL
  rw [hn]
  cases W with
  | nil => exact absurd rfl hW
  | cons b W =>
   rw [List.all_cons,Bool.and_eq_true] at hW2
   have:=dig_range hW2.1
   have e : negL (b :: (W ++ u)) = false:=decide_eq_false (by omega)
   refine ⟨e,?_⟩
   unfold unsigned
   simp only [List.nil_append,List.cons_append,Bool.false_eq_true,if_false]
   rw [e]
   rfl
 ·unfold sgL
  rw [hn]
  exact ⟨rfl,rfl⟩
theorem cutE {l : List UInt8} (h : isB l = true) :
 (∃ H pt,CutE l H pt /\ l = H /\ (parts l).tail = [] /\ Lib.indexAny l [101,69] = -1) \/
 (∃ H pt c,CutE l H pt /\ l = H ++ c :: (parts l).tail /\ sgn (parts l).tail ≠ [] /\ (sgn (parts l).tail).all dig = true /\ Lib.indexAny l [101,69] = H.length):=by
 obtain ⟨pt,et,hs⟩:=shape_of h
 have hn:=neg_head (l:=l) (u:=pt) hs.ne hs.whole
 have hc : CutE l (sgL l ++ ((parts l).whole ++ pt)) pt:=⟨⟨et,hs⟩,rfl,hn.1,hn.2⟩
 have hno : noE (sgL l ++ ((parts l).whole ++ pt)):=noE_append (sgL_noE l) (noE_append (dig_noE hs.whole) (pt_noE hs.hpt hs.part))
 have e0:=sgL_split l
 rw [hs.eq] at e0
 rcases hs.het with ⟨rfl,ht⟩ | ⟨c,hce,rfl,h1,h2⟩
 ·left
  rw [List.append_nil] at e0
  exact ⟨_,pt,hc,e0,ht,(congrArg (fun x => Lib.indexAny x [101,69]) e0).trans (idx_none _ hno)⟩
 ·right
  rw [<- List.append_assoc] at e0
  refine ⟨_,pt,c,hc,e0,h1,h2,?_⟩
  exact (congrArg (fun x => Lib.indexAny x [101,69]) e0).trans (idx_hit _ c _ hno hce)
def eprog (l : List UInt8) : Int:=if (parts l).tail = [] then 0 else clampI (atoiI (parts l).tail)
theorem near_prog {l : List UInt8} (h : isB l = true) : Near (eexp (parts l).tail) (eprog l):=by
 unfold eprog
 rcases cutE h with ⟨_,_,_,_,h1,_⟩ | ⟨_,_,_,_,_,h1,h2,_⟩
 ·rw [if_pos h1,h1]; exact .inl (by decide)
 ·have : (parts l).tail ≠ []:=fun hc => h1 (by rw [hc]; rfl)
  rw [if_neg this]
  exact near_atoi _ h1 h2
theorem hp_neg (l : List UInt8) : Lib.hasPrefix l [45] = negL l:=by
 cases l with
 | nil => rfl
 | cons b l =>
  unfold Lib.hasPrefix negL
  rw [Bool.eq_iff_iff]
  simp [List.isPrefixOf,<- UInt8.toNat_inj]
  omega
theorem tp_uns (l : List UInt8) : Lib.trimPrefix l [45] = unsigned l:=by
 unfold Lib.trimPrefix unsigned
 rw [hp_neg]
 rfl
theorem len_of (l : List UInt8) : (⟨l.toArray⟩ : ByteArray).size = l.length:=by simp [ByteArray.size]
theorem bytes_of (s : ByteArray) : (⟨s.data.toList.toArray⟩ : ByteArray) = s:=by cases s; simp
theorem ascii_eE : ∀ (j : Nat) b,(⟨#[101,69]⟩ : ByteArray).data.toList[j]? = some b -> b.toNat < 128:=by
 intro j b h
 match j with
 | 0 => simp at h; subst h; decide
 | 1 => simp at h; subst h; decide
 | j + 2 => simp at h
structure VS (w0 w1 : World) (s : Int) (D : ByteArray) (p : Int) : Prop where
 r : Blk w1 w0.heap.size 173 #[.int .i64 0,.string ⟨#[]⟩,.int .i64 0]
 v : Blk w1 (w0.heap.size + 1) 173 #[.int .i64 s,.string D,.int .i64 p]
 bel : Below w0.heap.size w0 w1
section
variable {w0 w1 w2 : World} {s p : Int} {D : ByteArray}
theorem VS.start (w : World) : VS w ((w.alloc (.cells #[.int .i64 0,.string ⟨#[]⟩,.int .i64 0] 173)).alloc (.cells #[.int .i64 1,.string ⟨#[]⟩,.int .i64 0] 173)) 1 ⟨#[]⟩ 0 :=
 ⟨(Blk.new w _ _).alloc _,by have:=Blk.new (w.alloc (.cells #[.int .i64 0,.string ⟨#[]⟩,.int .i64 0] 173)) 173 #[.int .i64 1,.string ⟨#[]⟩,.int .i64 0]; simpa using this,((Below.refl _ _).alloc (Nat.le_refl _) _).alloc (by simp) _⟩
theorem VS.next (h : VS w0 w1 s D p) (hb : Below w1.heap.size w1 w2) : VS w0 w2 s D p :=
 ⟨h.r.below hb h.r.lt,h.v.below hb h.v.lt,h.bel.trans (hb.mono h.bel.size)⟩
theorem VS.drewN (h : VS w0 w1 s D p) (n : Nat) : VS w0 (w1.drewN n) s D p:=h.next (below_drewN (Below.refl _ _) n)
theorem VS.set0 (h : VS w0 w1 s D p) (x : Int) : VS w0 (w1.setCell ⟨w0.heap.size + 1,0,none⟩ (.int .i64 x)) x D p :=
 ⟨h.r.far (by simp) _,h.v.set_ 0 _,h.bel.setCell (by simp) _⟩
theorem VS.set1 (h : VS w0 w1 s D p) (x : ByteArray) : VS w0 (w1.setCell ⟨w0.heap.size + 1,1,none⟩ (.string x)) s x p :=
 ⟨h.r.far (by simp) _,h.v.set_ 1 _,h.bel.setCell (by simp) _⟩
theorem VS.set2 (h : VS w0 w1 s D p) (x : Int) : VS w0 (w1.setCell ⟨w0.heap.size + 1,2,none⟩ (.int .i64 x)) s D x :=
 ⟨h.r.far (by simp) _,h.v.set_ 2 _,h.bel.setCell (by simp) _⟩
theorem VS.c0 (h : VS w0 w1 s D p) : w1.cell? ⟨w0.heap.size + 1,0,none⟩ = some (.int .i64 s):=h.v.cell 0
theorem VS.c1 (h : VS w0 w1 s D p) : w1.cell? ⟨w0.heap.size + 1,1,none⟩ = some (.string D):=h.v.cell 1
theorem VS.c2 (h : VS w0 w1 s D p) : w1.cell? ⟨w0.heap.size + 1,2,none⟩ = some (.int .i64 p):=h.v.cell 2
theorem VS.f0 (h : VS w0 w1 s D p) : w1.frozen? ⟨w0.heap.size + 1,0,none⟩ = false:=h.v.frozen 0
theorem VS.f1 (h : VS w0 w1 s D p) : w1.frozen? ⟨w0.heap.size + 1,1,none⟩ = false:=h.v.frozen 1
theorem VS.f2 (h : VS w0 w1 s D p) : w1.frozen? ⟨w0.heap.size + 1,2,none⟩ = false:=h.v.frozen 2
theorem VS.r0 (h : VS w0 w1 s D p) : w1.cell? ⟨w0.heap.size,0,none⟩ = some (.int .i64 0):=h.r.cell 0
theorem VS.r1 (h : VS w0 w1 s D p) : w1.cell? ⟨w0.heap.size,1,none⟩ = some (.string ⟨#[]⟩):=h.r.cell 1
theorem VS.r2 (h : VS w0 w1 s D p) : w1.cell? ⟨w0.heap.size,2,none⟩ = some (.int .i64 0):=h.r.cell 2
theorem VS.g0 (h : VS w0 w1 s D p) : w1.frozen? ⟨w0.heap.size,0,none⟩ = false:=h.r.frozen 0
theorem VS.g1 (h : VS w0 w1 s D p) : w1.frozen? ⟨w0.heap.size,1,none⟩ = false:=h.r.frozen 1
theorem VS.g2 (h : VS w0 w1 s D p) : w1.frozen? ⟨w0.heap.size,2,none⟩ = false:=h.r.frozen 2
end
set_option maxHeartbeats 1000000 in
theorem value_any (s : ByteArray) (w : World) (hw : StdW w) (hs : s.size <= 30) (h : isB s.data.toList = true) :
 Calls Tryz.prog 176 #[.string s] w fun e w' => e = .returned (decA (valE s.data.toList (eprog s.data.toList))) /\ Below w.heap.size w w':=by
 have ha:=ascii_of_is h
 have HA:=Lib.hid ha
 clear ha
 rcases cutE h with ⟨H,pt,hc,hl,ht,hi⟩ | ⟨H,pt,c,hc,hl,ht,ht2,hi⟩
 case' inl =>
  have hle : H.length <= 30:=by rw [<- hl]; simpa using hs
  have HL:=Lib.hid hl
  have HT:=Lib.hid ht
  have HI:=Lib.hid hi
  have HC:=Lib.hid hc
  have HH:=Lib.hid h
  clear hl ht hi hc h
  go_enter Tryz.func176,Tryz.ntmps176
  go_wp2_with fail
  refine (Tryz.strings_IndexAny_laid s _ _ (by omega) (by decide) HA.out ascii_eE).mono ?_
  rintro e w1 ⟨rfl,hb1⟩
  have hv1:=(VS.start w).next hb1
  clear hb1
  rw [show Lib.indexAny s.data.toList (⟨#[101,69]⟩ : ByteArray).data.toList = -1 from HI.out]
  have c0:=hv1.c0; have c1:=hv1.c1; have c2:=hv1.c2; have f0:=hv1.f0; have f1:=hv1.f1; have f2:=hv1.f2
  generalize hep : (0 : Int) = ep at hv1
  have HEP : Hid (eprog s.data.toList = ep):=Lib.hid (by unfold eprog; rw [if_pos HT.out,hep])
  rw [hep] at c2
  clear hep
  have hep0 : -2058 <= ep /\ ep <= 2058:=by have:=HEP.out; unfold eprog at this; rw [if_pos HT.out] at this; omega
  obtain ⟨ep1,ep2⟩:=hep0
  have HX:=HL
  go_wp2_with fail
  generalize hX : (Value.string s) = VX
  obtain ⟨X,hX2,HX2⟩ : ∃ X : ByteArray,Value.string X = VX /\ Hid (X.data.toList = H):=⟨s,hX,HX⟩
  subst hX2
  clear HX hX HL HA HI HH HT
  have HX:=HX2
  clear HX2
 case' inr =>
  have hsz : H.length + 1 + (parts s.data.toList).tail.length = s.size:=by
   have:=congrArg List.length hl
   simp at this
   omega
  have hle : H.length <= 30:=by omega
  have hle2 : H.length + 1 <= s.size:=by omega
  have htl : (s.extract (H.length + 1) s.size).data.toList = (parts s.data.toList).tail:=by
   rw [Lib.extract_data,List.take_of_length_le (by simp)]
   have:=congrArg (List.drop (H.length + 1)) hl
   rw [this]
   simp [List.drop_append]
  have hhd : (s.extract 0 H.length).data.toList = H:=by
   rw [Lib.extract_data]
   simp
   rw [hl]
   simp
  have HTL:=Lib.hid htl
  have HHD:=Lib.hid hhd
  have HSZ:=Lib.hid hsz
  clear htl hhd hsz
  have HL:=Lib.hid hl
  have HT:=Lib.hid ht
  have HT2:=Lib.hid ht2
  have HI:=Lib.hid hi
  have HC:=Lib.hid hc
  have HH:=Lib.hid h
  clear hl ht ht2 hi hc h
  go_enter Tryz.func176,Tryz.ntmps176
  go_wp2_with fail
  refine (Tryz.strings_IndexAny_laid s _ _ (by omega) (by decide) HA.out ascii_eE).mono ?_
  rintro e w1 ⟨rfl,hb1⟩
  have hv1:=(VS.start w).next hb1
  clear hb1
  rw [show Lib.indexAny s.data.toList (⟨#[101,69]⟩ : ByteArray).data.toList = H.length from HI.out]
  have c0:=hv1.c0; have c1:=hv1.c1; have c2:=hv1.c2; have f0:=hv1.f0; have f1:=hv1.f1; have f2:=hv1.f2
  go_wp2_with fail
  refine (expo_any _ _ (hw.below hv1.bel) (by simp [ByteArray.size_extract]; omega) (by rw [HTL.out]; exact HT.out) (by rw [HTL.out]; exact HT2.out)).mono ?_
  rintro e w2 ⟨rfl,hb2⟩
  rw [HTL.out]
  have hv2:=hv1.next hb2
  clear hb2 hv1 c0 c1 c2 f0 f1 f2
  generalize hep : clampI (atoiI (parts s.data.toList).tail) = ep
  have HEP : Hid (eprog s.data.toList = ep):=Lib.hid (by unfold eprog; rw [if_neg (fun hc => HT.out (by rw [hc]; rfl)),hep])
  clear hep
  have hep0 : -2058 <= ep /\ ep <= 2058:=by have:=HEP.out; unfold eprog clampI at this; split at this <;> omega
  obtain ⟨ep1,ep2⟩:=hep0
  have c0:=hv2.c0; have c1:=hv2.c1; have c2:=hv2.c2; have f0:=hv2.f0; have f1:=hv2.f1; have f2:=hv2.f2
  go_wp2_with fail
  have hv1:=hv2.set2 ep
  generalize w2.setCell ⟨w.heap.size + 1,2,none⟩ (.int .i64 ep) = w1 at hv1 ⊢
  clear hv2 c0 c1 c2 f0 f1 f2
  have c0:=hv1.c0; have c1:=hv1.c1; have c2:=hv1.c2; have f0:=hv1.f0; have f1:=hv1.f1; have f2:=hv1.f2
  have HX:=HHD
  generalize s.extract 0 H.length = X at HX ⊢
  clear HL HA HI HH HT HT2 HTL HHD HSZ hle2
 all_goals
  refine (Tryz.strings_CutPrefix X _ _).mono ?_
  rintro e w' ⟨rfl,rfl⟩
  have e1 : Lib.trimPrefix X.data.toList (⟨#[45]⟩ : ByteArray).data.toList = (parts s.data.toList).whole ++ pt:=by rw [HX.out]; exact (tp_uns H).trans HC.out.uns
  have e2 : Lib.hasPrefix X.data.toList (⟨#[45]⟩ : ByteArray).data.toList = negL s.data.toList:=by rw [HX.out]; exact (hp_neg H).trans HC.out.neg
  rw [e1,e2]
  clear e1 e2
  generalize hng : negL s.data.toList = ng
  have HNG:=Lib.hid hng
  clear hng
  cases ng
  all_goals
   have HNG0:=HNG
   go_wp2_with fail
   clear HNG
   first
    | (have hv2:=hv1.set0 (-1)
       generalize hwv : w'.setCell ⟨w.heap.size + 1,0,none⟩ (.int .i64 (-1)) = wv at hv2 ⊢
       have HN1 : Hid (negL s.data.toList = true):=HNG0
       clear hwv)
    | (have HN1 : Hid (negL s.data.toList = false):=HNG0
       have hv2:=hv1)
   clear hv1 c0 c1 c2 f0 f1 f2
   have c0:=hv2.c0
   have c1:=hv2.c1
   have c2:=hv2.c2
   have f0:=hv2.f0
   have f1:=hv2.f1
   have f2:=hv2.f2
   obtain ⟨m,hm⟩:=(hw.below hv2.bel).max
   obtain ⟨et,hsh⟩:=HC.out.sh
   have hWF:=parts_len s.data.toList
   have hlen : (unsigned s.data.toList).length <= s.size:=by have:=unsigned_len s.data.toList; simpa using this
   have hlen2:=congrArg List.length hsh.eq
   simp only [List.length_append] at hlen2
   have hct:=cut_point hsh.whole hsh.hpt
   have HCT:=Lib.hid hct
   clear hct hsh
   refine (Tryz.strings_Cut _ _ m _ (by rw [len_of,List.length_append]; omega) hm).mono ?_
   rintro e w4 ⟨rfl,n,rfl⟩
   have e1 : (Lib.cut (ByteArray.mk ((parts s.data.toList).whole ++ pt).toArray).data.toList (⟨#[46]⟩ : ByteArray).data.toList).1 = (parts s.data.toList).whole:=HCT.out.1
   have e2 : (Lib.cut (ByteArray.mk ((parts s.data.toList).whole ++ pt).toArray).data.toList (⟨#[46]⟩ : ByteArray).data.toList).2.1 = (parts s.data.toList).part:=HCT.out.2
   rw [e1,e2]
   clear e1 e2 hm
   generalize (Lib.cut (ByteArray.mk ((parts s.data.toList).whole ++ pt).toArray).data.toList (⟨#[46]⟩ : ByteArray).data.toList).2.2 = cb
   have hF2 : (parts s.data.toList).part.length <= 30:=by simp at hWF; omega
   have hW1 : (⟨(parts s.data.toList).whole.toArray⟩ : ByteArray).size <= 30:=by rw [len_of]; simp at hWF; omega
   have hF1 : (⟨(parts s.data.toList).part.toArray⟩ : ByteArray).size <= 30:=by rw [len_of]; simp at hWF; omega
   go_wp2_with fail
   have hDA : (⟨(parts s.data.toList).whole.toArray⟩ ++ ⟨(parts s.data.toList).part.toArray⟩ : ByteArray).data.toList = allD s.data.toList:=by simp [allD]
   have hDB : (⟨(parts s.data.toList).whole.toArray⟩ ++ ⟨(parts s.data.toList).part.toArray⟩ : ByteArray).size <= 30:=by
    rw [ByteArray.size_append,len_of,len_of]; simp at hWF; omega
   have HDA:=Lib.hid hDA
   clear hDA hlen2 hlen hWF
   generalize (⟨(parts s.data.toList).whole.toArray⟩ ++ ⟨(parts s.data.toList).part.toArray⟩ : ByteArray) = DA at HDA hDB ⊢
   refine (Tryz.strings_TrimRight_one DA 48 (by decide) _ (by omega)).mono ?_
   rintro e w5 ⟨rfl,rfl⟩
   rw [HDA.out]
   have hR : (⟨(rightD s.data.toList).toArray⟩ : ByteArray).size <= 30:=by
    rw [len_of]
    have:=trimR_len (allD s.data.toList) 48
    rw [<- HDA.out] at this
    have h2 : DA.data.toList.length = DA.size:=by simp
    rw [HDA.out] at this h2
    unfold rightD
    omega
   have HRD : Hid ((⟨(rightD s.data.toList).toArray⟩ : ByteArray).data.toList = rightD s.data.toList):=Lib.hid rfl
   rw [show (⟨(Lib.trimRightB (allD s.data.toList) 48).toArray⟩ : ByteArray) = ⟨(rightD s.data.toList).toArray⟩ from rfl]
   generalize (⟨(rightD s.data.toList).toArray⟩ : ByteArray) = R at HRD hR ⊢
   go_wp2_with fail
   have hv3:=((hv2.drewN n).set1 R).set2 (ep + ((DA.size : Int) - R.size - (parts s.data.toList).part.length))
   have HPW : Hid (powD s.data.toList ep = ep + ((DA.size : Int) - R.size - (parts s.data.toList).part.length)):=Lib.hid (by
    unfold powD
    rw [<- HDA.out,<- HRD.out]
    simp
    omega)
   have hP1 : -4000 <= ep + ((DA.size : Int) - R.size - (parts s.data.toList).part.length):=by omega
   have hP2 : ep + ((DA.size : Int) - R.size - (parts s.data.toList).part.length) <= 4000:=by omega
   generalize ep + ((DA.size : Int) - R.size - (parts s.data.toList).part.length) = PW at hv3 HPW hP1 hP2 ⊢
   clear c0 c1 c2 f0 f1 f2
   generalize World.setCell _ _ (Value.int .i64 PW) = w3 at hv3 ⊢
   clear hv2
   have c0:=hv3.c0
   have c1:=hv3.c1
   have c2:=hv3.c2
   have f0:=hv3.f0
   have f1:=hv3.f1
   have f2:=hv3.f2
   have r0:=hv3.r0
   have r1:=hv3.r1
   have r2:=hv3.r2
   have g0:=hv3.g0
   have g1:=hv3.g1
   have g2:=hv3.g2
   refine (Tryz.strings_TrimLeft_one R 48 (by decide) _).mono ?_
   rintro e w5 ⟨rfl,rfl⟩
   rw [HRD.out,show (⟨(Lib.trimLeftB (rightD s.data.toList) 48).toArray⟩ : ByteArray) = ⟨(digsD s.data.toList).toArray⟩ from rfl]
   by_cases hd : digsD s.data.toList = []
   ·have hfin : valE s.data.toList (eprog s.data.toList) = ⟨false,[],0⟩:=by unfold valE; rw [if_pos hd]
    have HF:=Lib.hid hfin
    clear hfin
    rw [hd]
    clear hd
    go_wp2
    refine bodyPost_ret (v:=.agg #[.int .i64 0,.string ⟨#[]⟩,.int .i64 0]) (by simp [results,Tryz.results176,go_sem,r0,r1,r2]) rfl ⟨by rw [HF.out]; rfl,?_⟩
    repeat (first | exact hv3.bel | refine Below.setCell ?_ (by simp) _)
   ·have hfin : valE s.data.toList (eprog s.data.toList) = ⟨negL s.data.toList,digsD s.data.toList,PW⟩:=by unfold valE; rw [if_neg hd,HEP.out,HPW.out]
    have HF:=Lib.hid hfin
    have HD:=Lib.hid hd
    have hne : (digsD s.data.toList == []) = false:=by simpa using hd
    clear hfin hd
    have hsg : sgI ⟨negL s.data.toList,digsD s.data.toList,PW⟩ = if negL s.data.toList then -1 else 1:=by unfold sgI; rw [if_neg HD.out]
    rw [HN1.out] at hsg
    have HS:=Lib.hid hsg
    clear hsg
    go_wp2
    first
     | (refine bodyPost_ret (v:=.agg #[.int .i64 (-1),.string ⟨(digsD s.data.toList).toArray⟩,.int .i64 PW]) (by simp [results,Tryz.results176,go_sem,r0,r1,r2]) rfl ⟨?_,?_⟩
        ·rw [HF.out,HN1.out]
         unfold decA
         simp only
         rw [HS.out]
         rfl
        ·repeat (first | exact hv3.bel | refine Below.setCell ?_ (by simp) _))
     | (refine bodyPost_ret (v:=.agg #[.int .i64 1,.string ⟨(digsD s.data.toList).toArray⟩,.int .i64 PW]) (by simp [results,Tryz.results176,go_sem,r0,r1,r2]) rfl ⟨?_,?_⟩
        ·rw [HF.out,HN1.out]
         unfold decA
         simp only
         rw [HS.out]
         rfl
        ·repeat (first | exact hv3.bel | refine Below.setCell ?_ (by simp) _))
end Go.Proofs.YtbnppjmmlfncmaaGreatDoor.Nm

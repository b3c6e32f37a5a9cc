/-
  The reference's Cut and Join (hexaplaref04): the same answers.
  The parts of a text, told by places in it.
  The reference's run: its contract.
  The reference's parts: its contract.
-/
import Derived.Test.YtbnppjmmlfncmaaGreatDoorIrA09
import Derived.Deep.QuietTactic
import Derived.BigQuiet
import Derived.Test.YtbnppjmmlfncmaaGreatDoorIrA11
import Derived.Lib.Strings
import Derived.Deep.DeepCutAuto
set_option maxRecDepth 100000
namespace Go.Proofs.YtbnppjmmlfncmaaGreatDoor
open Go.RowKit Go.Maps
theorem plain_of {s : ByteArray} (h : ¬ 48 < s.size) (hp : s.size = 0 \/ ∃ h0 : 0 < s.size,(s[0].toNat : Int) ≠ 123) : cutL s.data.toList = if localL s.data.toList = true then some ([],s.data.toList) else none:=by
 refine cutL_plain (by simpa using h) ?_
 rcases hp with hp | ⟨h0,hp⟩
 ·rw [List.eq_nil_of_length_eq_zero (l:=s.data.toList) (by simpa using hp)]
  rfl
 ·rw [bytes_cons s h0]
  simp [Lib.hasPrefix,List.isPrefixOf]
  intro hc
  rw [<- hc] at hp
  exact hp rfl
theorem brace_of {s : ByteArray} (h0 : 0 < s.size) (hp : (s[0].toNat : Int) = 123) : s.data.toList = 123 :: s.data.toList.drop 1:=by
 have e:=bytes_cons s h0
 have : s[0] = 123:=UInt8.toNat_inj.1 (by rw [show (123 : UInt8).toNat = 123 from rfl]; omega)
 rw [this] at e
 exact e
def noAt (l : List UInt8) (k : Nat) : Prop:=∀ d ∈ (l.drop 1).take (k - 1),noEnd d = true
theorem no_step {s : ByteArray} {k : Nat} (h1 : 1 <= k) (hlt : k < s.size) (h : noAt s.data.toList k) (hc : (s[k].toNat : Int) ≠ 125) : noAt s.data.toList (k + 1):=by
 unfold noAt at h ⊢
 rw [show k + 1 - 1 = k by omega,bytes_take s k h1 hlt]
 intro d hd
 rcases List.mem_append.1 hd with hd | hd
 ·exact h d hd
 ·rw [List.mem_singleton.1 hd]
  unfold noEnd
  rw [decide_eq_true_iff]
  exact hc
theorem no_hit {s : ByteArray} {k : Nat} (h1 : 1 <= k) (hlt : k < s.size) (h : noAt s.data.toList k) (hc : (s[k].toNat : Int) = 125) : cutAt (s.data.toList.drop 1) = ((s.data.toList.drop 1).take (k - 1),s.data.toList.drop (k + 1),true):=by
 have e1 : s.data.toList.drop k = 125 :: s.data.toList.drop (k + 1):=by
  rw [drop_cons s k hlt]
  have : s[k] = 125:=UInt8.toNat_inj.1 (by rw [show (125 : UInt8).toNat = 125 from rfl]; omega)
  rw [this]
 have e2 : s.data.toList.drop 1 = (s.data.toList.drop 1).take (k - 1) ++ 125 :: s.data.toList.drop (k + 1):=by
  conv => lhs; rw [<- List.take_append_drop (k - 1) (s.data.toList.drop 1)]
  rw [List.drop_drop,show 1 + (k - 1) = k by omega,e1]
 obtain ⟨a1,a2⟩:=span_end (l:=s.data.toList.drop (k + 1)) h
 rw [<- e2] at a1 a2
 unfold cutAt
 rw [a1,a2]
theorem no_end {s : ByteArray} {k : Nat} (hk : s.size <= k) (h : noAt s.data.toList k) : (cutAt (s.data.toList.drop 1)).2.1 = []:=by
 unfold noAt at h
 rw [List.take_of_length_le (by simp; omega)] at h
 have : (s.data.toList.drop 1).dropWhile noEnd = []:=by
  generalize s.data.toList.drop 1 = l at *
  induction l with
  | nil => rfl
  | cons c t ih => rw [List.dropWhile_cons,if_pos (h c List.mem_cons_self)]; exact ih (fun d hd => h d (List.mem_cons_of_mem _ hd))
 unfold cutAt
 rw [this]
theorem extract_mid (s : ByteArray) (k : Nat) : (s.extract 1 k).data.toList = (s.data.toList.drop 1).take (k - 1):=by simp
set_option maxHeartbeats 2000000 in
theorem rcut_any (s : ByteArray) (w : World) (hm : s.size <= 140737488355328) :
 Calls Tryz.prog 156 #[.string s] w fun e w' => e = CutEnd s.data.toList /\ Below w.heap.size w w':=by
 have hl : s.data.toList.length = s.size:=by simp
 have hbel:=Below.refl w.heap.size w
 by_cases h48 : 48 < s.size
 ·rw [cutEnd_none (cutL_long (by omega))]
  clear hl
  go_enter Tryz.func156,Tryz.ntmps156
  go_wp2
  go_ret3
  exact ⟨rfl,hbel⟩
 by_cases h0 : s.size = 0
 ·have hE : CutEnd s.data.toList = .returned (.tuple #[.string ⟨#[]⟩,.string ⟨#[]⟩,.bool false]):=by
   rw [List.eq_nil_of_length_eq_zero (l:=s.data.toList) (by omega)]
   rfl
  rw [hE]
  have hs : s = ⟨#[]⟩:=ByteArray.ext (Array.eq_empty_of_size_eq_zero h0)
  subst hs
  have HF:=Lib.hid (show localL (⟨#[]⟩ : ByteArray).data.toList = false from rfl)
  clear hl hE h0
  go_enter Tryz.func156,Tryz.ntmps156
  go_wp2_with (first
   | (go_at_call 157; refine (rlocal_any _ _ (by omega)).mono ?_; rintro e w' ⟨rfl,rfl⟩; rw [HF.out]))
  go_ret3
  exact ⟨rfl,hbel⟩
 have hp0 : 0 < s.size:=by omega
 by_cases hc : (s[0].toNat : Int) = 123
 ·have hb:=cutL_brace (t:=s.data.toList.drop 1) (by simp; omega)
  rw [<- brace_of hp0 hc] at hb
  have HB:=Lib.hid hb
  clear hb hl
  go_enter Tryz.func156,Tryz.ntmps156
  go_wp2
  go_loop [6] (fun i => ∃ k : Nat,1 <= k /\ k <= s.size /\ i = .int .i64 k /\ Hid (noAt s.data.toList k)) (fun i => s.size - (intOf i).toNat)
  case atStart => exact ⟨1,Nat.le_refl _,by omega,rfl,Lib.hid (fun d hd => by simp at hd)⟩
  case round =>
   obtain ⟨k,hk1,hk,rfl,HK⟩:=hrel
   by_cases hlt : k < s.size
   ·by_cases hq : (s[k].toNat : Int) = 125
    ·have hcut:=no_hit hk1 hlt HK.out hq
     have HB':=HB.out
     rw [hcut] at HB'
     simp only at HB'
     have e1:=extract_mid s k
     have e2:=extract_all s (k + 1)
     rw [<- e1,<- e2] at HB'
     have n1 : (s.extract 1 k).size <= 48:=by simp; omega
     have n2 : (s.extract (k + 1) s.size).size <= 48:=by simp; omega
     have d1 : (1 : Int) <= k:=by omega
     have d2 : (k : Int) <= s.size:=by omega
     have d3 : (k : Int) + 1 <= s.size:=by omega
     have d4 : (0 : Int) <= (k : Int) + 1:=by omega
     clear e1 e2 hcut HB HK
     rcases Bool.eq_false_or_eq_true (spaceL (s.extract 1 k).data.toList) with hs | hs
     case' inl => have HS:=Lib.hid hs
     case' inr => have HS:=Lib.hid hs
     all_goals rcases Bool.eq_false_or_eq_true (localL (s.extract (k + 1) s.size).data.toList) with hf | hf
     all_goals have HF:=Lib.hid hf
     case' inl.inl => rw [if_pos ⟨hs,hf⟩] at HB'
     case' inl.inl => have HC:=Lib.hid (cutEnd_some HB')
     case' inl.inl => rw [str_of,str_of] at HC
     case' inl.inr => rw [if_neg (by rw [hf]; simp)] at HB'
     case' inl.inr => have HC:=Lib.hid (cutEnd_none HB')
     case' inr.inl => rw [if_neg (by rw [hs]; simp)] at HB'
     case' inr.inl => have HC:=Lib.hid (cutEnd_none HB')
     case' inr.inr => rw [if_neg (by rw [hs]; simp)] at HB'
     case' inr.inr => have HC:=Lib.hid (cutEnd_none HB')
     all_goals clear hs hf HB'
     all_goals
      go_wp2_with (first
       | (go_at_call 171; refine (rspace_any _ _ (by omega)).mono ?_; rintro e w' ⟨rfl,hb1⟩; rw [HS.out]; replace hbel:=hbel.trans (hb1.mono hbel.size); clear hb1)
       | (go_at_call 157; refine (rlocal_any _ _ (by omega)).mono ?_; rintro e w' ⟨rfl,rfl⟩; rw [HF.out]))
     all_goals first
      | (go_ret3
         exact ⟨HC.out.symm,hbel⟩)
      | (go_quiet (fail)
         go_wp2
         go_ret3
         exact ⟨HC.out.symm,below_drewN hbel _⟩)
    ·have HS:=Lib.hid (no_step hk1 hlt HK.out hq)
     go_wp2
     go_round
     case rel => exact ⟨k + 1,by omega,by omega,by go_num,HS⟩
     case measure => simp [intOf]; omega
   ·have hne:=no_end (by omega) HK.out
    have HB':=HB.out
    rw [hne,if_neg (by simp [localL])] at HB'
    have HC:=Lib.hid (cutEnd_none HB')
    clear hne HB' HB
    go_wp2
    go_ret3
    exact ⟨HC.out.symm,hbel⟩
 ·have hb:=plain_of h48 (.inr ⟨hp0,hc⟩)
  have hcb : ((s[0].toNat : Int) != 123) = true:=by simpa using hc
  rcases Bool.eq_false_or_eq_true (localL s.data.toList) with hf | hf
  case' inl => rw [hf,if_pos rfl] at hb
  case' inl => rw [cutEnd_some hb]
  case' inr => rw [hf,if_neg (by simp)] at hb
  case' inr => rw [cutEnd_none hb]
  all_goals have HF:=Lib.hid hf
  all_goals clear hf hb hl
  all_goals
   go_enter Tryz.func156,Tryz.ntmps156
   go_wp2_with (first
    | (go_at_call 157; refine (rlocal_any s _ hm).mono ?_; rintro e w' ⟨rfl,rfl⟩; rw [HF.out]))
   go_ret3
   exact ⟨rfl,hbel⟩
end Go.Proofs.YtbnppjmmlfncmaaGreatDoor
namespace Go.Proofs.YtbnppjmmlfncmaaGreatDoor.Nm
def twN (l : List UInt8) : Nat:=(l.takeWhile dig).length
theorem tw_len {l : List UInt8} {m : Nat} (hm : m <= l.length) (h : (l.take m).all dig = true) (hend : ∀ b,l[m]? = some b -> dig b = false) : twN l = m:=by
 unfold twN
 induction l generalizing m with
 | nil => simp at hm; subst hm; rfl
 | cons b l ih =>
  cases m with
  | zero =>
   have:=hend b rfl
   rw [List.takeWhile_cons,this]
   rfl
  | succ m =>
   rw [List.take_succ_cons,List.all_cons,Bool.and_eq_true] at h
   rw [List.takeWhile_cons,h.1,if_pos rfl,List.length_cons,ih (by simpa using hm) h.2 (fun b hb => hend b (by simpa using hb))]
theorem tw_le (l : List UInt8) : twN l <= l.length:=(List.takeWhile_prefix _).sublist.length_le
theorem tw_take (l : List UInt8) : l.takeWhile dig = l.take (twN l):=by
 have h:=List.takeWhile_append_dropWhile (p:=dig) (l:=l)
 have : l.take (twN l) = (l.takeWhile dig ++ l.dropWhile dig).take (twN l):=by rw [h]
 rw [this]
 exact (List.take_left' rfl).symm
theorem tw_drop (l : List UInt8) : l.dropWhile dig = l.drop (twN l):=by
 have h:=List.takeWhile_append_dropWhile (p:=dig) (l:=l)
 have : l.drop (twN l) = (l.takeWhile dig ++ l.dropWhile dig).drop (twN l):=by rw [h]
 rw [this]
 exact (List.drop_left' rfl).symm
theorem tw_all (l : List UInt8) : l.all dig = decide (twN l = l.length):=by
 rw [Bool.eq_iff_iff,decide_eq_true_eq]
 constructor
 ·intro h
  exact tw_len (Nat.le_refl _) (by rw [List.take_length]; exact h) (fun b hb => by rw [List.getElem?_eq_none (Nat.le_refl _)] at hb; cases hb)
 ·intro h
  have:=all_tw l
  rw [tw_take,h,List.take_length] at this
  exact this
def bAt (l : List UInt8) (k : Nat) : Nat:=(l.getD k 0).toNat
theorem drop_at {l : List UInt8} {k : Nat} (h : k < l.length) : ∃ c,l.drop k = c :: l.drop (k + 1) /\ c.toNat = bAt l k:=by
 refine ⟨l[k],List.drop_eq_getElem_cons h,?_⟩
 unfold bAt
 rw [List.getD_eq_getElem?_getD,List.getElem?_eq_getElem h]
 rfl
def off (l : List UInt8) : Nat:=if negL l then 1 else 0
theorem unsigned_off (l : List UInt8) : unsigned l = l.drop (off l):=by
 unfold unsigned off
 split <;> simp
theorem off_one {l : List UInt8} (h : 0 < l.length) (hb : bAt l 0 = 45) : off l = 1:=by
 obtain ⟨c,h1,h2⟩:=drop_at h
 rw [List.drop_zero] at h1
 unfold off
 rw [h1,show negL (c :: l.drop (0 + 1)) = true from decide_eq_true (by omega),if_pos rfl]
theorem off_zero {l : List UInt8} (h : 0 < l.length -> bAt l 0 ≠ 45) : off l = 0:=by
 unfold off
 cases l with
 | nil => rfl
 | cons c l =>
  have:=h (by simp)
  rw [show negL (c :: l) = false from decide_eq_false this]
  rfl
section
variable {l : List UInt8} {a0 n : Nat}
theorem head_at {u : List UInt8} (h : 0 < twN u) : (u.takeWhile dig).head? = some (u.getD 0 0):=by
 cases u with
 | nil => simp [twN] at h
 | cons b u =>
  unfold twN at h
  rw [List.takeWhile_cons] at h ⊢
  cases hb : dig b
  ·rw [hb] at h; simp at h
  ·simp
theorem first_at (hn : twN (l.drop a0) = n) (h0 : 0 < n) : ((l.drop a0).takeWhile dig).head? = some 48 ↔ bAt l a0 = 48:=by
 rw [head_at (by omega)]
 unfold bAt
 have : (l.drop a0).getD 0 0 = l.getD a0 0:=by simp [List.getD_eq_getElem?_getD]
 rw [this]
 constructor
 ·intro h; injection h with h; rw [h]; rfl
 ·intro h; congr 1; exact UInt8.toNat_inj.1 h
theorem parts_U (ha : off l = a0) : parts l = partsU (l.drop a0):=by unfold parts; rw [unsigned_off,ha]
theorem drop_n (hn : twN (l.drop a0) = n) : (l.drop a0).dropWhile dig = l.drop (a0 + n):=by rw [tw_drop,hn,List.drop_drop]
theorem take_n (hn : twN (l.drop a0) = n) : (l.drop a0).takeWhile dig = (l.drop a0).take n:=by rw [tw_take,hn]
theorem take_nil (hn : twN (l.drop a0) = n) : (l.drop a0).takeWhile dig = [] ↔ n = 0:=by
 rw [<- hn]; unfold twN; exact List.length_eq_zero_iff.symm
theorem ne_drop {k : Nat} (h : k < l.length) : l.drop k ≠ []:=by
 intro hc; have:=congrArg List.length hc; simp at this; omega
theorem e_bad0 (ha : off l = a0) (hn : twN (l.drop a0) = n) (h1 : a0 + n < l.length) (h2 : n = 0) : parts l = noParts:=by
 rw [parts_U ha]
 unfold partsU
 rw [drop_n hn,if_pos ⟨ne_drop h1,(take_nil hn).2 h2⟩]
theorem e_bad1 (ha : off l = a0) (hn : twN (l.drop a0) = n) (h1 : 1 < n) (hb : bAt l a0 = 48) : parts l = noParts:=by
 rw [parts_U ha]
 unfold partsU
 rw [if_neg (fun h => by have:=(take_nil hn).1 h.2; omega),if_pos ⟨by have : twN (l.drop a0) = ((l.drop a0).takeWhile dig).length:=rfl; omega,(first_at hn (by omega)).2 hb⟩]
theorem e_W (ha : off l = a0) (hn : twN (l.drop a0) = n) (h1 : a0 + n < l.length -> 0 < n) (h2 : ¬ (1 < n /\ bAt l a0 = 48)) : parts l = partsW ((l.drop a0).take n) (l.drop (a0 + n)):=by
 rw [parts_U ha]
 unfold partsU
 have hl : twN (l.drop a0) = ((l.drop a0).takeWhile dig).length:=rfl
 rw [if_neg (fun h => by
  have:=(take_nil hn).1 h.2
  have : a0 + n < l.length:=by
   rcases Nat.lt_or_ge (a0 + n) l.length with hh | hh
   ·exact hh
   ·exact absurd (by rw [drop_n hn]; exact List.drop_eq_nil_of_le hh) h.1
  have:=h1 this
  omega),if_neg (fun h => h2 ⟨by omega,(first_at hn (by omega)).1 h.2⟩),take_n hn,drop_n hn]
theorem e_end (ha : off l = a0) (hn : twN (l.drop a0) = n) (h1 : a0 + n = l.length) (h2 : ¬ (1 < n /\ bAt l a0 = 48)) : parts l = ⟨(l.drop a0).take n,[],[],true,decide (0 < n)⟩:=by
 rw [e_W ha hn (by omega) h2,h1,List.drop_length]
 unfold partsW
 have : decide ((l.drop a0).take n ≠ []) = decide (0 < n):=by
  rw [<- take_n hn]
  rw [decide_eq_decide,ne_eq,take_nil hn]
  omega
 rw [this]
def AtE (l : List UInt8) (K : Nat) (W F : List UInt8) : Prop:=parts l = partsX W F (l.drop K) /\ K < l.length
theorem e_pt {m K2 : Nat} (ha : off l = a0) (hn : twN (l.drop a0) = n) (h0 : 0 < n) (h2 : ¬ (1 < n /\ bAt l a0 = 48)) (h1 : a0 + n < l.length) (hb : bAt l (a0 + n) = 46) (hm : twN (l.drop (a0 + n + 1)) = m) (hK : K2 = a0 + n + 1 + m) :
 parts l = if K2 < l.length then (if m = 0 then noParts else partsX ((l.drop a0).take n) ((l.drop (a0 + n + 1)).take m) (l.drop K2)) else ⟨(l.drop a0).take n,(l.drop (a0 + n + 1)).take m,[],true,decide (0 < m)⟩:=by
 rw [e_W ha hn (fun _ => h0) h2]
 obtain ⟨c,hd,hc⟩:=drop_at h1
 rw [hd]
 simp only [partsW]
 rw [if_pos (by omega)]
 unfold partsF
 rw [drop_n hm,take_n hm,<- hK]
 have hnil : (l.drop (a0 + n + 1)).take m = [] ↔ m = 0:=by rw [<- take_n hm]; exact take_nil hm
 by_cases h : K2 < l.length
 ·rw [if_pos h,if_neg (ne_drop h)]
  by_cases hz : m = 0
  ·rw [if_pos hz,if_pos (hnil.2 hz)]
  ·rw [if_neg hz,if_neg (fun hc => hz (hnil.1 hc))]
 ·rw [if_neg h,if_pos (List.drop_eq_nil_of_le (by omega))]
  have : decide ((l.drop (a0 + n + 1)).take m ≠ []) = decide (0 < m):=by
   rw [decide_eq_decide,ne_eq,hnil]; omega
  rw [this]
theorem e_pt_end {m : Nat} (ha : off l = a0) (hn : twN (l.drop a0) = n) (h0 : 0 < n) (h2 : ¬ (1 < n /\ bAt l a0 = 48)) (h1 : a0 + n < l.length) (hb : bAt l (a0 + n) = 46) (hm : twN (l.drop (a0 + n + 1)) = m) (h : a0 + n + 1 + m = l.length) :
 parts l = ⟨(l.drop a0).take n,(l.drop (a0 + n + 1)).take m,[],true,decide (0 < m)⟩:=by
 rw [e_pt ha hn h0 h2 h1 hb hm rfl,if_neg (by omega)]
theorem e_pt_bad {m : Nat} (ha : off l = a0) (hn : twN (l.drop a0) = n) (h0 : 0 < n) (h2 : ¬ (1 < n /\ bAt l a0 = 48)) (h1 : a0 + n < l.length) (hb : bAt l (a0 + n) = 46) (hm : twN (l.drop (a0 + n + 1)) = m) (h : a0 + n + 1 + m < l.length) (hz : m = 0) :
 parts l = noParts:=by
 rw [e_pt ha hn h0 h2 h1 hb hm rfl,if_pos (by omega),if_pos hz]
theorem e_pt_go {m : Nat} (ha : off l = a0) (hn : twN (l.drop a0) = n) (h0 : 0 < n) (h2 : ¬ (1 < n /\ bAt l a0 = 48)) (h1 : a0 + n < l.length) (hb : bAt l (a0 + n) = 46) (hm : twN (l.drop (a0 + n + 1)) = m) (h : a0 + n + 1 + m < l.length) (hz : m ≠ 0) :
 AtE l (a0 + n + 1 + m) ((l.drop a0).take n) ((l.drop (a0 + n + 1)).take m):=by
 refine ⟨?_,h⟩
 rw [e_pt ha hn h0 h2 h1 hb hm rfl,if_pos (by omega),if_neg hz]
theorem e_np_go (ha : off l = a0) (hn : twN (l.drop a0) = n) (h0 : 0 < n) (h2 : ¬ (1 < n /\ bAt l a0 = 48)) (h1 : a0 + n < l.length) (hb : bAt l (a0 + n) ≠ 46) :
 AtE l (a0 + n) ((l.drop a0).take n) []:=by
 refine ⟨?_,h1⟩
 rw [e_W ha hn (fun _ => h0) h2]
 obtain ⟨c,hd,hc⟩:=drop_at h1
 rw [hd]
 simp only [partsW]
 rw [if_neg (by omega)]
theorem e_x_no {K : Nat} {W F : List UInt8} (h : AtE l K W F) (h1 : bAt l K ≠ 101) (h2 : bAt l K ≠ 69) : parts l = noParts:=by
 obtain ⟨h,hlt⟩:=h
 obtain ⟨c,hd,hc⟩:=drop_at hlt
 rw [h,hd]
 simp only [partsX]
 rw [if_neg (by rw [isE_iff]; omega)]
theorem sgn_at {k at' : Nat} (h : (at' = k + 1 /\ k < l.length /\ (bAt l k = 43 \/ bAt l k = 45)) \/ (at' = k /\ (l.length <= k \/ (bAt l k ≠ 43 /\ bAt l k ≠ 45)))) : sgn (l.drop k) = l.drop at':=by
 rcases Nat.lt_or_ge k l.length with hlt | hge
 ·obtain ⟨c,hd,hc⟩:=drop_at hlt
  rcases h with ⟨rfl,_,hb⟩ | ⟨rfl,hb⟩
  ·rw [hd]
   unfold sgn
   have : isPM c = true:=by rw [isPM_iff]; omega
   simp only [this,if_true]
  ·have : isPM c = false:=by
    cases hp : isPM c
    ·rfl
    ·rw [isPM_iff] at hp; omega
   rw [hd]
   unfold sgn
   simp only [this]
   rfl
 ·rcases h with ⟨_,hk,_⟩ | ⟨rfl,_⟩
  ·omega
  ·rw [List.drop_eq_nil_of_le hge]; rfl
theorem e_x {K at' q : Nat} {W F : List UInt8} (h : AtE l K W F) (h1 : bAt l K = 101 \/ bAt l K = 69) (hs : sgn (l.drop (K + 1)) = l.drop at') (hq : twN (l.drop at') = q) :
 parts l = if at' + q < l.length then noParts else ⟨W,F,l.drop (K + 1),true,decide (0 < q)⟩:=by
 obtain ⟨h,hlt⟩:=h
 obtain ⟨c,hd,hc⟩:=drop_at hlt
 rw [h,hd]
 simp only [partsX]
 rw [if_pos (by rw [isE_iff]; omega)]
 unfold partsE
 rw [hs,tw_all,hq]
 have hle:=tw_le (l.drop at')
 rw [hq,List.length_drop] at hle
 have e1 : (l.drop at').length = l.length - at':=List.length_drop ..
 by_cases hc : at' + q < l.length
 ·rw [if_pos hc,decide_eq_false (by omega)]
  rfl
 ·rw [if_neg hc,decide_eq_true (by omega),if_pos rfl]
  have : decide (l.drop at' ≠ []) = decide (0 < q):=by
   rw [decide_eq_decide,ne_eq,<- List.length_eq_zero_iff]
   omega
  rw [this]
theorem e_x_bad {K at' q : Nat} {W F : List UInt8} (h : AtE l K W F) (h1 : bAt l K = 101 \/ bAt l K = 69) (hs : sgn (l.drop (K + 1)) = l.drop at') (hq : twN (l.drop at') = q) (hc : at' + q < l.length) : parts l = noParts:=by
 rw [e_x h h1 hs hq,if_pos hc]
theorem e_x_ok {K at' q : Nat} {W F : List UInt8} (h : AtE l K W F) (h1 : bAt l K = 101 \/ bAt l K = 69) (hs : sgn (l.drop (K + 1)) = l.drop at') (hq : twN (l.drop at') = q) (hc : l.length <= at' + q) : parts l = ⟨W,F,l.drop (K + 1),true,decide (0 < q)⟩:=by
 rw [e_x h h1 hs hq,if_neg (by omega)]
end
open Go.RowKit
set_option maxHeartbeats 1000000 in
theorem run_any (s : ByteArray) (k : Nat) (i : Int) (hi : i = (k : Int)) (w : World) (hk : k <= s.size) (hs : s.size <= 140737488355328) :
 Calls Tryz.prog 188 #[.string s,.int .i64 i] w fun e w' => e = .returned (.int .i64 (twN (s.data.toList.drop k))) /\ w = w':=by
 subst hi
 go_enter Tryz.func188,Tryz.ntmps188
 go_wp2
 go_loop [5] (fun n => ∃ m : Nat,n = .int .i64 m /\ k + m <= s.size /\ Hid (((s.data.toList.drop k).take m).all dig = true)) (fun n => s.size - (k + (intOf n).toNat))
 case atStart => exact ⟨0,rfl,by omega,Lib.hid (by simp)⟩
 case round =>
  obtain ⟨m,rfl,hm,HD⟩:=hrel
  by_cases hlt : k + m < s.size
  ·have hidx : (s.data.toList.drop k)[m]? = some s[k + m]:=by
    rw [List.getElem?_drop,List.getElem?_eq_getElem (by simpa using hlt)]
    rfl
   cases hd : dig s[k + m]
   ·have hfin : twN (s.data.toList.drop k) = m:=tw_len (by simp; omega) HD.out (fun b hb => by rw [hidx] at hb; injection hb with hb; rw [<- hb]; exact hd)
    have HF:=Lib.hid hfin
    rw [dig_not] at hd
    have hcase : (s[k + m].toNat : Int) < 48 \/ (48 <= (s[k + m].toNat : Int) /\ 57 < (s[k + m].toNat : Int)):=by omega
    clear hidx hfin hd
    rcases hcase with h | ⟨h,h2⟩
    all_goals
     go_wp2
     go_ret
     exact ⟨ret_int (by rw [HF.out]),rfl⟩
   ·have hr:=dig_range hd
    have h1 : 48 <= (s[k + m].toNat : Int):=by omega
    have h2 : (s[k + m].toNat : Int) <= 57:=by omega
    have hnew : ((s.data.toList.drop k).take (m + 1)).all dig = true:=by
     rw [List.take_add_one,hidx]
     simp only [Option.toList_some,List.all_append,HD.out,List.all_cons,hd]
     rfl
    have HN:=Lib.hid hnew
    clear hidx hd hr hnew
    go_wp2
    go_round
    case rel => exact ⟨m + 1,by go_num,by omega,HN⟩
    case measure => simp [intOf]; omega
  ·have hfin : twN (s.data.toList.drop k) = m:=tw_len (by simp; omega) HD.out (fun b hb => by
    rw [List.getElem?_eq_none (by simp; omega)] at hb; cases hb)
   have HF:=Lib.hid hfin
   clear hfin
   go_wp2
   go_ret
   exact ⟨ret_int (by rw [HF.out]),rfl⟩
theorem results_tmp5 {fn : Func} {t u v x y : Tmp} (h : fn.results = #[.tmp t,.tmp u,.tmp v,.tmp x,.tmp y]) (tmps : Array Value) (P : Program) (w : World) :
 (results fn tmps).run P w = .ok (.tuple #[tmps.getD t undef,tmps.getD u undef,tmps.getD v undef,tmps.getD x undef,tmps.getD y undef]) w:=by
 simp [results,h]
def partsA (p : Parts) : Value:=.tuple #[.string ⟨p.whole.toArray⟩,.string ⟨p.part.toArray⟩,.string ⟨p.tail.toArray⟩,.bool p.begins,.bool p.is]
theorem fin5 {l : List UInt8} {W F T : List UInt8} {b i : Bool} (h : parts l = ⟨W,F,T,b,i⟩) {x y z : ByteArray} {u v : Bool} (hx : x.data.toList = W) (hy : y.data.toList = F) (hz : z.data.toList = T) (hu : u = b) (hv : v = i) :
 Ending.returned (.tuple #[.string x,.string y,.string z,.bool u,.bool v]) = .returned (partsA (parts l)):=by
 subst hx hy hz hu hv
 rw [h]
 unfold partsA
 simp
theorem fin_no {l : List UInt8} (h : parts l = noParts) :
 Ending.returned (.tuple #[.string ⟨#[]⟩,.string ⟨#[]⟩,.string ⟨#[]⟩,.bool false,.bool false]) = .returned (partsA (parts l)):=by
 rw [h]; rfl
theorem b_at (s : ByteArray) (k : Nat) (h : k < s.size) : bAt s.data.toList k = s[k].toNat:=by
 unfold bAt
 rw [List.getD_eq_getElem?_getD,List.getElem?_eq_getElem (by simpa using h)]
 rfl
theorem ext_take (s : ByteArray) (a n : Nat) : (s.extract a (a + n)).data.toList = (s.data.toList.drop a).take n:=by
 rw [Lib.extract_data]; simp
theorem ext_drop (s : ByteArray) (a : Nat) : (s.extract a s.size).data.toList = s.data.toList.drop a:=by
 rw [Lib.extract_data,List.take_of_length_le]
 simp
end Go.Proofs.YtbnppjmmlfncmaaGreatDoor.Nm

/-
  names: Cut and Join of the program.
  names: Cut and Join of the program, whole.
  names: Join of the program.
  The reference's Local (hexaplaref04): the same answer.
  The reference's Space (hexaplaref04): the same answer.
  carry: a key as a word, the program's and the reference's.
-/
import Derived.Test.YtbnppjmmlfncmaaGreatDoorIsA09
import Derived.Test.YtbnppjmmlfncmaaGreatDoorIsA07
import Derived.Lib.IndexAny
set_option maxRecDepth 100000
namespace Go.Proofs.YtbnppjmmlfncmaaGreatDoor
open Go.RowKit Go.Maps
def cutAt (l : List UInt8) : List UInt8 × List UInt8 × Bool :=
 match l.dropWhile noEnd with
 | [] => (l,[],false)
 | _ :: b => (l.takeWhile noEnd,b,true)
theorem noEnd_iff (c : UInt8) : noEnd c = !(c == 125):=by
 unfold noEnd
 rw [Bool.eq_iff_iff]
 simp
 constructor
 ·intro h hc; subst hc; exact h rfl
 ·intro h hc; exact h (UInt8.toNat_inj.1 (by rw [show (125 : UInt8).toNat = 125 from rfl]; omega))
theorem index_none {l : List UInt8} (h : l.dropWhile noEnd = []) : Lib.indexByte l 125 = -1:=by
 induction l with
 | nil => rfl
 | cons c t ih =>
  rw [List.dropWhile_cons] at h
  split at h
  ·rename_i hc
   have hc' : (c == 125) = false:=by rw [noEnd_iff] at hc; simpa using hc
   simp only [Lib.indexByte,hc',ih h]
   rfl
  ·cases h
theorem index_some {l b : List UInt8} {c : UInt8} (h : l.dropWhile noEnd = c :: b) : Lib.indexByte l 125 = ((l.takeWhile noEnd).length : Int):=by
 induction l with
 | nil => cases h
 | cons d t ih =>
  rw [List.dropWhile_cons] at h
  rw [List.takeWhile_cons]
  split at h
  ·rename_i hc
   have hc' : (d == 125) = false:=by rw [noEnd_iff] at hc; simpa using hc
   have e:=ih h
   simp only [Lib.indexByte,hc',e]
   rw [if_neg (by simp),if_neg (by simp),if_pos hc]
   simp
  ·rename_i hc
   have hc' : (d == 125) = true:=by rw [noEnd_iff] at hc; simpa using hc
   simp only [Lib.indexByte,hc']
   rw [if_pos trivial,if_neg hc]
   rfl
theorem parts_len {l b : List UInt8} {c : UInt8} (h : l.dropWhile noEnd = c :: b) : (l.takeWhile noEnd).length + 1 + b.length = l.length:=by
 have:=congrArg List.length (List.takeWhile_append_dropWhile (p:=noEnd) (l:=l))
 rw [h,List.length_append,List.length_cons] at this
 omega
theorem parts_eq {l b : List UInt8} {c : UInt8} (h : l.dropWhile noEnd = c :: b) : l = l.takeWhile noEnd ++ c :: b:=by rw [<- h]; exact List.takeWhile_append_dropWhile.symm
theorem parts_take {l b : List UInt8} {c : UInt8} (h : l.dropWhile noEnd = c :: b) : l.take (l.takeWhile noEnd).length = l.takeWhile noEnd:=by
 have e:=parts_eq h
 generalize l.takeWhile noEnd = a at *
 subst e
 simp
theorem parts_drop {l b : List UInt8} {c : UInt8} (h : l.dropWhile noEnd = c :: b) : l.drop ((l.takeWhile noEnd).length + 1) = b:=by
 have e:=parts_eq h
 generalize l.takeWhile noEnd = a at *
 subst e
 rw [List.drop_append]
 simp
theorem index_any (s : ByteArray) (w : World) :
 Calls Tryz.prog 107 #[.string s,.string ⟨#[125]⟩] w fun e w' => e = .returned (.int .i64 (Lib.indexByte s.data.toList 125)) /\ w = w':=by
 cases hE : ([125] == s.toList)
 ·have hE2 : ¬ ([125] = s.toList):=by simpa using hE
  go_enter Tryz.func107,Tryz.ntmps107
  go_wp2_with (go_at_call 142; refine (Tryz.stringslite_IndexByte s _ _).mono ?_; rintro e w' ⟨rfl,rfl⟩)
  go_ret
  exact ⟨rfl,rfl⟩
 ·have hE2 : [125] = s.toList:=by simpa using hE
  have hI:=Lib.hid (show Lib.indexByte s.data.toList 125 = 0 by rw [<- Lib.toList_data,<- hE2]; rfl)
  clear hE2
  go_enter Tryz.func107,Tryz.ntmps107
  go_wp2_with (go_at_call 142; refine (Tryz.stringslite_IndexByte s _ _).mono ?_; rintro e w' ⟨rfl,rfl⟩)
  go_ret
  exact ⟨ret_int hI.out.symm,rfl⟩
def CutAtEnd (l : List UInt8) : Ending:=.returned (.tuple #[.string ⟨(cutAt l).1.toArray⟩,.string ⟨(cutAt l).2.1.toArray⟩,.bool (cutAt l).2.2])
theorem str_of (s : ByteArray) : (⟨s.data.toList.toArray⟩ : ByteArray) = s:=rfl
set_option maxHeartbeats 400000 in
theorem lcut_any (s : ByteArray) (w : World) (hm : s.size <= 140737488355328) :
 Calls Tryz.prog 164 #[.string s,.string ⟨#[125]⟩] w fun e w' => e = CutAtEnd s.data.toList /\ ∃ n,w' = w.drewN n:=by
 have hl : s.data.toList.length = s.size:=by simp
 cases hd : s.data.toList.dropWhile noEnd with
 | nil =>
  have hi:=Lib.hid (index_none hd)
  have hE : CutAtEnd s.data.toList = .returned (.tuple #[.string s,.string ⟨#[]⟩,.bool false]):=by
   unfold CutAtEnd cutAt
   rw [hd]
  rw [hE]
  clear hE hd hl
  go_enter Tryz.func164,Tryz.ntmps164
  go_wp2_with (go_at_call 107; refine (index_any s _).mono ?_; rintro e w' ⟨rfl,rfl⟩; rw [hi.out])
  go_ret3
  exact ⟨rfl,0,rfl⟩
 | cons c b =>
  have hi:=Lib.hid (index_some hd)
  have hlen:=parts_len hd
  have hE : CutAtEnd s.data.toList = .returned (.tuple #[.string (s.extract 0 (s.data.toList.takeWhile noEnd).length),.string (s.extract ((s.data.toList.takeWhile noEnd).length + 1) s.size),.bool true]):=by
   have p1 : s.extract 0 (s.data.toList.takeWhile noEnd).length = ⟨(s.data.toList.takeWhile noEnd).toArray⟩:=by
    apply ByteArray.ext
    apply Array.toList_inj.1
    rw [show (s.extract 0 (s.data.toList.takeWhile noEnd).length).data.toList = s.data.toList.take (s.data.toList.takeWhile noEnd).length from by simp,parts_take hd]
   have p2 : s.extract ((s.data.toList.takeWhile noEnd).length + 1) s.size = ⟨b.toArray⟩:=by
    apply ByteArray.ext
    apply Array.toList_inj.1
    rw [show (s.extract ((s.data.toList.takeWhile noEnd).length + 1) s.size).data.toList = s.data.toList.drop ((s.data.toList.takeWhile noEnd).length + 1) from extract_all _ _,parts_drop hd]
   rw [p1,p2]
   unfold CutAtEnd cutAt
   rw [hd]
  rw [hE]
  clear hE
  generalize (s.data.toList.takeWhile noEnd).length = i at *
  have c1 : (0 : Int) <= ↑i:=by omega
  have c2 : (↑i : Int) <= ↑s.size:=by omega
  have c3 : (0 : Int) <= ↑i + 1:=by omega
  have c4 : (↑i + 1 : Int) <= ↑s.size:=by omega
  clear hd hl hlen
  go_enter Tryz.func164,Tryz.ntmps164
  go_wp2_with (go_at_call 107; refine (index_any s _).mono ?_; rintro e w' ⟨rfl,rfl⟩; rw [hi.out])
  go_region
  go_wp2
  go_ret3
  exact ⟨rfl,1,rfl⟩
theorem scut_any (s : ByteArray) (w : World) (hm : s.size <= 140737488355328) :
 Calls Tryz.prog 147 #[.string s,.string ⟨#[125]⟩] w fun e w' => e = CutAtEnd s.data.toList /\ ∃ n,w' = w.drewN n:=by
 unfold CutAtEnd
 go_enter Tryz.func147,Tryz.ntmps147
 go_wp2_with (go_at_call 164; refine (lcut_any s _ hm).mono ?_; unfold CutAtEnd; rintro e w' ⟨rfl,n,rfl⟩)
 go_ret3
 exact ⟨rfl,n,rfl⟩
def CutEnd (l : List UInt8) : Ending :=
 match cutL l with
 | none => .returned (.tuple #[.string ⟨#[]⟩,.string ⟨#[]⟩,.bool false])
 | some p => .returned (.tuple #[.string ⟨p.1.toArray⟩,.string ⟨p.2.toArray⟩,.bool true])
theorem cutEnd_none {l : List UInt8} (h : cutL l = none) : CutEnd l = .returned (.tuple #[.string ⟨#[]⟩,.string ⟨#[]⟩,.bool false]):=by unfold CutEnd; rw [h]
theorem cutEnd_some {l a b : List UInt8} (h : cutL l = some (a,b)) : CutEnd l = .returned (.tuple #[.string ⟨a.toArray⟩,.string ⟨b.toArray⟩,.bool true]):=by unfold CutEnd; rw [h]
theorem cutL_long {l : List UInt8} (h : 48 < l.length) : cutL l = none:=by
 cases l with
 | nil => rfl
 | cons c t => simp only [cutL]; rw [if_pos (by simpa using h)]
theorem cutL_plain {l : List UInt8} (h : ¬ 48 < l.length) (hp : Lib.hasPrefix l [123] = false) : cutL l = if localL l = true then some ([],l) else none:=by
 cases l with
 | nil => rfl
 | cons c t =>
  simp only [cutL]
  have hc : (c.toNat : Int) ≠ 123:=by
   intro hc
   have : c = 123:=UInt8.toNat_inj.1 (by rw [show (123 : UInt8).toNat = 123 from rfl]; omega)
   subst this
   cases hp
  rw [if_neg (by simpa using h),if_neg hc]
theorem prefix_cons {l : List UInt8} (hp : Lib.hasPrefix l [123] = true) : ∃ t,l = 123 :: t:=by
 cases l with
 | nil => cases hp
 | cons c t =>
  refine ⟨t,?_⟩
  simp [Lib.hasPrefix,List.isPrefixOf] at hp
  rw [<- hp]
theorem cutL_brace {t : List UInt8} (h : ¬ 48 < t.length + 1) : cutL (123 :: t) = if spaceL (cutAt t).1 = true /\ localL (cutAt t).2.1 = true then some ((cutAt t).1,(cutAt t).2.1) else none:=by
 cases hd : t.dropWhile noEnd with
 | nil =>
  have e : cutAt t = (t,[],false):=by unfold cutAt; rw [hd]
  rw [e]
  simp only [cutL]
  rw [if_neg h,if_pos (by rfl),hd]
  simp [localL]
 | cons c b =>
  have e : cutAt t = (t.takeWhile noEnd,b,true):=by unfold cutAt; rw [hd]
  rw [e]
  simp only [cutL]
  rw [if_neg h,if_pos (by rfl),hd]
theorem cutAt_len (t : List UInt8) : (cutAt t).1.length <= t.length /\ (cutAt t).2.1.length <= t.length:=by
 unfold cutAt
 cases hd : t.dropWhile noEnd with
 | nil => simp
 | cons c b => have:=parts_len hd; simp only; omega
set_option maxHeartbeats 1000000 in
theorem cut_any (s : ByteArray) (w : World) (hm : s.size <= 140737488355328) :
 Calls Tryz.prog 111 #[.string s] w fun e w' => e = CutEnd s.data.toList /\ Below w.heap.size w w':=by
 have hl : s.data.toList.length = s.size:=by simp
 by_cases h48 : 48 < s.size
 ·rw [cutEnd_none (cutL_long (by omega))]
  clear hl
  go_enter Tryz.func111,Tryz.ntmps111
  go_wp2
  go_ret3
  exact ⟨rfl,Below.refl _ _⟩
 rcases Bool.eq_false_or_eq_true (Lib.hasPrefix s.data.toList [123]) with hp | hp
 ·-- it begins with a brace
  obtain ⟨t,ht⟩:=prefix_cons hp
  have hE : CutEnd s.data.toList = CutEnd (123 :: t):=by rw [ht]
  rw [hE]
  have hcl:=cutAt_len t
  have hb:=cutL_brace (t:=t) (by rw [ht] at hl; simp at hl; omega)
  have HP:=Lib.hid hp
  have HT:=Lib.hid (show Lib.trimPrefix s.data.toList [123] = t by rw [ht]; simp [Lib.trimPrefix,Lib.hasPrefix,List.isPrefixOf])
  have htl : t.length <= 48:=by rw [ht] at hl; simp at hl; omega
  clear hE ht hp hl
  have HA:=Lib.hid (show CutAtEnd t = .returned (.tuple #[.string ⟨(cutAt t).1.toArray⟩,.string ⟨(cutAt t).2.1.toArray⟩,.bool (cutAt t).2.2]) from rfl)
  generalize (cutAt t).1 = A at *
  generalize (cutAt t).2.1 = B at *
  generalize (cutAt t).2.2 = F at *
  obtain ⟨hA,hB⟩:=hcl
  have HL : Hid ((⟨t.toArray⟩ : ByteArray).data.toList = t):=Lib.hid rfl
  have hsA : (⟨A.toArray⟩ : ByteArray).size <= 48:=by show A.toArray.size <= 48; simp; omega
  have hsB : (⟨B.toArray⟩ : ByteArray).size <= 48:=by show B.toArray.size <= 48; simp; omega
  have hsT : (⟨t.toArray⟩ : ByteArray).size <= 48:=by show t.toArray.size <= 48; simp; omega
  generalize hsa : (⟨A.toArray⟩ : ByteArray) = sa at *
  generalize hsb : (⟨B.toArray⟩ : ByteArray) = sb at *
  generalize hst : (⟨t.toArray⟩ : ByteArray) = st at *
  have ea : sa.data.toList = A:=by rw [<- hsa]
  have eb : sb.data.toList = B:=by rw [<- hsb]
  have HST:=Lib.hid hst
  have hbel:=Below.refl w.heap.size w
  rcases Bool.eq_false_or_eq_true (spaceL A) with hs | hs
  ·have HS:=Lib.hid (show spaceL sa.data.toList = true by rw [ea,hs])
   rcases Bool.eq_false_or_eq_true (localL B) with hf | hf
   ·rw [if_pos ⟨hs,hf⟩] at hb
    rw [cutEnd_some hb,hsa,hsb]
    have HF:=Lib.hid (show localL sb.data.toList = true by rw [eb,hf])
    clear hs hf hb ea eb hsa hsb hst
    go_enter Tryz.func111,Tryz.ntmps111
    go_wp2_with (first
     | (go_at_call 146; refine (Tryz.strings_CutPrefix s _ _).mono ?_; rintro e w' ⟨rfl,rfl⟩; rw [show (⟨#[123]⟩ : ByteArray).data.toList = [123] from rfl,HP.out,HT.out,HST.out])
     | (go_at_call 147; refine (scut_any _ _ (by omega)).mono ?_; rw [HL.out,HA.out]; rintro e w' ⟨rfl,n,rfl⟩; replace hbel:=below_drewN hbel n)
     | (go_at_call 148; refine (space_any _ _ (by omega)).mono ?_; rintro e w' ⟨rfl,hb1⟩; rw [HS.out]; replace hbel:=hbel.trans (hb1.mono hbel.size); clear hb1)
     | (go_at_call 39; refine (local_any _ _ (by omega)).mono ?_; rintro e w' ⟨rfl,rfl⟩; rw [HF.out])
     | (go_at_call 41; refine (clone_any _ _ (by omega)).mono ?_; rintro e w' ⟨rfl,hb1⟩; replace hbel:=hbel.trans (hb1.mono hbel.size); clear hb1))
    go_ret3
    exact ⟨rfl,hbel⟩
   ·rw [if_neg (by rw [hf]; simp)] at hb
    rw [cutEnd_none hb]
    have HF:=Lib.hid (show localL sb.data.toList = false by rw [eb,hf])
    clear hs hf hb ea eb hsa hsb hst
    go_enter Tryz.func111,Tryz.ntmps111
    go_wp2_with (first
     | (go_at_call 146; refine (Tryz.strings_CutPrefix s _ _).mono ?_; rintro e w' ⟨rfl,rfl⟩; rw [show (⟨#[123]⟩ : ByteArray).data.toList = [123] from rfl,HP.out,HT.out,HST.out])
     | (go_at_call 147; refine (scut_any _ _ (by omega)).mono ?_; rw [HL.out,HA.out]; rintro e w' ⟨rfl,n,rfl⟩; replace hbel:=below_drewN hbel n)
     | (go_at_call 148; refine (space_any _ _ (by omega)).mono ?_; rintro e w' ⟨rfl,hb1⟩; rw [HS.out]; replace hbel:=hbel.trans (hb1.mono hbel.size); clear hb1)
     | (go_at_call 39; refine (local_any _ _ (by omega)).mono ?_; rintro e w' ⟨rfl,rfl⟩; rw [HF.out])
     | (go_at_call 41; refine (clone_any _ _ (by omega)).mono ?_; rintro e w' ⟨rfl,hb1⟩; replace hbel:=hbel.trans (hb1.mono hbel.size); clear hb1))
    go_ret3
    exact ⟨rfl,hbel⟩
  ·have HS:=Lib.hid (show spaceL sa.data.toList = false by rw [ea,hs])
   rw [if_neg (by rw [hs]; simp)] at hb
   rw [cutEnd_none hb]
   have HF : True:=trivial
   clear hs hb ea eb hsa hsb hst
   go_enter Tryz.func111,Tryz.ntmps111
   go_wp2_with (first
    | (go_at_call 146; refine (Tryz.strings_CutPrefix s _ _).mono ?_; rintro e w' ⟨rfl,rfl⟩; rw [show (⟨#[123]⟩ : ByteArray).data.toList = [123] from rfl,HP.out,HT.out,HST.out])
    | (go_at_call 147; refine (scut_any _ _ (by omega)).mono ?_; rw [HL.out,HA.out]; rintro e w' ⟨rfl,n,rfl⟩; replace hbel:=below_drewN hbel n)
    | (go_at_call 148; refine (space_any _ _ (by omega)).mono ?_; rintro e w' ⟨rfl,hb1⟩; rw [HS.out]; replace hbel:=hbel.trans (hb1.mono hbel.size); clear hb1))
   go_ret3
   exact ⟨rfl,hbel⟩
 ·have hb:=cutL_plain (l:=s.data.toList) (by omega) hp
  have HP:=Lib.hid hp
  have HT:=Lib.hid (show Lib.trimPrefix s.data.toList [123] = s.data.toList by simp [Lib.trimPrefix,hp])
  have hbel:=Below.refl w.heap.size w
  rcases Bool.eq_false_or_eq_true (localL s.data.toList) with hf | hf
  case' inl => rw [hf,if_pos rfl] at hb
  case' inl => rw [cutEnd_some hb]
  case' inr => rw [hf,if_neg (by simp)] at hb
  case' inr => rw [cutEnd_none hb]
  all_goals have HF:=Lib.hid hf
  all_goals clear hf hb hp hl
  all_goals
   go_enter Tryz.func111,Tryz.ntmps111
   go_wp2_with (first
    | (go_at_call 146; refine (Tryz.strings_CutPrefix s _ _).mono ?_; rintro e w' ⟨rfl,rfl⟩; rw [show (⟨#[123]⟩ : ByteArray).data.toList = [123] from rfl,HP.out,HT.out,str_of])
    | (go_at_call 39; refine (local_any s _ hm).mono ?_; rintro e w' ⟨rfl,rfl⟩; rw [HF.out])
    | (go_at_call 41; refine (clone_any _ _ (by first | omega | (show (0 : Nat) <= _; omega))).mono ?_; rintro e w' ⟨rfl,hb1⟩; replace hbel:=hbel.trans (hb1.mono hbel.size); clear hb1))
   go_ret3
   exact ⟨rfl,hbel⟩
def locAt (l : List UInt8) (k : Nat) : Prop:=(l.take k).all (fun d => laterB (d.toNat : Int)) = true /\ (0 < k -> ∀ c t,l = c :: t -> firstB (c.toNat : Int) = true)
theorem loc_head {s : ByteArray} (h : 0 < s.size) {k : Nat} (hk : 0 < k) (hl : locAt s.data.toList k) : firstB (s[0].toNat : Int) = true:=hl.2 hk _ _ (bytes_cons s h)
theorem loc_end {s : ByteArray} (h0 : 0 < s.size) (h16 : s.size <= 16) (hl : locAt s.data.toList s.size) : localL s.data.toList = true:=by
 have h1:=hl.1
 rw [List.take_of_length_le (by simp)] at h1
 rw [local_eq s h0 h16,loc_head h0 h0 hl,h1]
 rfl
theorem loc_step {s : ByteArray} {k : Nat} (h0 : 0 < s.size) (hlt : k < s.size) (hl : locAt s.data.toList k) (hb : laterB (s[k].toNat : Int) = true) (hz : k = 0 -> firstB (s[0].toNat : Int) = true) : locAt s.data.toList (k + 1):=by
 refine ⟨(all_snoc hlt hl.1).trans hb,fun _ c t hct => ?_⟩
 have e:=bytes_cons s h0
 rw [hct] at e
 injection e with e1 _
 rw [e1]
 by_cases hk : k = 0
 ·exact hz hk
 ·exact loc_head h0 (by omega) hl
theorem loc_bad {s : ByteArray} {k : Nat} (h0 : 0 < s.size) (h16 : s.size <= 16) (hlt : k < s.size) (hb : laterB (s[k].toNat : Int) = false) : localL s.data.toList = false:=by
 rw [local_eq s h0 h16,all_break (p:=fun d => laterB (d.toNat : Int)) hlt hb,Bool.and_false]
theorem loc_bad0 {s : ByteArray} (h0 : 0 < s.size) (h16 : s.size <= 16) (hb : firstB (s[0].toNat : Int) = false) : localL s.data.toList = false:=by
 rw [local_eq s h0 h16,hb,Bool.false_and]
set_option maxHeartbeats 2000000 in
theorem rlocal_any (s : ByteArray) (w : World) (hm : s.size <= 140737488355328) :
 Calls Tryz.prog 157 #[.string s] w fun e w' => e = .returned (.bool (localL s.data.toList)) /\ w = w':=by
 by_cases h0 : s.size = 0
 ·rw [local_long s (.inl h0)]
  have hs : s = ⟨#[]⟩:=ByteArray.ext (Array.eq_empty_of_size_eq_zero h0)
  subst hs
  go_enter Tryz.func157,Tryz.ntmps157
  go_wp2
  go_ret
  exact ⟨rfl,rfl⟩
 by_cases h16 : 16 < s.size
 ·rw [local_long s (.inr h16)]
  go_enter Tryz.func157,Tryz.ntmps157
  go_wp2
  go_ret
  exact ⟨rfl,rfl⟩
 have hp : 0 < s.size:=by omega
 have h16' : s.size <= 16:=by omega
 go_enter Tryz.func157,Tryz.ntmps157
 go_wp2
 go_loop [3] (fun i => ∃ k : Nat,k <= s.size /\ i = .int .i64 k /\ Hid (locAt s.data.toList k)) (fun i => s.size - (intOf i).toNat)
 case atStart => exact ⟨0,Nat.zero_le _,rfl,Lib.hid ⟨rfl,fun h => absurd h (by decide)⟩⟩
 case round =>
  obtain ⟨k,hk,rfl,HK⟩:=hrel
  by_cases hlt : k < s.size
  ·have HB:=fun h => Lib.hid (loc_bad hp h16' hlt h)
   have HB0:=fun h => Lib.hid (loc_bad0 hp h16' h)
   have HS:=fun h1 h2 => Lib.hid (loc_step hp hlt HK.out h1 h2)
   clear HK
   go_wp2
   all_goals clear hm h0 h16 h16' hk
   all_goals first
    | (go_ret; refine ⟨ret_bool (Eq.symm ?_),rfl⟩)
    | (go_round
       case rel =>
        refine ⟨k + 1,by omega,by go_num,HS ?_ ?_⟩
        ·clear HB HB0 HS
         simp only [laterB]
         rw [decide_eq_true_iff]
         simp at *
         try omega
        ·rintro rfl
         clear HB HB0 HS
         simp only [firstB]
         rw [decide_eq_true_iff]
         simp at *
         try omega
       case measure => simp [intOf]; omega)
   all_goals
    rcases Bool.eq_false_or_eq_true (laterB (s[k].toNat : Int)) with hL | hL
    ·have hk0 : k = 0:=by
      rcases Nat.eq_zero_or_pos k with h | h
      ·exact h
      ·exfalso
       clear HB HB0 HS
       unfold laterB at hL
       simp [h] at *
       try omega
     subst hk0
     refine (HB0 ?_).out
     clear HB HB0 HS hL
     simp only [firstB]
     rw [decide_eq_false_iff_not]
     simp at *
     try omega
    ·exact (HB hL).out
  ·have hkn : k = s.size:=by omega
   subst hkn
   have HE:=Lib.hid (loc_end hp h16' HK.out)
   go_wp2
   go_ret
   rw [HE.out]
   exact ⟨rfl,rfl⟩
theorem badB_false {b : Int} (h : 33 <= b) (h1 : b ≠ 123) (h2 : b ≠ 125) (h3 : b ≠ 34) (h4 : b ≠ 60) (h5 : b ≠ 62) (h6 : b ≠ 38) (h7 : b ≠ 92) : badB b = false:=by
 unfold badB
 rw [decide_eq_false_iff_not]
 omega
set_option maxHeartbeats 1000000 in
theorem rspace_any (s : ByteArray) (w : World) (hm : s.size <= 1099511627776) :
 Calls Tryz.prog 171 #[.string s] w fun e w' => e = .returned (.bool (spaceL s.data.toList)) /\ Below w.heap.size w w':=by
 have hl : s.data.toList.length = s.size:=by simp
 rcases Bool.eq_false_or_eq_true (runesL s.data.toList).isSome with hv | hv
 case inr =>
  rw [show spaceL s.data.toList = false by unfold spaceL; rw [hv]; rfl]
  have HV:=Lib.hid hv
  clear hv hl
  go_enter Tryz.func171,Tryz.ntmps171
  go_wp2_with (first
   | (go_at_call 57; refine (valid_any s _ hm).mono ?_; rintro e w1 ⟨rfl,hb1⟩; rw [HV.out]))
  go_ret
  exact ⟨rfl,hb1⟩
 case inl =>
  have HV:=Lib.hid hv
  by_cases h0 : s.size = 0 \/ 48 < s.size
  ·rw [space_long s h0]
   clear hv hl
   rcases h0 with h0 | h0
   ·have hs : s = ⟨#[]⟩:=ByteArray.ext (Array.eq_empty_of_size_eq_zero h0)
    subst hs
    clear h0
    go_enter Tryz.func171,Tryz.ntmps171
    go_wp2_with (first
     | (go_at_call 57; refine (valid_any _ _ hm).mono ?_; rintro e w1 ⟨rfl,hb1⟩; rw [HV.out]))
    go_ret
    exact ⟨rfl,hb1⟩
   ·go_enter Tryz.func171,Tryz.ntmps171
    go_wp2_with (first
     | (go_at_call 57; refine (valid_any s _ hm).mono ?_; rintro e w1 ⟨rfl,hb1⟩; rw [HV.out]))
    go_ret
    exact ⟨rfl,hb1⟩
  have h1 : 1 <= s.size:=by omega
  have h48 : s.size <= 48:=by omega
  have hR:=space_eq s (by omega) (by omega)
  rw [hv,Bool.true_and] at hR
  generalize hgl : spaceL s.data.toList = R at *
  have HR:=Lib.hid hR
  clear hR hgl h0 hv hl
  go_enter Tryz.func171,Tryz.ntmps171
  go_wp2_with (first
   | (go_at_call 57; refine (valid_any s _ hm).mono ?_; rintro e w1 ⟨rfl,hb1⟩; rw [HV.out]))
  go_loop [4] (fun i => ∃ k : Nat,k <= s.size /\ i = .int .i64 k /\ Hid ((s.data.toList.take k).all (fun d => !badB (d.toNat : Int)) = true)) (fun i => s.size - (intOf i).toNat)
  case atStart => exact ⟨0,Nat.zero_le _,rfl,Lib.hid rfl⟩
  case round =>
   obtain ⟨k,hk,rfl,HK⟩:=hrel
   by_cases hlt : k < s.size
   ·have HX:=fun hb => Lib.hid (all_break (p:=fun d => !badB (d.toNat : Int)) hlt hb)
    have HY:=Lib.hid (all_snoc (p:=fun d => !badB (d.toNat : Int)) hlt HK.out)
    clear HK
    go_wp2
    all_goals first
     | (go_ret
        refine ⟨ret_bool ?_,hb1⟩
        rw [HR.out,(HX ?_).out]
        clear HX HY HR HV
        simp [badB] at *
        try omega)
     | (go_round
        case rel =>
         refine ⟨k + 1,by omega,by go_num,Lib.hid (HY.out.trans ?_)⟩
         clear HX HY HR HV
         rw [badB_false]
         all_goals (simp at *; try omega)
        case measure => simp [intOf]; omega)
   ·go_wp2
    go_ret
    refine ⟨ret_bool ?_,hb1⟩
    have hK:=HK.out
    rw [List.take_of_length_le (by simp; omega)] at hK
    rw [HR.out,hK]
theorem dotidx_any (s : ByteArray) (w : World) :
 Calls Tryz.prog 107 #[.string s,.string ⟨#[46]⟩] w fun e w' => e = .returned (.int .i64 (Lib.indexByte s.data.toList 46)) /\ w = w':=by
 cases hE : ([46] == s.toList)
 ·have hE2 : ¬ ([46] = s.toList):=by simpa using hE
  go_enter Tryz.func107,Tryz.ntmps107
  go_wp2_with (go_at_call 142; refine (Tryz.stringslite_IndexByte s _ _).mono ?_; rintro e w' ⟨rfl,rfl⟩)
  go_ret
  exact ⟨rfl,rfl⟩
 ·have hE2 : [46] = s.toList:=by simpa using hE
  have hI:=Lib.hid (show Lib.indexByte s.data.toList 46 = 0 by rw [<- Lib.toList_data,<- hE2]; rfl)
  clear hE2
  go_enter Tryz.func107,Tryz.ntmps107
  go_wp2_with (go_at_call 142; refine (Tryz.stringslite_IndexByte s _ _).mono ?_; rintro e w' ⟨rfl,rfl⟩)
  go_ret
  exact ⟨ret_int hI.out.symm,rfl⟩
theorem dots_any (s : ByteArray) (w : World) :
 Calls Tryz.prog 40 #[.string s,.string ⟨#[46]⟩] w fun e w' => e = .returned (.bool (decide ((46 : UInt8) ∈ s.data.toList))) /\ w = w':=by
 have hI : decide ((46 : UInt8) ∈ s.data.toList) = decide (0 <= Lib.indexByte s.data.toList 46):=by
  rw [<- Lib.contains_iff_indexByte]; simp
 rw [hI]
 have hX : Calls Tryz.prog 70 #[.string s,.string ⟨#[46]⟩] w fun e w' => e = .returned (.int .i64 (Lib.indexByte s.data.toList 46)) /\ w = w':=by
  go_enter Tryz.func70,Tryz.ntmps70
  go_wp2_with (go_at_call 107; refine (dotidx_any s _).mono ?_; rintro e w' ⟨rfl,rfl⟩)
  go_ret
  exact ⟨rfl,rfl⟩
 generalize Lib.indexByte s.data.toList 46 = r at *
 clear hI
 go_enter Tryz.func40,Tryz.ntmps40
 go_wp2_with (go_at_call 70; refine hX.mono ?_; rintro e w' ⟨rfl,rfl⟩)
 go_ret
 exact ⟨rfl,rfl⟩
def WordEnd (L : List UInt8) : Ending:=.returned (.tuple #[.string ⟨(wordL L).toArray⟩,.int .i64 (if localL L = true /\ (46 : UInt8) ∉ L then 0 else Qt.prErr L)])
theorem word_loc {L : List UInt8} (h1 : localL L = true) (h2 : (46 : UInt8) ∉ L) : wordL L = L:=by unfold wordL; rw [if_pos ⟨h1,h2⟩]
theorem word_quo {L : List UInt8} (h : ¬ (localL L = true /\ (46 : UInt8) ∉ L)) : wordL L = Qt.prText L:=by unfold wordL; rw [if_neg h]
theorem word_any (s : ByteArray) (w : World) (hm : s.size <= 140737488355328) :
 Calls Tryz.prog 25 #[.string s] w fun e w' => e = WordEnd s.data.toList /\ Below w.heap.size w w':=by
 have hL:=local_any s w hm
 have hP:=fun w' => Qt.print_any s w' hm
 unfold WordEnd
 cases h1 : localL s.data.toList with
 | false =>
  rw [h1] at hL
  rw [word_quo (by rw [h1]; simp),if_neg (by simp)]
  clear h1
  unfold Qt.PrintEnd at hP
  go_enter Tryz.func25,Tryz.ntmps25
  go_wp2_with (first
   | (go_at_call 39; refine hL.mono ?_; rintro e w' ⟨rfl,rfl⟩)
   | (go_at_call 42; refine (hP _).mono ?_; rintro e w' ⟨rfl,hb⟩))
  go_ret2
  exact ⟨rfl,hb⟩
 | true =>
  rw [h1] at hL
  have hD:=dots_any s
  by_cases h2 : (46 : UInt8) ∈ s.data.toList
  ·rw [word_quo (by simp [h2]),if_neg (by simp [h2])]
   rw [decide_eq_true h2] at hD
   clear h1 h2
   unfold Qt.PrintEnd at hP
   go_enter Tryz.func25,Tryz.ntmps25
   go_wp2_with (first
    | (go_at_call 39; refine hL.mono ?_; rintro e w' ⟨rfl,rfl⟩)
    | (go_at_call 40; refine (hD _).mono ?_; rintro e w' ⟨rfl,rfl⟩)
    | (go_at_call 42; refine (hP _).mono ?_; rintro e w' ⟨rfl,hb⟩))
   go_ret2
   exact ⟨rfl,hb⟩
  ·rw [word_loc h1 h2,if_pos ⟨rfl,h2⟩]
   rw [decide_eq_false h2] at hD
   clear h1 h2 hP
   have hC:=fun w' => clone_any s w' hm
   go_enter Tryz.func25,Tryz.ntmps25
   go_wp2_with (first
    | (go_at_call 39; refine hL.mono ?_; rintro e w' ⟨rfl,rfl⟩)
    | (go_at_call 40; refine (hD _).mono ?_; rintro e w' ⟨rfl,rfl⟩)
    | (go_at_call 41; refine (hC _).mono ?_; rintro e w' ⟨rfl,hb⟩))
   go_ret2
   exact ⟨rfl,hb⟩
theorem word1_any (s : ByteArray) (w : World) (hm : s.size <= 140737488355328) :
 Calls Tryz.prog 67 #[.string s] w fun e w' => e = .returned (.string ⟨(wordL s.data.toList).toArray⟩) /\ Below w.heap.size w w':=by
 have hW:=word_any s w hm
 unfold WordEnd at hW
 generalize (if localL s.data.toList = true /\ (46 : UInt8) ∉ s.data.toList then (0 : Int) else Qt.prErr s.data.toList) = E at hW
 go_enter Tryz.func67,Tryz.ntmps67
 go_wp2_with (go_at_call 25; refine hW.mono ?_; rintro e w' ⟨rfl,hb⟩)
 go_ret
 exact ⟨rfl,hb⟩
end Go.Proofs.YtbnppjmmlfncmaaGreatDoor

/-
  carry: the program's search and the reference's come to the same (pure): sections.
  carry's reference: Binds.
  carry: the search of delim.
  carry: the search of delim.
  carry: what stands in a table, visited: each field may turn a mark beside the search.
  carry: the search of sections: which fields are deep, flat values, lines that are too long.
  carry's reference: Rows, Deep.
  carry's reference: ways (the nodes above one); angle.
  carry's reference: outline.
  carry's reference: Deep, tabled.
  carry's reference: Deep.
  carry's reference: sections.
  carry's reference: delim.
  carry's reference: tells.
  carry: the search of angle: what stands in an element. (printed by mkCyXd.py)
  carry: the search of sections: a field.
  carry: the search of sections: tables.
  carry: the search of angle.
  carry: the search of outline.
  carry: the search from a root, whatever the syntax. (printed by mkCyXf.py)
  carry: what holds of a way that goes down a tree (pure).
-/
import Derived.Test.YtbnppjmmlfncmaaGreatDoorIsA39
import Derived.Test.YtbnppjmmlfncmaaGreatDoorIsA22
import Derived.Test.YtbnppjmmlfncmaaGreatDoorIsA19
import Derived.Test.YtbnppjmmlfncmaaGreatDoorIsA37
import Derived.Test.YtbnppjmmlfncmaaGreatDoorIsA10
import Derived.Test.YtbnppjmmlfncmaaGreatDoorIsA08
set_option linter.unusedSimpArgs false
set_option linter.unusedVariables false
set_option maxRecDepth 100000
namespace Go.Proofs.YtbnppjmmlfncmaaGreatDoor
def path2 (path : List UInt8) (f : Nd) : List UInt8:=(if path = [] then [] else path ++ [46]) ++ wordL f.t.data.toList
theorem tab_end : ∀ (path : List UInt8) (way : List Nd) (p : List UInt8),tabR path way = some p ->
 (∀ f v,rowsB (f.kids.getD 0 dNd) = false -> (f.kids.getD 0 dNd).k = 7 -> tabR path (way ++ [f,v]) = some (path2 p f)) /\
 (∀ f v m,rowsB (f.kids.getD 0 dNd) = true -> tabR path (way ++ [f,v,m]) = some (path2 p f)) /\
 (∀ f more,rowsB (f.kids.getD 0 dNd) = false -> (f.kids.getD 0 dNd).k ≠ 7 -> tabR path (way ++ f :: more) = none)
 | path,[],p,h => by simp [tabR] at h
 | path,[x],p,h => by
  simp only [tabR] at h
  injection h with h
  subst h
  refine ⟨fun f v h1 h2 => ?_,fun f v m h1 => ?_,fun f more h1 h2 => ?_⟩
  ·simp only [List.cons_append,List.nil_append,tabR]
   rw [h1,if_neg (by decide),if_pos h2]
   rfl
  ·simp only [List.cons_append,List.nil_append,tabR]
   rw [if_pos h1]
   rfl
  ·cases more with
   | nil => simp only [List.cons_append,List.nil_append,tabR]
   | cons v r =>
    simp only [List.cons_append,List.nil_append,tabR]
    rw [h1,if_neg (by decide),if_neg h2]
 | path,[x,y],p,h => by simp [tabR] at h
 | path,x :: f' :: v' :: rest,p,h => by
  simp only [tabR] at h
  by_cases hr : rowsB (f'.kids.getD 0 dNd) = true
  ·rw [if_pos hr] at h
   obtain ⟨i1,i2,i3⟩:=tab_end _ rest p h
   refine ⟨fun f v h1 h2 => ?_,fun f v m h1 => ?_,fun f more h1 h2 => ?_⟩
   ·simp only [List.cons_append,tabR]
    rw [if_pos hr]
    exact i1 f v h1 h2
   ·simp only [List.cons_append,tabR]
    rw [if_pos hr]
    exact i2 f v m h1
   ·simp only [List.cons_append,tabR]
    rw [if_pos hr]
    exact i3 f more h1 h2
  ·rw [if_neg hr] at h
   by_cases hk : (f'.kids.getD 0 dNd).k = 7
   ·rw [if_pos hk] at h
    obtain ⟨i1,i2,i3⟩:=tab_end _ (v' :: rest) p h
    refine ⟨fun f v h1 h2 => ?_,fun f v m h1 => ?_,fun f more h1 h2 => ?_⟩
    ·simp only [List.cons_append,tabR]
     rw [if_neg hr,if_pos hk]
     exact i1 f v h1 h2
    ·simp only [List.cons_append,tabR]
     rw [if_neg hr,if_pos hk]
     exact i2 f v m h1
    ·simp only [List.cons_append,tabR]
     rw [if_neg hr,if_pos hk]
     exact i3 f more h1 h2
   ·rw [if_neg hk] at h
    cases h
termination_by _ way => way.length
theorem gram.valid {n : Nd} (h : gram n) (hk : n.k = 8) : validL n.t.data.toList = true:=by
 have h1:=h.head.1
 unfold formedB bareK at h1
 rw [hk] at h1
 have h2:=(show _ /\ validL n.t.data.toList = true by simpa using h1).2
 exact h2
theorem word_ne (l : List UInt8) (hv : validL l = true) : wordL l ≠ []:=by
 unfold wordL
 split
 ·rename_i h
  intro h0
  rw [h0] at h
  exact absurd h.1 (by decide)
 ·unfold Qt.prText
  simp only [validL,Bool.and_eq_true,decide_eq_true_iff] at hv
  rw [if_pos hv.2,if_neg (by omega)]
  unfold Qt.printL
  simp
theorem path2_ne (path : List UInt8) {f : Nd} (hf : validL f.t.data.toList = true) : path2 path f ≠ []:=by
 unfold path2
 intro h
 exact word_ne _ hf (List.append_eq_nil_iff.1 h).2
theorem path2_len (path : List UInt8) (f : Nd) : (path2 path f).length = (if path = [] then 0 else path.length + 1) + wordN f:=by
 unfold path2 wordN
 rw [List.length_append]
 split <;> simp
def TabW (way : List Nd) (a : Nat) : Prop:=∃ path,(way.headD dNd).k = 7 /\ tabR [] way = some path /\ ((way.length = 1 /\ path = [] /\ a = 0) \/ (1 < way.length /\ path ≠ [] /\ a = path.length + 1))
theorem tab_head {way more : List Nd} (h : way ≠ []) : ((way ++ more).headD dNd) = way.headD dNd:=by
 cases way with
 | nil => exact absurd rfl h
 | cons => rfl
theorem tab_ne {way : List Nd} {a : Nat} (h : TabW way a) : way ≠ []:=by
 obtain ⟨path,_,h,_⟩:=h
 rintro rfl
 simp [tabR] at h
theorem tab_len {way : List Nd} {path : List UInt8} {a : Nat} {f : Nd} (h : (way.length = 1 /\ path = [] /\ a = 0) \/ (1 < way.length /\ path ≠ [] /\ a = path.length + 1)) : a + wordN f + 1 = (path2 path f).length + 1:=by
 rw [path2_len]
 rcases h with ⟨_,rfl,rfl⟩ | ⟨_,h,rfl⟩
 ·simp
 ·rw [if_neg h]
theorem tab_map {way : List Nd} {a : Nat} (h : TabW way a) (f v : Nd) (hf : validL f.t.data.toList = true) (h1 : rowsB (f.kids.getD 0 dNd) = false) (h2 : (f.kids.getD 0 dNd).k = 7) : TabW (way ++ [f,v]) (a + wordN f + 1):=by
 have hne:=tab_ne h
 obtain ⟨path,g1,g2,g3⟩:=h
 exact ⟨path2 path f,by rw [tab_head hne]; exact g1,(tab_end _ _ _ g2).1 f v h1 h2,.inr ⟨by simp,path2_ne _ hf,tab_len g3⟩⟩
theorem tab_rows {way : List Nd} {a : Nat} (h : TabW way a) (f v m : Nd) (hf : validL f.t.data.toList = true) (h1 : rowsB (f.kids.getD 0 dNd) = true) : TabW (way ++ [f,v,m]) (a + wordN f + 1):=by
 have hne:=tab_ne h
 obtain ⟨path,g1,g2,g3⟩:=h
 exact ⟨path2 path f,by rw [tab_head hne]; exact g1,(tab_end _ _ _ g2).2.1 f v m h1,.inr ⟨by simp,path2_ne _ hf,tab_len g3⟩⟩
def FlatW (way : List Nd) : Prop:=way ≠ [] /\ ∀ more,tabT (way ++ more) = none
theorem tab_flat {way : List Nd} {a : Nat} (h : TabW way a) (f : Nd) (h1 : rowsB (f.kids.getD 0 dNd) = false) (h2 : (f.kids.getD 0 dNd).k ≠ 7) : FlatW (way ++ [f]):=by
 have hne:=tab_ne h
 obtain ⟨path,g1,g2,g3⟩:=h
 refine ⟨by simp,fun more => ?_⟩
 rw [List.append_assoc]
 unfold tabT
 rw [tab_head hne,if_pos g1]
 exact (tab_end _ _ _ g2).2.2 f more h1 h2
theorem flat_more {way : List Nd} (h : FlatW way) (n : Nd) : FlatW (way ++ [n]):=⟨by simp,fun more => by rw [List.append_assoc]; exact h.2 _⟩
theorem brk_pos {n : Nd} : 0 < brk n ↔ (rowsB n = true \/ n.k = 7):=by
 unfold brk
 by_cases h : n.k = 7
 ·rw [if_pos h]; simp [h]
 ·rw [if_neg h]
  cases rowsB n <;> simp [h]
theorem rows_not7 {n : Nd} (h : rowsB n = true) : n.k = 5:=by
 unfold rowsB at h
 simp only [Bool.and_eq_true,decide_eq_true_iff] at h
 exact h.1
theorem rows_kids {n : Nd} (h : rowsB n = true) : ∀ m ∈ n.kids,m.k = 7:=by
 unfold rowsB at h
 simp only [Bool.and_eq_true,List.all_eq_true,decide_eq_true_iff] at h
 exact h.2.2
theorem flat_before : ∀ (l : List Nd) (j : Nat) (h : j < l.length),(l.map fun m => m.t.data.toList).Nodup -> flatBefore l[j] l = !(l.take j).any deepF
 | m :: r,0,h,hn => by simp [flatBefore]
 | m :: r,j + 1,h,hn => by
  simp only [List.map_cons,List.nodup_cons] at hn
  simp only [List.getElem_cons_succ,flatBefore,List.take_succ_cons,List.any_cons]
  have hne : ¬ m.t = (r[j]'(by simpa using h)).t:=by
   intro he
   refine hn.1 (List.mem_map.2 ⟨_,List.getElem_mem (by simpa using h),?_⟩)
   rw [he]
  rw [if_neg hne,flat_before r j (by simpa using h) hn.2]
  cases deepF m <;> simp
def simS (s : Sr) (way : List Nd) (n : Nd) : Prop:=gram n /\
 ((way = [] /\ s = .sc0 /\ n.k ≠ 8) \/
  (∃ a d,s = .scf a d /\ n.k = 8 /\ TabW way a /\ flatBefore n (lastN way).kids = !d) \/
  (∃ a f w0,s = .scr a /\ way = w0 ++ [f] /\ n = f.kids.getD 0 dNd /\ n.k ≠ 8 /\ (rowsB n = true \/ n.k = 7) /\ validL f.t.data.toList = true /\ ∃ a0,TabW w0 a0 /\ a = a0 + wordN f + 1) \/
  (∃ a,s = .sct a /\ n.k = 7 /\ way ≠ [] /\ TabW (way ++ [n]) a) \/
  (s = .scl /\ FlatW way))
theorem scf_kid {n : Nd} (hg : gram n) (hk : n.k = 7) (way : List Nd) (a : Nat) (hT : TabW (way ++ [n]) a) (j : Nat) (hj : j < n.kids.length) : simS (.scf a ((n.kids.take j).any deepF)) (way ++ [n]) n.kids[j]:=by
 obtain ⟨h1,h2,_⟩:=hg.head.2.2.2.1 hk
 refine ⟨hg.kid (List.getElem_mem hj),.inr (.inl ⟨a,_,rfl,h1 _ (List.getElem_mem hj),hT,?_⟩)⟩
 rw [lastN_snoc]
 exact flat_before _ _ hj h2
theorem sect_other (way : List Nd) (hw : way ≠ []) (n : Nd) (h8 : n.k ≠ 8) (h10 : n.k ≠ 10) (h1 : n.k ≠ 1) : sectT way n = true:=by
 unfold sectT
 rw [if_neg (by rintro (h | h | h); exact h10 h; exact h1 h; exact hw h.1),if_pos h8]
theorem of_sections (n : Nd) (hk : n.k ≠ 8) (hg : gram n) : ofP 4 n = refP 4 n:=by
 unfold ofP refP
 refine sr_sim badS nextS _ _ simS ?_ ?_ n (startS 4) [] ⟨hg,.inl ⟨rfl,rfl,hk⟩⟩
 ·rintro s way n ⟨hg,h⟩
  show badS s n = !sectT way n
  rcases h with ⟨rfl,rfl,h8⟩ | ⟨a,d,rfl,h8,hT,hfb⟩ | ⟨a,f,w0,rfl,rfl,hn,h8,hrk,hf,a0,hT,ha⟩ | ⟨a,rfl,h7,hw,hT⟩ | ⟨rfl,hF⟩
  ·unfold sectT
   simp only [badS]
   by_cases h7 : n.k = 7
   ·rw [if_neg (by rintro (h | h | h); omega; omega; exact h.2 h7),if_pos h8,decide_eq_true h7]
   ·rw [if_pos (.inr (.inr ⟨by trivial,h7⟩)),decide_eq_false h7]
  ·obtain ⟨path,g1,g2,g3⟩:=hT
   have hw : way ≠ []:=tab_ne ⟨path,g1,g2,g3⟩
   have hTT : tabT way = some path:=by unfold tabT; rw [if_pos g1]; exact g2
   unfold sectT
   rw [if_neg (by rintro (h | h | h); omega; omega; exact hw h.1),if_neg (by omega),hTT]
   simp only [badS]
   by_cases hb : 0 < brk (n.kids.getD 0 dNd)
   ·rw [if_pos hb,if_pos (show deepF n = true from decide_eq_true hb)]
    have ha : a = if path ≠ [] \/ 2 < way.length + 1 then path.length + 1 else 0:=by
     rcases g3 with ⟨q1,q2,q3⟩ | ⟨q1,q2,q3⟩
     ·rw [if_neg (by rintro (h | h); exact h q2; omega)]; exact q3
     ·rw [if_pos (.inl q2)]; exact q3
    rw [<- ha]
    have hbr : brk (n.kids.getD 0 dNd) = 2 + if rowsB (n.kids.getD 0 dNd) = true then 2 else 0:=by
     rcases brk_pos.1 hb with hr | h7
     ·unfold brk
      rw [if_neg (by have:=rows_not7 hr; omega),if_pos hr,if_pos hr]
     ·unfold brk
      rw [if_pos h7,if_neg (fun hr => by have:=rows_not7 hr; omega)]
    rw [hbr]
    by_cases h : wordN n + 2 + a + (if rowsB (n.kids.getD 0 dNd) = true then 2 else 0) <= 160
    ·rw [decide_eq_true h,decide_eq_false (by omega)]; rfl
    ·rw [decide_eq_false h,decide_eq_true (by omega)]; rfl
   ·rw [if_neg hb,if_neg (show ¬ deepF n = true from by unfold deepF; simpa using hb),hfb]
    by_cases h : (rowN n).length <= 160
    ·rw [decide_eq_true h,decide_eq_false (p:=160 < _) (by omega)]
     cases d <;> cases elemN n <;> rfl
    ·rw [decide_eq_false h,decide_eq_true (p:=160 < _) (by omega)]
     cases d <;> cases elemN n <;> rfl
  ·have h10 : n.k ≠ 10 /\ n.k ≠ 1:=by
    rcases hrk with hr | h7
    ·have:=rows_not7 hr; omega
    ·omega
   rw [sect_other _ (by simp) n h8 h10.1 h10.2]
   rfl
  ·rw [sect_other _ hw n (by omega) (by omega) (by omega)]
   rfl
  ·unfold sectT
   simp only [badS]
   by_cases h10 : n.k = 10
   ·rw [if_pos (.inl h10),decide_eq_true h10]; rfl
   by_cases h1 : n.k = 1
   ·rw [if_pos (.inr (.inl h1)),decide_eq_true h1,Bool.or_true]; rfl
   rw [if_neg (by rintro (h | h | h); exact h10 h; exact h1 h; exact hF.1 h.1),decide_eq_false h10,decide_eq_false h1]
   have:=hF.2 []
   rw [List.append_nil] at this
   by_cases h8 : n.k = 8
   ·rw [if_neg (by omega),this]; rfl
   ·rw [if_pos h8]; rfl
 ·rintro s way n ⟨hg,h⟩ hb j hj
  have hm:=List.getElem_mem hj
  rcases h with ⟨rfl,rfl,h8⟩ | ⟨a,d,rfl,h8,hT,hfb⟩ | ⟨a,f,w0,rfl,rfl,hn,h8,hrk,hf,a0,hT,ha⟩ | ⟨a,rfl,h7,hw,hT⟩ | ⟨rfl,hF⟩
  ·have h7 : n.k = 7:=by simp [badS] at hb; exact hb
   exact scf_kid hg h7 [] 0 ⟨[],h7,rfl,.inl ⟨rfl,rfl,rfl⟩⟩ j hj
  ·obtain ⟨m,hmm,hv,hgm⟩:=hg.key h8
   have hj0 : j = 0:=by rw [hmm] at hj; simpa using hj
   subst hj0
   have he : n.kids[0] = n.kids.getD 0 dNd:=(getDn hj).symm
   have he2 : n.kids[0] = m:=by simp [hmm]
   have hv8 : (n.kids[0]).k ≠ 8:=by rw [he2]; intro h; rw [h] at hv; exact absurd hv (by decide)
   refine ⟨hg.kid hm,?_⟩
   show _ \/ _
   by_cases hbr : 0 < brk (n.kids.getD 0 dNd)
   ·refine .inr (.inr (.inl ⟨a + wordN n + 1,n,way,?_,rfl,he,hv8,?_,hg.valid h8,a,hT,rfl⟩))
    ·show (if 0 < brk (n.kids.getD 0 dNd) then Sr.scr (a + wordN n + 1) else .scl) = _
     rw [if_pos hbr]
    ·rw [he]; exact brk_pos.1 hbr
   ·have hno : rowsB (n.kids.getD 0 dNd) = false /\ (n.kids.getD 0 dNd).k ≠ 7:=by
     constructor
     ·cases hr : rowsB (n.kids.getD 0 dNd) with
      | true => exact absurd (brk_pos.2 (.inl hr)) hbr
      | false => rfl
     ·exact fun h => hbr (brk_pos.2 (.inr h))
    refine .inr (.inr (.inr (.inr ⟨?_,tab_flat hT n hno.1 hno.2⟩)))
    show (if 0 < brk (n.kids.getD 0 dNd) then Sr.scr (a + wordN n + 1) else .scl) = _
    rw [if_neg hbr]
  ·subst ha
   by_cases h7 : n.k = 7
   ·have hT2 : TabW ((w0 ++ [f]) ++ [n]) (a0 + wordN f + 1):=by
     rw [List.append_assoc]
     refine tab_map hT f n hf ?_ (by rw [<- hn]; exact h7)
     rw [<- hn]
     cases hr : rowsB n with
     | true => have:=rows_not7 hr; omega
     | false => rfl
    have:=scf_kid hg h7 (w0 ++ [f]) _ hT2 j hj
    show simS (if n.k = 7 then _ else _) _ _
    rw [if_pos h7]
    exact this
   ·have hr : rowsB n = true:=by rcases hrk with h | h; exact h; exact absurd h h7
    refine ⟨hg.kid hm,.inr (.inr (.inr (.inl ⟨a0 + wordN f + 1,?_,rows_kids hr _ hm,by simp,?_⟩)))⟩
    ·show (if n.k = 7 then _ else Sr.sct (a0 + wordN f + 1)) = _
     rw [if_neg h7]
    ·rw [List.append_assoc,List.append_assoc]
     exact tab_rows hT f n _ hf (by rw [<- hn]; exact hr)
  ·exact scf_kid hg h7 way a hT j hj
  ·exact ⟨hg.kid hm,.inr (.inr (.inr (.inr ⟨rfl,flat_more hF n⟩)))⟩
theorem of_ref (x : Int) (n : Nd) (hg : gram n) (hk : n.k ≠ 8) : ofP x n = refP x n:=by
 by_cases h : x < 1 \/ 5 < x
 ·exact of_free x h n
 rcases (show x = 1 \/ x = 2 \/ x = 3 \/ x = 4 \/ x = 5 by omega) with rfl | rfl | rfl | rfl | rfl
 ·exact of_brace n
 ·exact of_angle n hg
 ·exact of_outline n hk hg
 ·exact of_sections n hk hg
 ·exact of_delim n hg
open Go.RowKit Go.Maps
structure FrD (s d : Nat) (g : Option Nat) (w w' : World) (g' : Option Nat) : Prop where
 os : w'.os = w.os
 tape : w'.tape = w.tape
 output : w'.output = w.output
 size : w.heap.size <= w'.heap.size
 block : ∀ k,k < w.heap.size -> k ≠ s -> k ≠ d -> some k ≠ g -> w'.heap[k]? = w.heap[k]?
 own : g' = g \/ ∀ q,g' = some q -> w.heap.size <= q
theorem FrD.trans {s d : Nat} {g g1 g2 : Option Nat} {w w1 w2 : World} (h : FrD s d g w w1 g1) (k : FrD s d g1 w1 w2 g2) : FrD s d g w w2 g2:=by
 refine ⟨k.os.trans h.os,k.tape.trans h.tape,k.output.trans h.output,Nat.le_trans h.size k.size,fun i hi hs hd hg => ?_,?_⟩
 ·refine (k.block i (Nat.lt_of_lt_of_le hi h.size) hs hd ?_).trans (h.block i hi hs hd hg)
  rcases h.own with e | e
  ·rw [e]; exact hg
  ·intro he
   have:=e i he.symm
   omega
 ·rcases k.own with e | e
  ·rw [e]; exact h.own
  ·exact .inr fun q hq => Nat.le_trans h.size (e q hq)
theorem FrS.deep {s d : Nat} {g g' : Option Nat} {w w' : World} (h : FrS s g w w' g') : FrD s d g w w' g':=⟨h.os,h.tape,h.output,h.size,fun k hk hs _ hg => h.block k hk hs hg,h.own⟩
theorem FrD.of_below {s d : Nat} {g : Option Nat} {w w' : World} (h : Below w.heap.size w w') : FrD s d g w w' g:=(FrS.of_below h).deep
theorem FrD.low {s d : Nat} {g g' : Option Nat} {w w' : World} {path : List Nat} (h : FrD s d g w w' g') (hi : SI s w path g) (hds : s < d) : Below s w w' :=
 ⟨h.os,h.tape,h.output,h.size,fun k hk => h.block k (Nat.lt_trans hk hi.lt) (by omega) (by omega) (fun e => by have:=(hi.own k e.symm).1; omega)⟩
def DPost (s d : Nat) (path : List Nat) (g : Option Nat) (w : World) (r : Option (List Nat)) (b : Bool) (e : Ending) (w' : World) : Prop :=
 (r = none /\ e = .returned (.tuple #[]) /\ ∃ g',SI s w' path g' /\ FrD s d g w w' g' /\ Bes s g' w' d 4 #[.bool b]) \/
 (∃ q v,r = some q /\ e = .panicked (foundP v) /\ ORow w' (s + 1) 3 v (pV (path ++ q)) /\ Below s w w')
def WayAt (w : World) (way : List Nd) (n : Nd) (A : Option Addr) (c : Nat) : Prop:=NAt (fun _ _ => True) w (.mk 5 ⟨#[]⟩ ⟨#[]⟩ (way ++ [n])) A c
theorem WayAt.below {w w' : World} {way : List Nd} {n : Nd} {A : Option Addr} {c : Nat} (h : WayAt w way n A c) (hb : Below w.heap.size w w') : WayAt w' way n A c:=NAt.below h hb
theorem WayAt.nth {w : World} {way : List Nd} {n : Nd} {A : Option Addr} {c : Nat} (h : WayAt w way n A c) : way.length + 1 <= c /\ c <= 9223372036854775807 /\ ∃ b o,A = some ⟨b,o,none⟩ /\ (∀ j (h : j < way.length),KidAt (fun _ _ => True) w b (o + j * 4) (way.getD j dNd)) /\ KidAt (fun _ _ => True) w b (o + way.length * 4) n:=by
 obtain ⟨h1,h2,h3⟩:=(NAt.def_ _ _ _).1 h
 simp only [Nd.kids,List.length_append,List.length_cons,List.length_nil,Nat.zero_add] at h1 h3
 obtain ⟨b,o,ha,_,hk⟩:=h3 (by omega)
 refine ⟨h1,by simpa [maxLen] using h2,b,o,ha,fun j hj => ?_,?_⟩
 ·have:=hk j (by omega)
  rw [List.getElem_append_left hj,<- getDn hj] at this
  exact this
 ·have:=hk way.length (by omega)
  rw [List.getElem_append_right (Nat.le_refl _)] at this
  simpa using this
theorem lastN_at {way : List Nd} (h : 0 < way.length) : way.getD (way.length - 1) dNd = lastN way:=by
 unfold lastN
 rw [List.getD_eq_getElem?_getD,<- List.getLast?_eq_getElem?,List.getLastD_eq_getLast?]
theorem tab_one (P : List UInt8) (way : List Nd) (i : Nat) (h : i + 1 = way.length) : tabR P (way.drop i) = some P:=by
 rw [List.drop_eq_getElem_cons (by omega),List.drop_eq_nil_of_le (by omega)]
 simp only [tabR]
theorem tab_past (P : List UInt8) (way : List Nd) (i : Nat) (h : way.length <= i) : tabR P (way.drop i) = none:=by
 rw [List.drop_eq_nil_of_le h]
 simp only [tabR]
theorem tab_two (P : List UInt8) (way : List Nd) (i : Nat) (h : i + 2 = way.length) : tabR P (way.drop i) = none:=by
 rw [List.drop_eq_getElem_cons (by omega),List.drop_eq_getElem_cons (by omega),List.drop_eq_nil_of_le (by omega)]
 simp only [tabR]
theorem tab_three (P : List UInt8) (way : List Nd) (i : Nat) (h : i + 2 < way.length) : tabR P (way.drop i) =
 if rowsB ((way.getD (i + 1) dNd).kids.getD 0 dNd) = true then tabR (path2 P (way.getD (i + 1) dNd)) (way.drop (i + 3)) else if ((way.getD (i + 1) dNd).kids.getD 0 dNd).k = 7 then tabR (path2 P (way.getD (i + 1) dNd)) (way.drop (i + 2)) else none:=by
 rw [List.drop_eq_getElem_cons (by omega),List.drop_eq_getElem_cons (show i + 1 < way.length by omega),List.drop_eq_getElem_cons (show i + 1 + 1 < way.length by omega),getDn (show i + 1 < way.length by omega)]
 simp only [tabR]
 rfl
def Downs (way : List Nd) : Prop:=∀ i,i + 1 < way.length -> (way.getD i dNd).k = 7 ->
 0 < (way.getD (i + 1) dNd).kids.length /\ (way.getD (i + 1) dNd).t.size <= 1048576 /\
 (rowsB ((way.getD (i + 1) dNd).kids.getD 0 dNd) = true -> i + 3 < way.length -> (way.getD (i + 3) dNd).k = 7) /\
 (((way.getD (i + 1) dNd).kids.getD 0 dNd).k = 7 -> i + 2 < way.length -> (way.getD (i + 2) dNd).k = 7)
structure WayOk (way : List Nd) (n : Nd) : Prop where
 small : smallT n
 size : sizeN n <= 90000
 key : n.k = 8 -> 0 < n.kids.length
 downs : Downs way
 len : way.length <= 1000
 lastT : (lastN way).t.size <= 1048576
 lastK : (lastN way).kids.length <= 100000
 lastD : (tabT way).isSome = true -> ∀ m ∈ (lastN way).kids,0 < m.kids.length
 first : ∀ a,way = [a] -> 0 < a.kids.length
 path : ∀ path,tabT way = some path -> path.length <= 10000000000
theorem small_kids {n : Nd} (h : smallT n) : n.t.size <= 1048576 /\ n.v.size <= 1048576 /\ ∀ m ∈ n.kids,smallT m:=by
 obtain ⟨k,t,v,l⟩:=n
 exact ⟨h.1,h.2.1,fun m hm => smallL_mem.1 h.2.2 m hm⟩
theorem size_kids (n : Nd) : n.kids.length <= sizeN n:=by
 obtain ⟨k,t,v,l⟩:=n
 have:=sizeL_len l
 simp only [sizeN,Nd.kids]
 omega
theorem rtells1 (way : List Nd) (n : Nd) (A : Option Addr) (c : Nat) (w : World) (hA : WayAt w way n A c) :
 Calls Tryz.prog 52 #[.int .i64 1,.slice A (way.length + 1) c] w fun e w' => e = .returned (.bool (tellsT 1 way n)) /\ Below w.heap.size w w':=by
 have hT : tellsT 1 way n = !decide (n.k = 10):=by unfold tellsT; simp
 rw [hT]
 obtain ⟨hlc,hcm,b,o,rfl,_,hlast⟩:=hA.nth
 obtain ⟨B,cB,q0,q1,q2,q3,_⟩:=hlast
 have hlt1 : way.length < c:=by omega
 clear hA hT
 by_cases hk : n.k = 10
 case pos =>
  rw [decide_eq_true hk]
  rw [hk] at q0
  clear hk
  go_enter Tryz.func52,Tryz.ntmps52
  go_wp2
  go_ret
  exact ⟨rfl,Below.refl _ _⟩
 case neg =>
  rw [decide_eq_false hk]
  have z1:=ibeq hk
  have z2:=ibne hk
  generalize n.k = k at *
  clear hk
  go_enter Tryz.func52,Tryz.ntmps52
  go_wp2
  go_ret
  exact ⟨rfl,Below.refl _ _⟩
def okC (n : Nd) : Prop:=gram n /\ smallT n /\ shaped n = true
theorem okC.kid {n m : Nd} (h : okC n) (hm : m ∈ n.kids) : okC m:=by
 obtain ⟨h1,h2,h3⟩:=h
 refine ⟨h1.kid hm,?_,?_⟩
 ·obtain ⟨k,t,v,l⟩:=n; exact smallL_mem.1 h2.2.2 _ hm
 ·obtain ⟨k,t,v,l⟩:=n
  simp only [shaped,Bool.and_eq_true] at h3
  exact shapedL_mem.1 h3.2 _ hm
theorem SI.set {s : Nat} {w : World} {path : List Nat} {g : Option Nat} {d : Nat} (h : SI s w path g) (hs : d ≠ s) (hg : some d ≠ g) (u : Value) : SI s (w.setCell ⟨d,0,none⟩ u) path g:=by
 obtain ⟨v,h1,h2,h3⟩:=h
 refine ⟨v,h1.far (p:=⟨d,0,none⟩) (fun e => hs e.symm) u,h2.kept (row:=some d) (only_setCell (World.grownBy.refl w (some d)) (.inl rfl) u) (.inr ?_),h3⟩
 rw [h3]
 exact fun e => hg e.symm
theorem FrD.set {s d : Nat} {g g' : Option Nat} {w w' : World} (h : FrD s d g w w' g') (u : Value) : FrD s d g w (w'.setCell ⟨d,0,none⟩ u) g' :=
 ⟨h.os,h.tape,h.output,by simpa [World.setCell] using h.size,fun k hk hs hd hg => (Below.heap_setCell w' ⟨d,0,none⟩ u k hd).trans (h.block k hk hs hd hg),h.own⟩
theorem Bes.far {s : Nat} {g : Option Nat} {w : World} {k : Nat} {t : TypeId} {cs : Array Value} (h : Bes s g w k t cs) {d : Nat} (hd : k ≠ d) (u : Value) : Bes s g (w.setCell ⟨d,0,none⟩ u) k t cs:=⟨h.1.far (p:=⟨d,0,none⟩) hd u,h.2⟩
theorem DPost.refuse {s d : Nat} {path : List Nat} {g : Option Nat} {w W1 w1 : World} {st : Sr} {n : Nd} {b : Bool} {v : Value} (hi : SI s w path g) (hb : badS st n = true) (F1 : FrD s d g w W1 g) (hds : s < d) (ho : ORow w1 (s + 1) 3 v (pV path)) (h1 : Below W1.heap.size W1 w1) : DPost s d path g w (srN badS nextS n st) b (.panicked (foundP v)) w1 :=
 .inr ⟨[],v,srN_bad st n hb,rfl,by rw [List.append_nil]; exact ho,(F1.low hi hds).trans (h1.mono (Nat.le_trans (Nat.le_of_lt hi.lt) F1.size))⟩
theorem DPost.cases_ {s d : Nat} {path : List Nat} {g : Option Nat} {w : World} {r : Option (List Nat)} {b : Bool} {e : Ending} {w' : World} (h : DPost s d path g w r b e w') :
 (e = .returned (.tuple #[]) /\ DPost s d path g w r b (.returned (.tuple #[])) w') \/ (∃ v,e = .panicked (foundP v) /\ DPost s d path g w r b (.panicked (foundP v)) w'):=by
 rcases h with ⟨h1,rfl,h3⟩ | ⟨q,v,h1,rfl,h3⟩
 ·exact .inl ⟨rfl,.inl ⟨h1,rfl,h3⟩⟩
 ·exact .inr ⟨v,rfl,.inr ⟨q,v,h1,rfl,h3⟩⟩
theorem size_mem {n m : Nd} (h : m ∈ n.kids) : sizeN m < sizeN n:=by
 obtain ⟨k,t,v,l⟩:=n
 have:=sizeL_mem h
 simp only [Nd.kids] at this
 simp only [sizeN]
 omega
theorem kid_mem {l : List Nd} {j : Nat} (h : j < l.length) : l.getD j dNd ∈ l:=by rw [getDn h]; exact List.getElem_mem h
theorem gram.parts {n : Nd} (h : gram n) (hk : n.k = 10) : ∃ us cs,n.kids = us ++ cs /\ (∀ m ∈ us,m.k = 11) /\ (∀ m ∈ cs,m.k = 4 \/ m.k = 10) /\ us.length <= 10:=h.head.2.2.2.2 hk
structure ChainOk (way : List Nd) (n : Nd) : Prop where
 ok : ∀ m ∈ way ++ [n],okC m /\ sizeN m <= 1000
 next : ∀ i,i + 1 < (way ++ [n]).length -> (way ++ [n]).getD (i + 1) dNd ∈ ((way ++ [n]).getD i dNd).kids
 len : way.length + sizeN n <= 1000
theorem getD_left {way : List Nd} {n : Nd} {i : Nat} (h : i < way.length) : (way ++ [n]).getD i dNd = way.getD i dNd:=by
 rw [getDn (by simp; omega),getDn h,List.getElem_append_left h]
theorem getD_end (way : List Nd) (n : Nd) : (way ++ [n]).getD way.length dNd = n:=by
 rw [getDn (by simp)]
 simp
theorem ChainOk.root {n : Nd} (h : okC n) (hz : sizeN n <= 1000) : ChainOk [] n:=by
 refine ⟨fun m hm => ?_,fun i hi => ?_,by simpa using hz⟩
 ·simp at hm
  subst hm
  exact ⟨h,hz⟩
 ·simp at hi
theorem ChainOk.kid {way : List Nd} {n : Nd} (h : ChainOk way n) {m : Nd} (hm : m ∈ n.kids) : ChainOk (way ++ [n]) m:=by
 have hn:=h.ok n (by simp)
 have hsz:=size_mem hm
 refine ⟨fun q hq => ?_,fun i hi => ?_,?_⟩
 ·rcases List.mem_append.1 hq with hq | hq
  ·exact h.ok q hq
  ·simp at hq
   subst hq
   exact ⟨hn.1.kid hm,by omega⟩
 ·by_cases hi2 : i + 1 < (way ++ [n]).length
  ·rw [getD_left hi2,getD_left (Nat.lt_of_succ_lt hi2)]
   exact h.next i hi2
  ·have : i + 1 = (way ++ [n]).length:=by simp at hi hi2 ⊢; omega
   rw [this,getD_end,getD_left (by omega),show i = way.length by simpa using this,getD_end]
   exact hm
 ·have:=h.len
  simp only [List.length_append,List.length_cons,List.length_nil]
  omega
theorem ChainOk.at {way : List Nd} {n : Nd} (h : ChainOk way n) {i : Nat} (hi : i < way.length) : okC (way.getD i dNd) /\ sizeN (way.getD i dNd) <= 1000:=h.ok _ (List.mem_append_left _ (by rw [getDn hi]; exact List.getElem_mem hi))
theorem ChainOk.step {way : List Nd} {n : Nd} (h : ChainOk way n) {i : Nat} (hi : i + 1 < way.length) : way.getD (i + 1) dNd ∈ (way.getD i dNd).kids:=by
 have:=h.next i (by simp; omega)
 rw [getD_left hi,getD_left (by omega)] at this
 exact this
theorem map_kid {a f : Nd} (ha : okC a) (h7 : a.k = 7) (hf : f ∈ a.kids) : ∃ m,f.kids = [m] /\ f.k = 8:=by
 have h8:=(ha.1.head.2.2.2.1 h7).1 f hf
 obtain ⟨m,hm,_⟩:=(ha.kid hf).1.key h8
 exact ⟨m,hm,h8⟩
theorem ChainOk.downs {way : List Nd} {n : Nd} (h : ChainOk way n) : Downs way:=by
 intro i hi h7
 have h1:=h.step hi
 obtain ⟨m,hm,h8⟩:=map_kid (h.at (by omega)).1 h7 h1
 have hg : (way.getD (i + 1) dNd).kids.getD 0 dNd = m:=by rw [hm]; rfl
 have h2 : i + 2 < way.length -> way.getD (i + 2) dNd = m:=fun hi2 => by
  have:=h.step (i:=i + 1) hi2
  rw [hm] at this
  simpa using this
 rw [hg]
 refine ⟨by rw [hm]; simp,(small_kids (h.at hi).1.2.1).1,fun hr hi3 => ?_,fun hk hi2 => by rw [h2 hi2]; exact hk⟩
 have h3:=h.step (i:=i + 2) hi3
 rw [h2 (by omega)] at h3
 exact rows_kids hr _ h3
theorem tab_facts {way : List Nd} (hd : Downs way) : ∀ (d i : Nat) (P q : List UInt8),way.length - i = d -> (i < way.length -> (way.getD i dNd).k = 7) -> tabR P (way.drop i) = some q -> (lastN way).k = 7 /\ q.length <= P.length + d * 2000000:=by
 intro d
 induction d using Nat.strongRecOn with
 | ind d ih =>
  intro i P q hdi h7 hq
  by_cases h0 : i < way.length
  case neg =>
   rw [tab_past P way i (by omega)] at hq
   cases hq
  case pos =>
   by_cases h1 : i + 1 < way.length
   case neg =>
    rw [tab_one P way i (by omega)] at hq
    injection hq with hq
    subst hq
    refine ⟨?_,by omega⟩
    rw [<- lastN_at (by omega),show way.length - 1 = i by omega]
    exact h7 h0
   case pos =>
    by_cases h2 : i + 2 < way.length
    case neg =>
     rw [tab_two P way i (by omega)] at hq
     cases hq
    case pos =>
     rw [tab_three P way i h2] at hq
     obtain ⟨_,hts,hr3,hr2⟩:=hd i h1 (h7 h0)
     have hp2:=path2_len P (way.getD (i + 1) dNd)
     have hwn : wordN (way.getD (i + 1) dNd) <= 1048576 + 290:=by
      have h1:=wordL_len (way.getD (i + 1) dNd).t.data.toList
      have h2 : (way.getD (i + 1) dNd).t.data.toList.length = (way.getD (i + 1) dNd).t.size:=by simp
      unfold wordN
      omega
     have hp3 : (path2 P (way.getD (i + 1) dNd)).length <= P.length + 1 + 1048576 + 290:=by
      rw [hp2]
      split <;> omega
     split at hq
     ·obtain ⟨e1,e2⟩:=ih (way.length - (i + 3)) (by omega) (i + 3) _ q rfl (hr3 ‹_›) hq
      exact ⟨e1,by omega⟩
     ·split at hq
      ·obtain ⟨e1,e2⟩:=ih (way.length - (i + 2)) (by omega) (i + 2) _ q rfl (hr2 ‹_›) hq
       exact ⟨e1,by omega⟩
      ·cases hq
theorem tabT_facts {way : List Nd} (hd : Downs way) {q : List UInt8} (h : tabT way = some q) : (lastN way).k = 7 /\ q.length <= way.length * 2000000:=by
 unfold tabT at h
 split at h
 ·rename_i h7
  have hhd : way.headD dNd = way.getD 0 dNd:=by cases way <;> rfl
  have:=tab_facts hd way.length 0 [] q (by omega) (fun _ => by rw [<- hhd]; exact h7) (by rw [List.drop_zero]; exact h)
  simpa using this
 ·cases h
theorem lastN_mem {way : List Nd} (h : 0 < way.length) : lastN way = way.getD (way.length - 1) dNd:=(lastN_at h).symm
theorem ChainOk.way {way : List Nd} {n : Nd} (h : ChainOk way n) : WayOk way n:=by
 have hn:=h.ok n (by simp)
 have hl : okC (lastN way) /\ sizeN (lastN way) <= 1000 \/ way = []:=by
  by_cases h0 : way = []
  ·exact .inr h0
  ·have hp:=List.length_pos_iff.2 h0
   rw [lastN_mem hp]
   exact .inl (h.at (by omega))
 refine ⟨hn.1.2.1,by omega,fun h8 => ?_,h.downs,by have:=h.len; omega,?_,?_,fun hs m hm => ?_,fun a ha => ?_,fun p hp => ?_⟩
 ·obtain ⟨m,hm,_⟩:=hn.1.1.key h8
  rw [hm]; simp
 ·rcases hl with hl | rfl
  ·exact (small_kids hl.1.2.1).1
  ·decide
 ·rcases hl with hl | rfl
  ·have:=size_kids (lastN way); omega
  ·decide
 ·obtain ⟨q,hq⟩:=Option.isSome_iff_exists.1 hs
  have h7:=(tabT_facts h.downs hq).1
  rcases hl with hl | rfl
  ·obtain ⟨x,hx,_⟩:=map_kid hl.1 h7 hm
   rw [hx]; simp
  ·exact absurd h7 (by decide)
 ·subst ha
  have:=h.next 0 (by simp)
  have h2 : n ∈ a.kids:=by simpa using this
  exact List.length_pos_of_mem h2
 ·have:=(tabT_facts h.downs hp).2
  have:=h.len
  omega
end Go.Proofs.YtbnppjmmlfncmaaGreatDoor

/-
  The reference's Anchors: what a push leaves; Open.
-/
import Derived.Test.YtkghdieakpipkaaGreatDoorAnV16
import Derived.Test.YtkghdieakpipkaaGreatDoorAnV17
namespace Go.Proofs.YtkghdieakpipkaaGreatDoor
open Go.RowKit Go.Maps
set_option maxRecDepth 100000
set_option linter.unusedSimpArgs false
set_option linter.unusedVariables false

def kK : Obj → Prop
  | .cells _ t _ => t = 48
  | _ => False
def kR : Obj → Prop
  | .cells _ t _ => t = 28
  | _ => False
def kKR (o : Obj) : Prop := kK o ∨ kR o
theorem RRep.ts_set {w4 : World} {U : Nat → Prop} {r : Nat} {kv v4 : Value} {K' : List Kp} {t : Nat} (hb : Blk w4 r 28 #[kv, .int .i64 (t : Int)]) (hrow : RRow w4 0 v4 K') (hev : ∀ k ∈ K', ERow w4 0 k.lv k.evs) (hr : U r) :
    RRep (w4.setCell ⟨r, 0, none⟩ v4) r v4 K' t ∧ TS U kR w4 (w4.setCell ⟨r, 0, none⟩ v4) := by
  have ht : TS U kR w4 (w4.setCell ⟨r, 0, none⟩ v4) := (TS.refl _ _ _).set hb hr (show kR (.cells _ _ _) from rfl) 0 v4
  exact ⟨⟨hb.set_ 0 v4, row_ts hrow ht (.inr fun _ _ => by simp only [kR]; decide), fun k hk => row_ts (hev k hk) ht (.inr fun _ _ => by simp only [kR]; decide)⟩, ht⟩
theorem rpush {w w4 : World} {U : Nat → Prop} {r : Nat} {kv v4 : Value} {K : List Kp} {t : Nat} {o : Obj} {x : Kp} (h : RRep w r kv K t) (hr : U r) (hk : ∀ g, kv.ownBlock = some g → U g) (hg : (w.alloc o).grownBy w4 kv.ownBlock)
    (hrow : w4.ownsRow 0 48 2 v4 (K.length + 1) (kpcs K ++ [strV x.nm, x.lv])) (hx : ERow w 0 x.lv x.evs) :
    Blk w4 r 28 #[kv, .int .i64 (t : Int)] ∧ RRep (w4.setCell ⟨r, 0, none⟩ v4) r v4 (K ++ [x]) t ∧ TS U kKR w (w4.setCell ⟨r, 0, none⟩ v4) := by
  have ht : TS U kK w w4 := (TS.alloc (TS.refl U kK w) o).trans (TS.of_row (World.ownsRow.alloc h.row o) hg hk (fun _ => rfl))
  have hb4 := h.blk.ts ht (.inr (by simp only [kK]; decide))
  have hev : ∀ k ∈ K ++ [x], ERow w4 0 k.lv k.evs := by
    intro k hk
    rcases List.mem_append.1 hk with hk | hk
    · exact row_ts (h.evs k hk) ht (.inr fun _ _ => by simp only [kK]; decide)
    · rw [List.mem_singleton] at hk
      subst hk
      exact row_ts hx ht (.inr fun _ _ => by simp only [kK]; decide)
  have hrow' : RRow w4 0 v4 (K ++ [x]) := by
    unfold RRow
    rw [kpcs_snoc, List.length_append]
    exact hrow
  obtain ⟨h1, h2⟩ := RRep.ts_set hb4 hrow' hev hr (U := U)
  exact ⟨hb4, h1, (ht.wide fun _ h => .inl h).trans (h2.wide fun _ h => .inr h)⟩

/-- A reference that holds just s. -/
def RAt (w : World) (T : Nat → Prop) (r : Nat) (s : Am) : Prop := (∀ k, T k → k < w.heap.size) ∧ ∃ kv K, RRep w r kv K s.told ∧ K.map Kp.ent = s.m ∧ T r ∧ (∀ g, kv.ownBlock = some g → T g) ∧ ∀ k ∈ K, ∀ g, k.lv.ownBlock = some g → T g
section
variable {w w' : World} {S T : Nat → Prop} {r : Nat} {s : Am} {p : Obj → Prop}
theorem RAt.off (h : RAt w T r s) (ht : TS S p w w') (hd : ∀ k, T k → ¬ S k) : RAt w' T r s := by
  obtain ⟨hl, kv, K, hR, hK, h1, h2, h3⟩ := h
  exact ⟨fun k hk => Nat.lt_of_lt_of_le (hl k hk) ht.size, kv, K, ⟨hR.blk.ts ht (.inl (hd _ h1)), row_ts hR.row ht (.inl fun g hg => hd _ (h2 g hg)), fun k hk => row_ts (hR.evs k hk) ht (.inl fun g hg => hd _ (h3 k hk g hg))⟩, hK, h1, h2, h3⟩
theorem RAt.below (h : RAt w T r s) (hb : Below w.heap.size w w') : RAt w' T r s := h.off (S := fun _ => False) (p := anyO) (TS.of_below hb) (fun _ _ h => h)
theorem RAt.mono (h : RAt w T r s) (hs : ∀ k, T k → S k) (hl : ∀ k, S k → k < w.heap.size) : RAt w S r s := by
  obtain ⟨_, kv, K, hR, hK, h1, h2, h3⟩ := h
  exact ⟨hl, kv, K, hR, hK, hs _ h1, fun g hg => hs _ (h2 g hg), fun k hk g hg => hs _ (h3 k hk g hg)⟩
theorem RAt.mk' {kv : Value} {K : List Kp} (hl : ∀ k, T k → k < w.heap.size) (hs : w.heap.size ≤ w'.heap.size) (hR : RRep w' r kv K s.told) (hK : K.map Kp.ent = s.m) (h1 : T r) (h2 : ∀ g, kv.ownBlock = some g → Up T w g) (h3 : ∀ k ∈ K, ∀ g, k.lv.ownBlock = some g → Up T w g) : RAt w' (Ext T w w') r s :=
  ⟨Ext.lt hl hs, kv, K, hR, hK, .inl h1, fun g hg => (h2 g hg).imp id fun h => ⟨h, row_lt hR.row g hg⟩, fun k hk g hg => (h3 k hk g hg).imp id fun h => ⟨h, row_lt (hR.evs k hk) g hg⟩⟩
end
theorem cellsOf2 (w : World) (a b : Value) (t : TypeId) : ∀ j u, [a, b][j]? = some u → (w.alloc (.cells #[a, b] t)).cell? ((⟨w.heap.size, 0, none⟩ : Addr).add j) = some u := by
  intro j u h
  rw [addr_add0, (Blk.new w t #[a, b]).cell]
  match j, h with
  | 0, h => exact h
  | 1, h => exact h
theorem name_here {K : List Kp} {n : List UInt8} : n ∈ namesA (K.map Kp.ent) ↔ ∃ k ∈ K, k.nm = n := by
  unfold namesA
  simp [Kp.ent]

set_option maxHeartbeats 4000000 in
theorem ropen_any (w : World) (T : Nat → Prop) (r : Nat) (s : Am) (n : ByteArray) (h : RAt w T r s) (hI : AInv s) (hn : n.size ≤ 140737488355328) :
    Calls Tryz.prog 19 #[.pointer (some ⟨r, 0, none⟩), .string n] w fun e w' => e = .returned (.int .i64 (openE s n.data.toList)) ∧ RAt w' (Ext T w w') r (openM s n.data.toList) ∧ TS T anyO w w' := by
  have hsame : ∀ w', openE s n.data.toList ≠ 0 → (∃ m, w' = w.drewN m) → RAt w' (Ext T w w') r (openM s n.data.toList) ∧ TS T anyO w w' := by
    rintro w' h0 ⟨m, rfl⟩
    unfold openM
    rw [if_neg h0]
    have hb : Below w.heap.size w (w.drewN m) := below_drewN (Below.refl _ _) m
    exact ⟨(h.below hb).mono (fun _ h => .inl h) (Ext.lt h.1 hb.size), TS.of_below hb⟩
  have HS := Lib.hid hsame
  have hL := Lib.hid (rlocal_any n w hn)
  clear hsame
  cases hl : localL n.data.toList with
  | false =>
    have hE : openE s n.data.toList = 1 := by unfold openE; rw [if_pos hl]
    rw [hl] at hL
    rw [hE]
    have HE := Lib.hid hE
    clear h hI hn hl hE
    go_enter Tryz.func19, Tryz.ntmps19
    go_wp2_with fail
    refine hL.out.mono ?_
    rintro e w' ⟨rfl, rfl⟩
    go_wp2
    go_ret
    exact ⟨rfl, HS.out _ (by rw [HE.out]; decide) ⟨0, rfl⟩⟩
  | true =>
    rw [hl] at hL
    obtain ⟨hlT, kv, K, hR, hK, h1, h2, h3⟩ := h
    have hE : openE s n.data.toList = if (∃ k ∈ K, k.nm = n.data.toList) then 6 else if 200 < sizeA s.m + n.data.toList.length then 12 else 0 := by
      unfold openE
      rw [if_neg (by rw [hl]; decide), ← hK]
      simp only [name_here]
    have hsz : sizeA (K.map Kp.ent) ≤ 200 := by rw [hK]; exact hI.sz
    obtain ⟨A, c, hkv, hlc, hcm, hr⟩ := hR.row.form
    subst hkv
    have hcm2 : c ≤ 9223372036854775807 := by simpa [maxLen] using hcm
    have c0 : w.cell? ⟨r, 0, none⟩ = some (.slice A K.length c) := hR.blk.cell 0
    have HZ : Hid (∀ n', Calls Tryz.prog 10 #[.pointer (some ⟨r, 0, none⟩)] (w.drewN n') fun e w' => e = .returned (.int .i64 (sizeA (K.map Kp.ent) : Int)) ∧ ∃ m, w' = (w.drewN n').drewN m) := Lib.hid (fun n' => rsize_any _ r _ K s.told (hR.drewN n') (by omega))
    obtain ⟨E, hEE⟩ : ∃ E, openE s n.data.toList = E := ⟨_, rfl⟩
    rw [hEE] at hE
    rw [hEE]
    have HE := Lib.hid hEE
    have HX := Lib.hid hE
    have HR := Lib.hid (And.intro hR (And.intro hK (And.intro h1 (And.intro h2 (And.intro h3 hlT)))))
    clear hR hK h1 h2 h3 hlT hE hEE hcm hl
    have hlen : (n.size : Int) = n.data.toList.length := by simp
    go_enter Tryz.func19, Tryz.ntmps19
    go_wp2_with fail
    refine hL.out.mono ?_
    rintro e w' ⟨rfl, rfl⟩
    clear hL
    go_wp2
    go_loopw [6] (fun u6 wr => ∃ i m : Nat, i ≤ K.length ∧ u6 = .int .i64 (i : Int) ∧ Hid (∀ k ∈ K.take i, k.nm ≠ n.data.toList) ∧ wr = w.drewN m) (fun u6 _ => K.length - (intOf u6).toNat)
    case atStart => exact ⟨0, 0, Nat.zero_le _, rfl, Lib.hid (by simp), rfl⟩
    case round =>
      obtain ⟨i, m, hi, rfl, HT, rfl⟩ := hrel
      by_cases hlt : i < K.length
      case pos =>
        obtain ⟨b, o, rfl, hc⟩ := hr (by omega)
        obtain ⟨g0, _⟩ := hc i hlt
        by_cases he : K[i].nm = n.data.toList
        · have hq : E = 6 := by
            rw [HX.out, if_pos ⟨_, List.getElem_mem hlt, he⟩]
          subst hq
          unfold strV at g0
          rw [he] at g0
          have g0' : w.cell? ⟨b, o + i * 2, none⟩ = some (.string n) := g0
          clear he hc hr g0 HT
          go_wp2
          go_ret
          exact ⟨rfl, HS.out _ (by rw [HE.out]; decide) ⟨m, rfl⟩⟩
        · have HT2 : Hid (∀ k ∈ K.take (i + 1), k.nm ≠ n.data.toList) := Lib.hid (by
            intro k hk
            rw [List.take_succ_eq_append_getElem hlt, List.mem_append] at hk
            rcases hk with hk | hk
            · exact HT.out k hk
            · rw [List.mem_singleton] at hk
              subst hk
              exact he)
          obtain ⟨n1, n2⟩ := str_neq he
          have n1' : ((⟨K[i].nm.toArray⟩ : ByteArray).toList == n.toList) = false := n1
          have n2' : ¬ (⟨K[i].nm.toArray⟩ : ByteArray).toList = n.toList := n2
          unfold strV at g0
          clear n1 n2 he hc hr HT
          generalize (⟨K[i].nm.toArray⟩ : ByteArray) = sb at *
          go_wp2
          go_roundw
          case rel => exact ⟨i + 1, m, hlt, by go_num, HT2, rfl⟩
          case measure => first | (simp [intOf]; done) | (simp [intOf]; omega)
      case neg =>
        have hie : i = K.length := by omega
        subst hie
        have hT := HT.out
        rw [List.take_of_length_le (Nat.le_refl _)] at hT
        have hq : E = if 200 < sizeA s.m + n.data.toList.length then 12 else 0 := by
          rw [HX.out, if_neg (by rintro ⟨k, hk, he⟩; exact hT k hk he)]
        have hzs : sizeA (K.map Kp.ent) = sizeA s.m := by rw [HR.out.2.1]
        rw [hzs] at hsz
        clear hT HT hlt hi HX
        obtain ⟨z, hz⟩ : ∃ z, sizeA s.m = z := ⟨_, rfl⟩
        rw [hz] at hq hzs hsz
        rw [hzs] at HZ
        obtain ⟨nl, hnl⟩ : ∃ nl, n.data.toList.length = nl := ⟨_, rfl⟩
        rw [hnl] at hlen hq
        clear hz hzs hnl
        have hnl2 : nl ≤ 140737488355328 := by omega
        have e1 : wrap64 ((z : Int) + (n.size : Int)) = (z : Int) + nl := by rw [IntWalk.wrap64_in _ (by omega)]; omega
        by_cases h2 : 200 < z + nl
        · rw [if_pos h2] at hq
          subst hq
          have e2 : decide ((200 : Int) < (z : Int) + (nl : Int)) = true := by rw [decide_eq_true_iff]; omega
          clear h2 hr
          go_wp2_with (first
            | (go_at_call 10; refine (HZ.out _).mono ?_; rintro e w' ⟨rfl, m2, rfl⟩))
          go_ret
          exact ⟨rfl, HS.out _ (by rw [HE.out]; decide) ⟨m + m2, rfl⟩⟩
        · rw [if_neg h2] at hq
          subst hq
          have e2 : decide ((200 : Int) < (z : Int) + (nl : Int)) = false := by rw [decide_eq_false_iff_not]; omega
          have hKl : K.length ≤ 200 := by
            have h5 := hI.ok
            rw [← HR.out.2.1] at h5
            have := sizeA_len fun r hr => (h5 r hr).2
            have h6 := HR.out.2.1
            have h7 : sizeA (K.map Kp.ent) ≤ 200 := by rw [h6]; exact hI.sz
            simp at this
            omega
          have h63 : K.length + 1 ≤ maxLen := by simp only [maxLen]; omega
          have h40 : (K.length + 1) * 40 ≤ 140737488355328 := by omega
          have H : Hid (∀ n' v4 w4, w4.ownsRow 0 48 2 v4 (K.length + 1) (kpcs K ++ [.string n, .slice none 0 0]) → ((w.drewN n').alloc (.cells #[.string n, .slice none 0 0] 48)).grownBy w4 (Value.slice A K.length c).ownBlock → NB ((w.drewN n').alloc (.cells #[.string n, .slice none 0 0] 48)) (.slice A K.length c) v4 →
              w4.cell? ⟨r, 0, none⟩ = some (.slice A K.length c) ∧ w4.frozen? ⟨r, 0, none⟩ = false ∧ r < w4.heap.size ∧ (RAt (w4.setCell ⟨r, 0, none⟩ v4) (Ext T w (w4.setCell ⟨r, 0, none⟩ v4)) r (openM s n.data.toList) ∧ TS T anyO w (w4.setCell ⟨r, 0, none⟩ v4))) := by
            refine Lib.hid fun n' v4 w4 hown hg hnb => ?_
            obtain ⟨hR, hK, q1, q2, q3, q4⟩ := HR.out
            obtain ⟨hb4, hR4, ht4⟩ := rpush (U := Up T w) (x := ⟨n.data.toList, [], .slice none 0 0⟩) (hR.drewN n') (.inl q1) (fun g hg => .inl (q2 g hg)) hg hown (ERow.nil _ _)
            have ht5 : TS T anyO w (w4.setCell ⟨r, 0, none⟩ v4) := TS.cut (((TS.refl (Up T w) anyO w).drewN n').trans ht4.any)
            refine ⟨hb4.cell 0, hb4.frozen 0, hb4.lt, RAt.mk' q4 ht5.size (kv := v4) (K := K ++ [⟨n.data.toList, [], .slice none 0 0⟩]) ?_ ?_ q1 ?_ ?_, ht5⟩
            · unfold openM
              rw [if_pos HE.out]
              exact hR4
            · unfold openM
              rw [if_pos HE.out, List.map_append, hK]
              rfl
            · intro g hg'
              rcases hnb with e | ⟨k, e, hk⟩
              · rw [e] at hg'; exact .inl (q2 g hg')
              · rw [e] at hg'
                injection hg' with hg'
                subst hg'
                exact .inr (Nat.le_trans (by simp) hk)
            · intro k hk g hg'
              rcases List.mem_append.1 hk with hk | hk
              · exact .inl (q3 k hk g hg')
              · rw [List.mem_singleton] at hk
                subst hk
                cases hg'
          have hrow : Hid (∀ n', (w.drewN n').ownsRow 0 48 2 (.slice A K.length c) K.length (kpcs K)) := Lib.hid (fun _ => HR.out.1.row)
          clear hr h2 hI
          go_wp2_with (first
            | (go_at_call 10; refine (HZ.out _).mono ?_; rintro e w' ⟨rfl, m2, rfl⟩)
            | (at_builtin; refine wp_appX rfl _ _ 26 rfl 0 48 _ 2 40 Tryz.underlying26 Tryz.infoKp rfl (by decide) (.slice A K.length c) K.length (kpcs K) [.string n, .slice none 0 0] rfl (by exact World.ownsRow.alloc (hrow.out (m + m2)) _) (by simp [Value.oneCell']) ⟨w.heap.size, 0, none⟩ 1 1 rfl rfl (by exact cellsOf2 ((w.drewN m).drewN m2) _ _ _) h63 h40 (Nat.zero_le _) ?_; intro v4 w4 hown4 hg4 hnb4; obtain ⟨g4, c4, rfl⟩ := rowN_shape hown4 (Nat.succ_pos _); obtain ⟨d3, f3, dl, HN'⟩ := H.out (m + m2) _ w4 hown4 hg4 hnb4; have HN := Lib.hid HN'; clear HN' hown4 hg4 hnb4 H c0 hrow))
          go_ret
          exact ⟨rfl, HN.out⟩
end Go.Proofs.YtkghdieakpipkaaGreatDoor

/-
  Words for the laws of decoders: bytes appended that came in; bytes as a string; rows that are written over.
  The laws of angle: lives, few.
-/
import Derived.Test.YtjepnddndpmnnaaGreatGsB36
import Derived.Test.YtjepnddndpmnnaaGreatGsB15
import Derived.Deep.Upon
import Derived.Lib.BufferRead
import Derived.Lib.SlBytesConst
namespace Go.Proofs.YtjepnddndpmnnaaGreat
open Go.RowKit Go.Maps
set_option maxRecDepth 100000
set_option linter.unusedSimpArgs false
set_option linter.unusedVariables false
set_option linter.unusedSectionVars false
variable [Tab] [Fo]

section
variable {P : Program} {w : World}
theorem src_none (size : Nat) (tx e : TypeId) (ht : P.underlying tx = some (.slice e)) (c : Nat) : Src P size tx (.slice none 0 c) 0 [] w :=
  ⟨.inl ⟨e, ht⟩, fun w' => by simp [Builtin.lenOf], by simp [Builtin.firstCells], by simp [Builtin.firstCells], by simp, by simp⟩
/-- Bytes appended that came in. -/
theorem wp_appT {ops : Array Oper} {rest : List Oper} {o : Oper} {a : Act} {Q : Exit → Act → World → Prop} (hgd : o.guard = none) (s x : Operand) (t : TypeId)
    (ho : o.op = .call { callee := .builtin .append, args := #[s, x], argTypes := #[t, t] })
    (base : Nat) (e : TypeId) (ht : P.underlying t = some (.slice e)) (hinfo : (P.info? e).map (fun i => (i.zero, i.size, i.bytes)) = some (some (.int .u8 0), 1, 1))
    (v vx : Value) (l bs : List UInt8) (hs : a.eval s = v) (hown : ORow w base e v (l.map bV)) (hx : a.eval x = vx) (hr : BRead w vx bs)
    (h63 : l.length + bs.length ≤ 140737488355328) (hbase : base ≤ w.heap.size)
    (h : ∀ v' w', ORow w' base e v' ((l ++ bs).map bV) → w.grownBy w' v.ownBlock → NB w v v' → wpList P ops Q rest (a.put o.dst v') w') :
    wpList P ops Q (o :: rest) a w := by
  obtain ⟨A, c, rfl, hc⟩ := hr
  by_cases hb : 0 < bs.length
  · obtain ⟨ad, rfl, hcell⟩ := hc hb
    refine Qt.wp_appSg hgd s x t ho base e (.int .u8 0) 1 ht hinfo rfl v (l.map bV) (bs.map bV) hs hown (by intro u hu; simp at hu; obtain ⟨b, _, rfl⟩ := hu; rfl) ad bs.length c (by simp) hx (fun j u hj => ?_) (by simp [maxLen]; omega) (by simp; omega) hbase fun v' w' h1 h2 h3 => h v' w' (by rw [List.map_append]; exact h1) h2 h3
    have hjl : j < bs.length := by have := (List.getElem?_eq_some_iff.1 hj).1; simpa using this
    rw [hcell j hjl, List.getElem?_map, List.getElem?_eq_getElem hjl] at *
    simpa [bV] using hj
  · obtain rfl : bs = [] := List.eq_nil_of_length_eq_zero (by omega)
    cases A with
    | some ad =>
      refine Qt.wp_appSg hgd s x t ho base e (.int .u8 0) 1 ht hinfo rfl v (l.map bV) [] hs hown (by simp) ad 0 c rfl hx (by simp) (by simp [maxLen]; simp at h63; omega) (by simp; simp at h63; omega) hbase fun v' w' h1 h2 h3 => h v' w' (by simpa using h1) h2 h3
    | none =>
      obtain ⟨i, hi, hz, hsize, hby⟩ := info_parts hinfo
      refine wpList_plain hgd fun K hK => ?_
      obtain ⟨A', cap, hv⟩ := hown.shape
      have hle : (l.map bV).length ≤ cap := by
        rcases hown.form with ⟨hv', h0⟩ | ⟨g, cap', hv', _, _, hle, _⟩
        · rw [h0]; exact Nat.zero_le _
        · rw [hv] at hv'
          injection hv' with _ _ e3
          subst e3
          exact hle
      subst hv
      have hrun := run_append_nothing (P := P) w t t o.type e i ht hi A' (l.map bV).length cap hle (.slice none 0 c) (src_none _ _ _ ht c)
      unfold Oper.wp execOp
      simp only [ho, resolve, invoke, builtin, Sem.run_bind, Sem.run_pure, Result.andThen_ok, List.map_toArray, List.map_cons, List.map_nil, hs, hx, List.length_nil, hrun]
      exact hK _ _ (h _ _ (by simpa using hown) (World.grownBy.refl _ _) (.inl rfl))
/-- string(b), b having come in. -/
theorem str_of_read {v : Value} {l : List UInt8} (src dst e : TypeId) (hs : P.underlying src = some (.slice e)) (he : P.underlying e = some (.int .u8)) (hd : P.underlying dst = some .string) (h : BRead w v l) :
    (convert src dst v).run P w = .ok (.string ⟨l.toArray⟩) w := by
  obtain ⟨A, c, rfl, hc⟩ := h
  cases A with
  | some ad =>
    refine run_convert_bytes_back w src dst e ad c l hs he hd fun j hj => ?_
    obtain ⟨ad', e1, hcell⟩ := hc (by omega)
    injection e1 with e1
    subst e1
    exact hcell j hj
  | none =>
    have h0 : l = [] := by
      rcases Nat.eq_zero_or_pos l.length with h | h
      · exact List.eq_nil_of_length_eq_zero h
      · obtain ⟨_, e1, _⟩ := hc h; cases e1
    subst h0
    exact Lib.run_convert_nil_bytes w src dst e c hs he hd
end
theorem row_len {w : World} {b : Nat} {e : TypeId} {size n : Nat} {v : Value} {xs : List Value} (h : w.ownsRow b e size v n xs) : xs.length = n * size := h.1
theorem row_get {w : World} {base r : Nat} {e : TypeId} {size n cap : Nat} {xs : List Value} (h : w.ownsRow base e size (.slice (some ⟨r, 0, none⟩) n cap) n xs) {i : Nat} (hi : i < n * size) : ∃ u, w.cell? ⟨r, i, none⟩ = some u := by
  have hl := row_len h
  exact ⟨xs[i]'(by omega), by rw [rowN_cell h hi]; exact List.getElem?_eq_getElem (by omega)⟩
theorem rowX_shape {w : World} {base : Nat} {e : TypeId} {size n : Nat} {v : Value} {xs : List Value} (h : w.ownsRow base e size v n xs) : ∃ A c, v = .slice A n c ∧ (0 < n → ∃ r, A = some ⟨r, 0, none⟩) := by
  rcases h.2 with ⟨rfl, rfl⟩ | ⟨g, cap, cur, rfl, _⟩
  · exact ⟨none, 0, rfl, fun h => absurd h (Nat.lt_irrefl _)⟩
  · exact ⟨_, _, rfl, fun _ => ⟨_, rfl⟩⟩
theorem below_gr {base : Nat} {w w' : World} {v : Value} {e : TypeId} {size n : Nat} {xs : List Value} (h : w.ownsRow base e size v n xs) (hg : w.grownBy w' v.ownBlock) (hb : base ≤ w.heap.size) : Below base w w' :=
  ⟨hg.os, hg.tape, hg.output, hg.size, fun k hk => hg.block k (by omega) fun hc => by have := World.ownsRow.lt h k hc.symm; omega⟩
end Go.Proofs.YtjepnddndpmnnaaGreat
namespace Go.Proofs.YtjepnddndpmnnaaGreat
open Go.RowKit Go.Maps
set_option maxRecDepth 100000
set_option linter.unusedSimpArgs false
set_option linter.unusedVariables false
set_option linter.unusedSectionVars false
variable [Tab] [Fo]

def liveT_G : List UInt8 := [60, 112, 58, 97, 32, 120, 109, 108, 110, 115, 58, 112, 61, 34, 117, 34, 32, 107, 61, 34, 49, 34, 62, 120, 38, 108, 116, 59, 60, 47, 112, 58, 97, 62]
def liveL_G : List Ev := [⟨10, ⟨#[123, 117, 125, 97]⟩, ⟨#[]⟩⟩, ⟨11, ⟨#[107]⟩, ⟨#[49]⟩⟩, ⟨4, ⟨#[120, 60]⟩, ⟨#[]⟩⟩, ⟨12, ⟨#[]⟩, ⟨#[]⟩⟩]
theorem live_e_G : aEr liveT_G = 0 := by kernel_rfl
theorem live_rd_G : aRd liveT_G = 34 := by kernel_rfl
theorem live_l_G : aEv liveT_G = liveL_G := by kernel_rfl

set_option maxHeartbeats 4000000 in
theorem lives_G (w : World) (hfl : Fo.lim ≤ w.heap.size) : Calls Tryz.prog 12 #[] w fun e w' => e = .returned (.bool true) ∧ Below w.heap.size w w' := by
  have al : Below w.heap.size w (w.alloc (.cells #[.int .u8 60, .int .u8 112, .int .u8 58, .int .u8 97, .int .u8 32, .int .u8 120, .int .u8 109, .int .u8 108, .int .u8 110, .int .u8 115, .int .u8 58, .int .u8 112, .int .u8 61, .int .u8 34, .int .u8 117, .int .u8 34, .int .u8 32, .int .u8 107, .int .u8 61, .int .u8 34, .int .u8 49, .int .u8 34, .int .u8 62, .int .u8 120, .int .u8 38, .int .u8 108, .int .u8 116, .int .u8 59, .int .u8 60, .int .u8 47, .int .u8 112, .int .u8 58, .int .u8 97, .int .u8 62] 5 (34, 35))) := (Below.refl _ _).alloc (Nat.le_refl _) _
  have hR : BRead (w.alloc (.cells #[.int .u8 60, .int .u8 112, .int .u8 58, .int .u8 97, .int .u8 32, .int .u8 120, .int .u8 109, .int .u8 108, .int .u8 110, .int .u8 115, .int .u8 58, .int .u8 112, .int .u8 61, .int .u8 34, .int .u8 117, .int .u8 34, .int .u8 32, .int .u8 107, .int .u8 61, .int .u8 34, .int .u8 49, .int .u8 34, .int .u8 62, .int .u8 120, .int .u8 38, .int .u8 108, .int .u8 116, .int .u8 59, .int .u8 60, .int .u8 47, .int .u8 112, .int .u8 58, .int .u8 97, .int .u8 62] 5 (34, 35))) (.slice (some ⟨w.heap.size, 0, none⟩) 34 34) liveT_G := by
    refine ⟨_, _, rfl, fun _ => ⟨_, rfl, fun j hj => ?_⟩⟩
    rw [addr_add0, World.cell?_alloc_mark]
    have hj' : j < 34 := hj
    match j, hj' with
    | 0, _ => rfl
    | 1, _ => rfl
    | 2, _ => rfl
    | 3, _ => rfl
    | 4, _ => rfl
    | 5, _ => rfl
    | 6, _ => rfl
    | 7, _ => rfl
    | 8, _ => rfl
    | 9, _ => rfl
    | 10, _ => rfl
    | 11, _ => rfl
    | 12, _ => rfl
    | 13, _ => rfl
    | 14, _ => rfl
    | 15, _ => rfl
    | 16, _ => rfl
    | 17, _ => rfl
    | 18, _ => rfl
    | 19, _ => rfl
    | 20, _ => rfl
    | 21, _ => rfl
    | 22, _ => rfl
    | 23, _ => rfl
    | 24, _ => rfl
    | 25, _ => rfl
    | 26, _ => rfl
    | 27, _ => rfl
    | 28, _ => rfl
    | 29, _ => rfl
    | 30, _ => rfl
    | 31, _ => rfl
    | 32, _ => rfl
    | 33, _ => rfl
    | n + 34, h => exact absurd h (by omega)
  have hC := adecode_any _ _ liveT_G (by decide) hR (Nat.le_trans hfl al.size)
  rw [live_e_G, live_rd_G, live_l_G] at hC
  have hcv := Lib.run_convert_bytes_const (P := Tryz.prog) w 22 5 #[.int .u8 60, .int .u8 112, .int .u8 58, .int .u8 97, .int .u8 32, .int .u8 120, .int .u8 109, .int .u8 108, .int .u8 110, .int .u8 115, .int .u8 58, .int .u8 112, .int .u8 61, .int .u8 34, .int .u8 117, .int .u8 34, .int .u8 32, .int .u8 107, .int .u8 61, .int .u8 34, .int .u8 49, .int .u8 34, .int .u8 62, .int .u8 120, .int .u8 38, .int .u8 108, .int .u8 116, .int .u8 59, .int .u8 60, .int .u8 47, .int .u8 112, .int .u8 58, .int .u8 97, .int .u8 62] 34 34 Tryz.underlying22 Tryz.underlying5
  simp only [List.size_toArray, List.length_cons, List.length_nil, Nat.zero_add, Nat.reduceAdd] at hcv
  clear hR
  have HAL := Lib.hid al
  clear al
  go_enter Tryz.func12, Tryz.ntmps12
  go_wp2_with fail
  refine hC.mono ?_
  rintro e w1 ⟨lv, rfl, hRow, hb1⟩
  have HB := Lib.hid (HAL.out.trans (hb1.mono HAL.out.size))
  obtain ⟨A, c, hlv, _, _, hr⟩ := hRow.read
  obtain ⟨b, o, rfl, hcell⟩ := hr (by decide)
  have hlv' : lv = .slice (some ⟨b, o, none⟩) 4 c := hlv
  subst hlv'
  obtain ⟨x0, x1, x2⟩ := hcell 0 (by decide)
  have x0' : w1.cell? ⟨b, o, none⟩ = some (.int .i64 10) := x0
  have x1' : w1.cell? ⟨b, o + 1, none⟩ = some (.string ⟨#[123, 117, 125, 97]⟩) := x1
  have x2' : w1.cell? ⟨b, o + 2, none⟩ = some (.string ⟨#[]⟩) := x2
  obtain ⟨y0, y1, y2⟩ := hcell 1 (by decide)
  have y0' : w1.cell? ⟨b, o + 3, none⟩ = some (.int .i64 11) := y0
  have y1' : w1.cell? ⟨b, o + 4, none⟩ = some (.string ⟨#[107]⟩) := y1
  have y2' : w1.cell? ⟨b, o + 5, none⟩ = some (.string ⟨#[49]⟩) := y2
  obtain ⟨z0, z1, z2⟩ := hcell 2 (by decide)
  have z0' : w1.cell? ⟨b, o + 6, none⟩ = some (.int .i64 4) := z0
  have z1' : w1.cell? ⟨b, o + 7, none⟩ = some (.string ⟨#[120, 60]⟩) := z1
  have z2' : w1.cell? ⟨b, o + 8, none⟩ = some (.string ⟨#[]⟩) := z2
  clear hRow hb1 hr hcell hlv x0 x1 x2 y0 y1 y2 z0 z1 z2 hC hcv
  go_wp2
  go_ret
  exact ⟨rfl, HB.out⟩

theorem few_G (w : World) (A : Option Addr) (c : Nat) (bs : List UInt8) (hv : BRead w (.slice A bs.length c) bs) (hc : bs.length ≤ c) :
    Calls Tryz.prog 8 #[.slice A bs.length c] w fun e w' => e = .returned (.slice A (bs.take 600).length c) ∧ BRead w (.slice A (bs.take 600).length c) (bs.take 600) ∧ w = w' := by
  by_cases h6 : 600 < bs.length
  · obtain ⟨A', c', he, hr⟩ := hv
    injection he with e1 _ e3
    subst e1 e3
    obtain ⟨ad, rfl, hcell⟩ := hr (by omega)
    have hz : decide ((600 : Int) < (bs.length : Int)) = true := by simp; omega
    have hle : 600 ≤ c := by omega
    have hl : (bs.take 600).length = 600 := by rw [List.length_take]; omega
    have HV : BRead w (.slice (some ad) (bs.take 600).length c) (bs.take 600) := by
      refine ⟨some ad, c, rfl, fun _ => ⟨ad, rfl, fun j hj => ?_⟩⟩
      rw [List.getElem_take]
      exact hcell j (by omega)
    have HR := Lib.hid HV
    rw [hl]
    rw [hl] at HR
    clear hcell hr HV hl
    generalize bs.take 600 = ts at *
    go_enter Tryz.func8, Tryz.ntmps8
    go_wp2
    go_ret
    exact ⟨rfl, HR.out, rfl⟩
  · have hz : decide ((600 : Int) < (bs.length : Int)) = false := by simp; omega
    rw [List.take_of_length_le (by omega)]
    have HV := Lib.hid hv
    clear hv
    go_enter Tryz.func8, Tryz.ntmps8
    go_wp2
    go_ret
    exact ⟨rfl, HV.out, rfl⟩
end Go.Proofs.YtjepnddndpmnnaaGreat

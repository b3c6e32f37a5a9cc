/-
  lines: a token that is as long as possible.
-/
import Derived.Test.YtalkjgijmceifaaGreatDoorOwA22
namespace Go.Proofs.YtalkjgijmceifaaGreatDoor
open Go.RowKit Go.Maps
set_option maxRecDepth 100000
set_option linter.unusedSimpArgs false
set_option linter.unusedVariables false
set_option linter.unusedSectionVars false
variable [Tab] [Fo]

/-- A token that is as long as possible. -/
def lgRun (g : ByteArray → UInt8 → Bool) (mx : Nat) : List UInt8 → ByteArray → Option ByteArray
  | [], s => some s
  | b :: r, s => if g s b = true then (if mx ≤ s.size then none else lgRun g mx r (s ++ ⟨#[b]⟩)) else some s
def lgP (g : ByteArray → UInt8 → Bool) (mx : Nat) (et : ByteArray → ByteArray) (ec : ByteArray → Int) (S : List UInt8) (a : Nat) : Option (ByteArray × Nat) :=
  (lgRun g mx (S.drop a) ⟨#[]⟩).bind fun s => if ec s = 0 then some (et s, a + s.size - 1) else none
/-- A token's type: what its calls do. -/
structure Tok where
  T : TypeId
  E : TypeId
  mx : Nat
  mx9 : mx ≤ 900
  num : Prop
  g : ByteArray → UInt8 → Bool
  et : ByteArray → ByteArray
  ec : ByteArray → Int
  ec0 : ∀ s, ec s = 0 → 0 < s.size
  etz : ∀ s, s.size ≤ 1000 → (et s).size ≤ 1000
  fG : FuncId
  fA : FuncId
  fE : FuncId
  hG : ∀ (a : Addr) (w : World), (method 398 T (.pointer (some a)) "Goes").run Tryz.prog w = .ok (fG, .pointer (some a)) w
  hA : ∀ (a : Addr) (w : World), (method 398 T (.pointer (some a)) "Add").run Tryz.prog w = .ok (fA, .pointer (some a)) w
  hE : ∀ (a : Addr) (w : World), (method 398 T (.pointer (some a)) "End").run Tryz.prog w = .ok (fE, .pointer (some a)) w
  nG : ∀ (a : Addr) (w : World), (nilAhead 398 T (.pointer (some a)) "Goes").run Tryz.prog w = .ok (some false) w
  nA : ∀ (a : Addr) (w : World), (nilAhead 398 T (.pointer (some a)) "Add").run Tryz.prog w = .ok (some false) w
  eG : ∀ args w, (callFunc fG args).run Tryz.prog w = .ok (.enter fG args) w
  eA : ∀ args w, (callFunc fA args).run Tryz.prog w = .ok (.enter fA args) w
  eE : ∀ args w, (callFunc fE args).run Tryz.prog w = .ok (.enter fE args) w
  goes : ∀ (w : World) (m : Nat) (s : ByteArray) (b : UInt8), w.cell? ⟨m, 0, none⟩ = some (.string s) → m < w.heap.size → s.size ≤ 1000 →
    Calls Tryz.prog fG #[.pointer (some ⟨m, 0, none⟩), .int .u8 (b.toNat : Int)] w fun e w' => e = .returned (.bool (g s b)) ∧ Below w.heap.size w w'
  add : ∀ (w : World) (m : Nat) (s : ByteArray) (b : UInt8), w.cell? ⟨m, 0, none⟩ = some (.string s) → w.frozen? ⟨m, 0, none⟩ = false → m < w.heap.size → s.size ≤ 1000 →
    Calls Tryz.prog fA #[.pointer (some ⟨m, 0, none⟩), .int .u8 (b.toNat : Int)] w fun e w' => (mx ≤ s.size ∧ e = .returned (.int .i64 4) ∧ w' = w) ∨
      (e = .returned (.int .i64 0) ∧ s.size < mx ∧ Below (w.setCell ⟨m, 0, none⟩ (.string (s ++ ⟨#[b]⟩))).heap.size (w.setCell ⟨m, 0, none⟩ (.string (s ++ ⟨#[b]⟩))) w')
  fin : ∀ (w : World) (base m : Nat) (s : ByteArray), w.cell? ⟨m, 0, none⟩ = some (.string s) → w.frozen? ⟨m, 0, none⟩ = false → m < w.heap.size → s.size ≤ 1000 → base ≤ m → SN num base w →
    Calls Tryz.prog fE #[.pointer (some ⟨m, 0, none⟩)] w fun e w' => e = .returned (.tuple #[.string (et s), .int .i64 (ec s)]) ∧ Below (w.setCell ⟨m, 0, none⟩ (.string ⟨#[]⟩)).heap.size (w.setCell ⟨m, 0, none⟩ (.string ⟨#[]⟩)) w'
theorem LAt.below4 {w w' : World} {L m : Nat} {o : LO} {S : List UInt8} {a : Nat} {t : TypeId} {cs : Array Value} {u : Value} (h : LAt w L o S a) (hm : Blk w m t cs) (hLm : L ≠ m) (hb : Below (w.setCell ⟨m, 0, none⟩ u).heap.size (w.setCell ⟨m, 0, none⟩ u) w') : LAt w' L o S a :=
  Blk.below (Blk.far h (p := ⟨m, 0, none⟩) hLm u) hb (by simpa [World.setCell] using Blk.lt h)
theorem fr3_tok {w w' : World} {L m : Nat} {t : TypeId} {cs : Array Value} {u : Value} (hm : Blk w m t cs) (hb : Below (w.setCell ⟨m, 0, none⟩ u).heap.size (w.setCell ⟨m, 0, none⟩ u) w') : Fr3 L m m w w' :=
  ((Fr3.refl L m m w).set ⟨m, 0, none⟩ u (.inr (.inl rfl))).trans (Fr3.of_below hb)
/-- How the reading of a token ends. -/
def LgP (Tk : Tok) (w : World) (L : Nat) (o : LO) (m : Nat) (S : List UInt8) (a : Nat) (e : Ending) (w' : World) : Prop :=
  ((∃ t a', lgP Tk.g Tk.mx Tk.et Tk.ec S a = some (t, a') ∧ e = .returned (.string t) ∧ t.size ≤ 1000 ∧ a ≤ a' ∧ a' < S.length ∧ LAt w' L o S a') ∨ (lgP Tk.g Tk.mx Tk.et Tk.ec S a = none ∧ ∃ k a', k ≠ 0 ∧ e = .panicked (failP k) ∧ a' ≤ S.length ∧ LAt w' L o S a')) ∧ Fr3 L m m w w'
variable {Tk : Tok}

set_option maxHeartbeats 4000000 in
theorem longest_any (w : World) (base L : Nat) (o : LO) (m : Nat) (S : List UInt8) (a : Nat) (h : LAt w L o S a) (hm : Blk w m Tk.E #[.string ⟨#[]⟩]) (hLm : L ≠ m) (hS : S.length ≤ 1000) (ha : a ≤ S.length) (hb : base ≤ w.heap.size ∧ base ≤ L ∧ base ≤ m) (hw : SN Tk.num base w) :
    Calls Tryz.prog 205 #[.pointer (some ⟨L, 0, none⟩), .iface Tk.T (.pointer (some ⟨m, 0, none⟩))] w (LgP Tk w L o m S a) := by
  obtain ⟨R, hR⟩ : ∃ R, lgRun Tk.g Tk.mx (S.drop a) ⟨#[]⟩ = R := ⟨_, rfl⟩
  have START := Lib.hid (show ∃ (a1 : Nat) (s : ByteArray), a ≤ a1 ∧ a1 ≤ S.length ∧ s.size + a = a1 ∧ Hid (lgRun Tk.g Tk.mx (S.drop a1) s = R) ∧ Hid (LAt w L o S a1) ∧ Hid (Blk w m Tk.E #[.string s]) ∧ Hid (Fr3 L m m w w) from ⟨a, ⟨#[]⟩, Nat.le_refl _, ha, Nat.zero_add a, Lib.hid hR, Lib.hid h, Lib.hid hm, Lib.hid (Fr3.refl _ _ _ _)⟩)
  have hmf : ∀ (fn : Fn) (first cap : Array Value) (w : World), (Instr.makeFunc fn first cap).run Tryz.prog w = .ok (.func fn first cap) w := fun _ _ _ _ => rfl
  have HRR : Hid (lgP Tk.g Tk.mx Tk.et Tk.ec S a = R.bind fun s => if Tk.ec s = 0 then some (Tk.et s, a + s.size - 1) else none) := Lib.hid (by unfold lgP; rw [hR])
  clear h hm hR
  go_enter Tryz.func205, Tryz.ntmps205
  go_wp2
  go_loopw [] (fun wr => ∃ (a1 : Nat) (s : ByteArray), a ≤ a1 ∧ a1 ≤ S.length ∧ s.size + a = a1 ∧ Hid (lgRun Tk.g Tk.mx (S.drop a1) s = R) ∧ Hid (LAt wr L o S a1) ∧ Hid (Blk wr m Tk.E #[.string s]) ∧ Hid (Fr3 L m m w wr)) (fun wr => S.length - atOf L wr)
  case atStart => exact START.out
  case round =>
    obtain ⟨a1, s, h1, h2, h3, HRun, HLA, HM, HF⟩ := hrel
    clear START
    have hsz : s.size ≤ 1000 := by omega
    have HLA0 := HLA
    have l0 : wr.cell? ⟨L, 0, none⟩ = some (.string ⟨S.toArray⟩) := Blk.cell HLA.out 0
    have l1 : wr.cell? ⟨L, 1, none⟩ = some (.int .i64 (a1 : Int)) := Blk.cell HLA.out 1
    have hlt := Blk.lt HLA.out
    have hz := bsize S
    have hC := over_any wr.drew L o S a1 (HLA.out.drew 1) hS (by omega)
    by_cases hov : a1 = S.length
    · rw [decide_eq_true hov] at hC
      have HE : Hid (lgP Tk.g Tk.mx Tk.et Tk.ec S a = if Tk.ec s = 0 then some (Tk.et s, a1 - 1) else none) := Lib.hid (by rw [HRR.out, ← HRun.out, List.drop_of_length_le (by omega), ← h3, Nat.add_comm s.size a]; rfl)
      have hC := Lib.hid hC
      have HLAx := Lib.hid (HLA.out.drew 2)
      have HMx : Hid (Blk (wr.drewN 2) m Tk.E #[.string s]) := Lib.hid HM.out
      have HFx := Lib.hid (HF.out.trans (Fr3.of_below (below_drewN (Below.refl wr.heap.size wr) 2)))
      have hEn := Tk.fin (wr.drewN 2) base m s (HMx.out.cell 0) (HMx.out.frozen 0) HMx.out.lt (by have := hsz; omega) hb.2.2 (hw.below (HFx.out.below hb.2.1 hb.2.2 hb.2.2 hb.1))
      have HEN := Lib.hid hEn
      clear hEn
      go_wp2
      refine region_g [] (S := (fun W => W.cell? ⟨L, 0, none⟩ = some (.string ⟨S.toArray⟩) ∧ W.cell? ⟨L, 1, none⟩ = some (.int .i64 (a1 : Int)))) (by kernel_rfl) ⟨l0, l1⟩ (fun hH => ?_)
      refine g_take (i := 0) (v := .pointer (some ⟨L, 0, none⟩)) (by rfl) (by kernel_rfl) (by kernel_rfl) (by kernel_rfl) (by kernel_rfl) (fun _ _ _ h => (by cases h.1)) (Or.inl ⟨by kernel_rfl, fun W hS => (by obtain ⟨s0, s1⟩ := hS; go_simp)⟩) hH ?_
      simp only [Act.put, List.setIfInBounds_toArray, List.set_cons_zero, List.set_cons_succ]
      refine g_one (i := 1) (by kernel_rfl) (by rfl) (fun K hK => ?_)
      go_simp
      refine hC.out.mono ?_
      rintro e w1 ⟨rfl, rfl⟩
      refine hK.out _ _ (fun _ => ⟨l0, l1⟩) (fun _ => ?_)
      clear hK K
      refine g_take (i := 2) (v := .bool false) (by rfl) (by kernel_rfl) (by kernel_rfl) (by kernel_rfl) (by kernel_rfl) (fun _ _ _ h => (by cases h.1)) (Or.inl ⟨by kernel_rfl, fun W hS => (by obtain ⟨s0, s1⟩ := hS; go_simp)⟩) hH ?_
      simp only [Act.put, List.setIfInBounds_toArray, List.set_cons_zero, List.set_cons_succ]
      refine g_take (i := 3) (v := .bool false) (by rfl) (by kernel_rfl) (by kernel_rfl) (by kernel_rfl) (by kernel_rfl) (fun _ _ _ h => (by cases h.1)) (Or.inl ⟨by kernel_rfl, fun W hS => (by obtain ⟨s0, s1⟩ := hS; go_simp)⟩) hH ?_
      simp only [Act.put, List.setIfInBounds_toArray, List.set_cons_zero, List.set_cons_succ]
      refine g_take (i := 4) (v := undef) (by rfl) (by kernel_rfl) (by kernel_rfl) (by kernel_rfl) (by kernel_rfl) (fun _ _ _ h => (by cases h.1)) (Or.inr ⟨by kernel_rfl, rfl⟩) hH ?_
      simp only [Act.put, List.setIfInBounds_toArray, List.set_cons_zero, List.set_cons_succ]
      refine g_take (i := 5) (v := undef) (by rfl) (by kernel_rfl) (by kernel_rfl) (by kernel_rfl) (by kernel_rfl) (fun _ _ _ h => (by cases h.1)) (Or.inr ⟨by kernel_rfl, rfl⟩) hH ?_
      simp only [Act.put, List.setIfInBounds_toArray, List.set_cons_zero, List.set_cons_succ]
      refine g_take (i := 6) (v := undef) (by rfl) (by kernel_rfl) (by kernel_rfl) (by kernel_rfl) (by kernel_rfl) (fun _ _ _ h => (by cases h.1)) (Or.inr ⟨by kernel_rfl, rfl⟩) hH ?_
      simp only [Act.put, List.setIfInBounds_toArray, List.set_cons_zero, List.set_cons_succ]
      refine g_take (i := 7) (v := undef) (by rfl) (by kernel_rfl) (by kernel_rfl) (by kernel_rfl) (by kernel_rfl) (fun _ _ _ h => (by cases h.1)) (Or.inr ⟨by kernel_rfl, rfl⟩) hH ?_
      simp only [Act.put, List.setIfInBounds_toArray, List.set_cons_zero, List.set_cons_succ]
      refine g_take (i := 8) (v := undef) (by rfl) (by kernel_rfl) (by kernel_rfl) (by kernel_rfl) (by kernel_rfl) (fun _ _ _ h => (by cases h.1)) (Or.inr ⟨by kernel_rfl, rfl⟩) hH ?_
      simp only [Act.put, List.setIfInBounds_toArray, List.set_cons_zero, List.set_cons_succ]
      refine g_take (i := 9) (v := undef) (by rfl) (by kernel_rfl) (by kernel_rfl) (by kernel_rfl) (by kernel_rfl) (fun _ _ _ h => (by cases h.1)) (Or.inr ⟨by kernel_rfl, rfl⟩) hH ?_
      simp only [Act.put, List.setIfInBounds_toArray, List.set_cons_zero, List.set_cons_succ]
      refine g_take (i := 10) (v := undef) (by rfl) (by kernel_rfl) (by kernel_rfl) (by kernel_rfl) (by kernel_rfl) (fun _ _ _ h => (by cases h.1)) (Or.inr ⟨by kernel_rfl, rfl⟩) hH ?_
      simp only [Act.put, List.setIfInBounds_toArray, List.set_cons_zero, List.set_cons_succ]
      refine g_take (i := 11) (v := undef) (by rfl) (by kernel_rfl) (by kernel_rfl) (by kernel_rfl) (by kernel_rfl) (fun _ _ _ h => (by cases h.1)) (Or.inr ⟨by kernel_rfl, rfl⟩) hH ?_
      simp only [Act.put, List.setIfInBounds_toArray, List.set_cons_zero, List.set_cons_succ]
      refine g_take (i := 12) (v := undef) (by rfl) (by kernel_rfl) (by kernel_rfl) (by kernel_rfl) (by kernel_rfl) (fun _ _ _ h => (by cases h.1)) (Or.inr ⟨by kernel_rfl, rfl⟩) hH ?_
      simp only [Act.put, List.setIfInBounds_toArray, List.set_cons_zero, List.set_cons_succ]
      refine g_take (i := 13) (v := undef) (by rfl) (by kernel_rfl) (by kernel_rfl) (by kernel_rfl) (by kernel_rfl) (fun _ _ _ h => (by cases h.1)) (Or.inr ⟨by kernel_rfl, rfl⟩) hH ?_
      simp only [Act.put, List.setIfInBounds_toArray, List.set_cons_zero, List.set_cons_succ]
      refine g_take (i := 14) (v := undef) (by rfl) (by kernel_rfl) (by kernel_rfl) (by kernel_rfl) (by kernel_rfl) (fun _ _ _ h => (by cases h.1)) (Or.inr ⟨by kernel_rfl, rfl⟩) hH ?_
      simp only [Act.put, List.setIfInBounds_toArray, List.set_cons_zero, List.set_cons_succ]
      refine g_take (i := 15) (v := undef) (by rfl) (by kernel_rfl) (by kernel_rfl) (by kernel_rfl) (by kernel_rfl) (fun _ _ _ h => (by cases h.1)) (Or.inr ⟨by kernel_rfl, rfl⟩) hH ?_
      simp only [Act.put, List.setIfInBounds_toArray, List.set_cons_zero, List.set_cons_succ]
      refine g_take (i := 16) (v := undef) (by rfl) (by kernel_rfl) (by kernel_rfl) (by kernel_rfl) (by kernel_rfl) (fun _ _ _ h => (by cases h.1)) (Or.inr ⟨by kernel_rfl, rfl⟩) hH ?_
      simp only [Act.put, List.setIfInBounds_toArray, List.set_cons_zero, List.set_cons_succ]
      refine g_take (i := 17) (v := undef) (by rfl) (by kernel_rfl) (by kernel_rfl) (by kernel_rfl) (by kernel_rfl) (fun _ _ _ h => (by cases h.1)) (Or.inr ⟨by kernel_rfl, rfl⟩) hH ?_
      simp only [Act.put, List.setIfInBounds_toArray, List.set_cons_zero, List.set_cons_succ]
      refine g_one (i := 18) (by kernel_rfl) (by rfl) (fun K hK => ?_)
      go_simp
      refine hK.out _ _ (fun _ => ⟨l0, l1⟩) (fun _ => ?_)
      clear hK K
      refine g_done (by kernel_rfl) ⟨by first | rfl | trivial, ?_⟩ _
      clear HLA HM HF l0 l1 hlt hov hC hz
      go_wp2
      try rw [Tk.hE]
      try simp only [Result.andThen_ok]
      try rw [Tk.eE]
      try go_simp
      refine HEN.out.mono ?_
      rintro e w4 ⟨rfl, hb4⟩
      obtain ⟨k, hk⟩ : ∃ k, Tk.ec s = k := ⟨_, rfl⟩
      rw [hk]
      have hLA4 := LAt.below4 HLAx.out HMx.out hLm hb4
      have hF4 := HFx.out.trans (fr3_tok HMx.out hb4)
      have HK := Lib.hid (And.intro hk (And.intro hLA4 hF4))
      clear hk hb4 hLA4 hF4 HEN
      go_wp2_with fail
      refine (must_any _ _ k).mono ?_
      rintro e w5 ⟨⟨hk0, rfl⟩ | ⟨hk0, rfl⟩, rfl⟩
      case inr => exact ⟨rfl, .inr ⟨by rw [HE.out, if_neg (by rw [HK.out.1]; exact hk0)], k, a1, hk0, rfl, h2, HK.out.2.1⟩, HK.out.2.2⟩
      have hs0 := Tk.ec0 s (HK.out.1.trans hk0)
      have hPt := Tk.etz s (by have := hsz; omega)
      have HE2 : Hid (lgP Tk.g Tk.mx Tk.et Tk.ec S a = some (Tk.et s, a1 - 1)) := Lib.hid (by rw [HE.out, if_pos (HK.out.1.trans hk0)])
      obtain ⟨a0, ha0⟩ : ∃ a0 : Nat, (a1 : Int) - 1 = a0 := ⟨a1 - 1, by omega⟩
      have hn0 : a0 + 1 = a1 := by omega
      have q1 : w5.cell? ⟨L, 1, none⟩ = some (.int .i64 (a1 : Int)) := Blk.cell HK.out.2.1 1
      have qf := Blk.frozen HK.out.2.1 1
      have qlt := Blk.lt HK.out.2.1
      have HFIN := Lib.hid (show LgP Tk w L o m S a (.returned (.string (Tk.et s))) (w5.setCell ⟨L, 1, none⟩ (.int .i64 (a0 : Int))) from ⟨.inl ⟨_, a0, by rw [HE2.out, ← hn0]; rfl, rfl, hPt, by omega, by omega, HK.out.2.1.go a0⟩, HK.out.2.2.set ⟨L, 1, none⟩ _ (.inl rfl)⟩)
      clear HK hPt HE2 HE
      go_wp2
      go_ret
      exact HFIN.out

    · rw [decide_eq_false hov] at hC
      have hal : a1 < S.length := by omega
      have hC := Lib.hid hC
      have m0 : wr.cell? ⟨m, 0, none⟩ = some (.string s) := HM.out.cell 0
      have hmlt := HM.out.lt
      go_wp2
      refine region_g [] (S := (fun W => W.cell? ⟨L, 0, none⟩ = some (.string ⟨S.toArray⟩) ∧ W.cell? ⟨L, 1, none⟩ = some (.int .i64 (a1 : Int)))) (by kernel_rfl) ⟨l0, l1⟩ (fun hH => ?_)
      refine g_take (i := 0) (v := .pointer (some ⟨L, 0, none⟩)) (by rfl) (by kernel_rfl) (by kernel_rfl) (by kernel_rfl) (by kernel_rfl) (fun _ _ _ h => (by cases h.1)) (Or.inl ⟨by kernel_rfl, fun W hS => (by obtain ⟨s0, s1⟩ := hS; go_simp)⟩) hH ?_
      simp only [Act.put, List.setIfInBounds_toArray, List.set_cons_zero, List.set_cons_succ]
      refine g_one (i := 1) (by kernel_rfl) (by rfl) (fun K hK => ?_)
      go_simp
      refine hC.out.mono ?_
      rintro e w1 ⟨rfl, rfl⟩
      refine hK.out _ _ (fun _ => ⟨l0, l1⟩) (fun _ => ?_)
      clear hK K
      refine g_take (i := 2) (v := .bool true) (by rfl) (by kernel_rfl) (by kernel_rfl) (by kernel_rfl) (by kernel_rfl) (fun _ _ _ h => (by cases h.1)) (Or.inl ⟨by kernel_rfl, fun W hS => (by obtain ⟨s0, s1⟩ := hS; go_simp)⟩) hH ?_
      simp only [Act.put, List.setIfInBounds_toArray, List.set_cons_zero, List.set_cons_succ]
      refine g_take (i := 3) (v := .bool true) (by rfl) (by kernel_rfl) (by kernel_rfl) (by kernel_rfl) (by kernel_rfl) (fun _ _ _ h => (by cases h.1)) (Or.inl ⟨by kernel_rfl, fun W hS => (by obtain ⟨s0, s1⟩ := hS; go_simp)⟩) hH ?_
      simp only [Act.put, List.setIfInBounds_toArray, List.set_cons_zero, List.set_cons_succ]
      refine g_take (i := 4) (v := .iface Tk.T (.pointer (some ⟨m, 0, none⟩))) (by rfl) (by kernel_rfl) (by kernel_rfl) (by kernel_rfl) (by kernel_rfl) (fun _ _ _ h => (by cases h.1)) (Or.inl ⟨by kernel_rfl, fun W hS => (by obtain ⟨s0, s1⟩ := hS; go_simp)⟩) hH ?_
      simp only [Act.put, List.setIfInBounds_toArray, List.set_cons_zero, List.set_cons_succ]
      refine g_take (i := 5) (v := .pointer (some ⟨L, 0, none⟩)) (by rfl) (by kernel_rfl) (by kernel_rfl) (by kernel_rfl) (by kernel_rfl) (fun _ _ _ h => (by cases h.1)) (Or.inl ⟨by kernel_rfl, fun W hS => (by obtain ⟨s0, s1⟩ := hS; go_simp)⟩) hH ?_
      simp only [Act.put, List.setIfInBounds_toArray, List.set_cons_zero, List.set_cons_succ]
      refine g_take (i := 6) (v := .pointer (some ⟨L, 0, none⟩)) (by rfl) (by kernel_rfl) (by kernel_rfl) (by kernel_rfl) (by kernel_rfl) (fun _ _ _ h => (by cases h.1)) (Or.inl ⟨by kernel_rfl, fun W hS => (by obtain ⟨s0, s1⟩ := hS; go_simp)⟩) hH ?_
      simp only [Act.put, List.setIfInBounds_toArray, List.set_cons_zero, List.set_cons_succ]
      refine g_take (i := 7) (v := .pointer (some ⟨L, 0, none⟩)) (by rfl) (by kernel_rfl) (by kernel_rfl) (by kernel_rfl) (by kernel_rfl) (fun _ _ _ h => (by cases h.1)) (Or.inl ⟨by kernel_rfl, fun W hS => (by obtain ⟨s0, s1⟩ := hS; go_simp)⟩) hH ?_
      simp only [Act.put, List.setIfInBounds_toArray, List.set_cons_zero, List.set_cons_succ]
      refine g_take (i := 8) (v := .string ⟨S.toArray⟩) (by rfl) (by kernel_rfl) (by kernel_rfl) (by kernel_rfl) (by kernel_rfl) (fun _ _ _ h => (by cases h.1)) (Or.inl ⟨by kernel_rfl, fun W hS => (by obtain ⟨s0, s1⟩ := hS; go_simp)⟩) hH ?_
      simp only [Act.put, List.setIfInBounds_toArray, List.set_cons_zero, List.set_cons_succ]
      refine g_take (i := 9) (v := .pointer (some ⟨L, 0, none⟩)) (by rfl) (by kernel_rfl) (by kernel_rfl) (by kernel_rfl) (by kernel_rfl) (fun _ _ _ h => (by cases h.1)) (Or.inl ⟨by kernel_rfl, fun W hS => (by obtain ⟨s0, s1⟩ := hS; go_simp)⟩) hH ?_
      simp only [Act.put, List.setIfInBounds_toArray, List.set_cons_zero, List.set_cons_succ]
      refine g_take (i := 10) (v := .pointer (some ⟨L, 0, none⟩)) (by rfl) (by kernel_rfl) (by kernel_rfl) (by kernel_rfl) (by kernel_rfl) (fun _ _ _ h => (by cases h.1)) (Or.inl ⟨by kernel_rfl, fun W hS => (by obtain ⟨s0, s1⟩ := hS; go_simp)⟩) hH ?_
      simp only [Act.put, List.setIfInBounds_toArray, List.set_cons_zero, List.set_cons_succ]
      refine g_take (i := 11) (v := .pointer (some ⟨L, 1, none⟩)) (by rfl) (by kernel_rfl) (by kernel_rfl) (by kernel_rfl) (by kernel_rfl) (fun _ _ _ h => (by cases h.1)) (Or.inl ⟨by kernel_rfl, fun W hS => (by obtain ⟨s0, s1⟩ := hS; go_simp)⟩) hH ?_
      simp only [Act.put, List.setIfInBounds_toArray, List.set_cons_zero, List.set_cons_succ]
      refine g_take (i := 12) (v := .int .i64 (a1 : Int)) (by rfl) (by kernel_rfl) (by kernel_rfl) (by kernel_rfl) (by kernel_rfl) (fun _ _ _ h => (by cases h.1)) (Or.inl ⟨by kernel_rfl, fun W hS => (by obtain ⟨s0, s1⟩ := hS; go_simp)⟩) hH ?_
      simp only [Act.put, List.setIfInBounds_toArray, List.set_cons_zero, List.set_cons_succ]
      refine g_take (i := 13) (v := .int .u8 (S[a1].toNat : Int)) (by rfl) (by kernel_rfl) (by kernel_rfl) (by kernel_rfl) (by kernel_rfl) (fun _ _ _ h => (by cases h.1)) (Or.inl ⟨by kernel_rfl, fun W hS => (by obtain ⟨s0, s1⟩ := hS; go_simp; rfl)⟩) hH ?_
      simp only [Act.put, List.setIfInBounds_toArray, List.set_cons_zero, List.set_cons_succ]
      refine g_take (i := 14) (v := .func (.method "Goes") #[.iface Tk.T (.pointer (some ⟨m, 0, none⟩))] #[]) (by rfl) (by kernel_rfl) (by kernel_rfl) (by kernel_rfl) (by kernel_rfl) (fun _ _ _ h => (by cases h.1)) (Or.inl ⟨by kernel_rfl, fun W hS => (by obtain ⟨s0, s1⟩ := hS; go_simp)⟩) hH ?_
      simp only [Act.put, List.setIfInBounds_toArray, List.set_cons_zero, List.set_cons_succ]
      refine g_take (i := 15) (v := .func (.method "Goes") #[.iface Tk.T (.pointer (some ⟨m, 0, none⟩))] #[]) (by rfl) (by kernel_rfl) (by kernel_rfl) (by kernel_rfl) (by kernel_rfl) (fun _ _ _ h => (by cases h.1)) (Or.inl ⟨by kernel_rfl, fun W hS => (by obtain ⟨s0, s1⟩ := hS; go_simp; rw [Tk.nG]; rfl)⟩) hH ?_
      simp only [Act.put, List.setIfInBounds_toArray, List.set_cons_zero, List.set_cons_succ]
      refine g_take (i := 16) (v := .iface Tk.T (.pointer (some ⟨m, 0, none⟩))) (by rfl) (by kernel_rfl) (by kernel_rfl) (by kernel_rfl) (by kernel_rfl) (fun _ _ _ h => (by cases h.1)) (Or.inl ⟨by kernel_rfl, fun W hS => (by obtain ⟨s0, s1⟩ := hS; go_simp)⟩) hH ?_
      simp only [Act.put, List.setIfInBounds_toArray, List.set_cons_zero, List.set_cons_succ]
      refine g_one (i := 17) (by kernel_rfl) (by rfl) (fun K hK => ?_)
      go_simp
      rw [Tk.hG]
      simp only [Result.andThen_ok]
      rw [Tk.eG]
      go_simp
      refine (Tk.goes (wr.drewN 2) m s S[a1] m0 hmlt (by have := hsz; omega)).mono ?_
      rintro e w2 ⟨rfl, hb2⟩
      obtain ⟨r, hr⟩ : ∃ r, Tk.g s S[a1] = r := ⟨_, rfl⟩
      rw [hr]
      have HG := Lib.hid hr
      clear hr
      have hLA2 : LAt w2 L o S a1 := Blk.below (w := wr.drewN 2) HLA.out hb2 hlt
      have hM2 : Blk w2 m Tk.E #[.string s] := Blk.below (w := wr.drewN 2) HM.out hb2 hmlt
      have hF2 : Fr3 L m m w w2 := HF.out.trans ((Fr3.of_below (below_drewN (Below.refl _ _) 2)).trans (Fr3.of_below hb2))
      have n0 : w2.cell? ⟨L, 0, none⟩ = some (.string ⟨S.toArray⟩) := Blk.cell hLA2 0
      have n1 : w2.cell? ⟨L, 1, none⟩ = some (.int .i64 (a1 : Int)) := Blk.cell hLA2 1
      have HLAx := Lib.hid hLA2
      have HMx := Lib.hid hM2
      have HFx := Lib.hid hF2
      clear hLA2 hM2 hF2 hb2
      refine hK.out _ _ (fun _ => ⟨n0, n1⟩) (fun _ => ?_)
      clear hK K
      refine g_one (i := 18) (by kernel_rfl) (by rfl) (fun K hK => ?_)
      go_simp
      refine hK.out _ _ (fun _ => ⟨n0, n1⟩) (fun _ => ?_)
      clear hK K
      refine g_done (by kernel_rfl) ⟨by first | rfl | trivial, ?_⟩ _
      have hEn := Tk.fin w2 base m s (HMx.out.cell 0) (HMx.out.frozen 0) HMx.out.lt (by have := hsz; omega) hb.2.2 (hw.below (HFx.out.below hb.2.1 hb.2.2 hb.2.2 hb.1))
      have HEN := Lib.hid hEn
      clear hEn HLA HM HF l0 l1 m0 hmlt hlt
      cases r with
      | false =>
        have HE : Hid (lgP Tk.g Tk.mx Tk.et Tk.ec S a = if Tk.ec s = 0 then some (Tk.et s, a1 - 1) else none) := Lib.hid (by rw [HRR.out, ← HRun.out, List.drop_eq_getElem_cons hal, lgRun, if_neg (by rw [HG.out]; decide), ← h3, Nat.add_comm s.size a]; rfl)
        go_wp2
        try rw [Tk.hE]
        try simp only [Result.andThen_ok]
        try rw [Tk.eE]
        try go_simp
        refine HEN.out.mono ?_
        rintro e w4 ⟨rfl, hb4⟩
        obtain ⟨k, hk⟩ : ∃ k, Tk.ec s = k := ⟨_, rfl⟩
        rw [hk]
        have hLA4 := LAt.below4 HLAx.out HMx.out hLm hb4
        have hF4 := HFx.out.trans (fr3_tok HMx.out hb4)
        have HK := Lib.hid (And.intro hk (And.intro hLA4 hF4))
        clear hk hb4 hLA4 hF4 HEN
        go_wp2_with fail
        refine (must_any _ _ k).mono ?_
        rintro e w5 ⟨⟨hk0, rfl⟩ | ⟨hk0, rfl⟩, rfl⟩
        case inr => exact ⟨rfl, .inr ⟨by rw [HE.out, if_neg (by rw [HK.out.1]; exact hk0)], k, a1, hk0, rfl, h2, HK.out.2.1⟩, HK.out.2.2⟩
        have hs0 := Tk.ec0 s (HK.out.1.trans hk0)
        have hPt := Tk.etz s (by have := hsz; omega)
        have HE2 : Hid (lgP Tk.g Tk.mx Tk.et Tk.ec S a = some (Tk.et s, a1 - 1)) := Lib.hid (by rw [HE.out, if_pos (HK.out.1.trans hk0)])
        obtain ⟨a0, ha0⟩ : ∃ a0 : Nat, (a1 : Int) - 1 = a0 := ⟨a1 - 1, by omega⟩
        have hn0 : a0 + 1 = a1 := by omega
        have q1 : w5.cell? ⟨L, 1, none⟩ = some (.int .i64 (a1 : Int)) := Blk.cell HK.out.2.1 1
        have qf := Blk.frozen HK.out.2.1 1
        have qlt := Blk.lt HK.out.2.1
        have HFIN := Lib.hid (show LgP Tk w L o m S a (.returned (.string (Tk.et s))) (w5.setCell ⟨L, 1, none⟩ (.int .i64 (a0 : Int))) from ⟨.inl ⟨_, a0, by rw [HE2.out, ← hn0]; rfl, rfl, hPt, by omega, by omega, HK.out.2.1.go a0⟩, HK.out.2.2.set ⟨L, 1, none⟩ _ (.inl rfl)⟩)
        clear HK hPt HE2 HE
        go_wp2
        go_ret
        exact HFIN.out

      | true =>
        clear HEN
        go_wp2
        refine region_gp [] (S := (fun W => W.cell? ⟨L, 0, none⟩ = some (.string ⟨S.toArray⟩) ∧ W.cell? ⟨L, 1, none⟩ = some (.int .i64 (a1 : Int)))) (fun c w' => LgP Tk w L o m S a (.panicked c) w') (by kernel_rfl) ⟨n0, n1⟩ (fun c a' w' hd hR => ⟨hd, hR⟩) (fun hH => ?_)
        refine g_take (i := 0) (v := .pointer (some ⟨L, 0, none⟩)) (by rfl) (by kernel_rfl) (by kernel_rfl) (by kernel_rfl) (by kernel_rfl) (fun _ _ _ h => pan_put h) (Or.inl ⟨by kernel_rfl, fun W hS => (by obtain ⟨s0, s1⟩ := hS; go_simp)⟩) hH ?_
        simp only [Act.put, List.setIfInBounds_toArray, List.set_cons_zero, List.set_cons_succ]
        refine g_take (i := 1) (v := .iface Tk.T (.pointer (some ⟨m, 0, none⟩))) (by rfl) (by kernel_rfl) (by kernel_rfl) (by kernel_rfl) (by kernel_rfl) (fun _ _ _ h => pan_put h) (Or.inl ⟨by kernel_rfl, fun W hS => (by obtain ⟨s0, s1⟩ := hS; go_simp)⟩) hH ?_
        simp only [Act.put, List.setIfInBounds_toArray, List.set_cons_zero, List.set_cons_succ]
        refine g_take (i := 2) (v := .pointer (some ⟨L, 0, none⟩)) (by rfl) (by kernel_rfl) (by kernel_rfl) (by kernel_rfl) (by kernel_rfl) (fun _ _ _ h => pan_put h) (Or.inl ⟨by kernel_rfl, fun W hS => (by obtain ⟨s0, s1⟩ := hS; go_simp)⟩) hH ?_
        simp only [Act.put, List.setIfInBounds_toArray, List.set_cons_zero, List.set_cons_succ]
        refine g_take (i := 3) (v := .pointer (some ⟨L, 0, none⟩)) (by rfl) (by kernel_rfl) (by kernel_rfl) (by kernel_rfl) (by kernel_rfl) (fun _ _ _ h => pan_put h) (Or.inl ⟨by kernel_rfl, fun W hS => (by obtain ⟨s0, s1⟩ := hS; go_simp)⟩) hH ?_
        simp only [Act.put, List.setIfInBounds_toArray, List.set_cons_zero, List.set_cons_succ]
        refine g_take (i := 4) (v := .pointer (some ⟨L, 0, none⟩)) (by rfl) (by kernel_rfl) (by kernel_rfl) (by kernel_rfl) (by kernel_rfl) (fun _ _ _ h => pan_put h) (Or.inl ⟨by kernel_rfl, fun W hS => (by obtain ⟨s0, s1⟩ := hS; go_simp)⟩) hH ?_
        simp only [Act.put, List.setIfInBounds_toArray, List.set_cons_zero, List.set_cons_succ]
        refine g_take (i := 5) (v := .string ⟨S.toArray⟩) (by rfl) (by kernel_rfl) (by kernel_rfl) (by kernel_rfl) (by kernel_rfl) (fun _ _ _ h => pan_put h) (Or.inl ⟨by kernel_rfl, fun W hS => (by obtain ⟨s0, s1⟩ := hS; go_simp)⟩) hH ?_
        simp only [Act.put, List.setIfInBounds_toArray, List.set_cons_zero, List.set_cons_succ]
        refine g_take (i := 6) (v := .pointer (some ⟨L, 0, none⟩)) (by rfl) (by kernel_rfl) (by kernel_rfl) (by kernel_rfl) (by kernel_rfl) (fun _ _ _ h => pan_put h) (Or.inl ⟨by kernel_rfl, fun W hS => (by obtain ⟨s0, s1⟩ := hS; go_simp)⟩) hH ?_
        simp only [Act.put, List.setIfInBounds_toArray, List.set_cons_zero, List.set_cons_succ]
        refine g_take (i := 7) (v := .pointer (some ⟨L, 0, none⟩)) (by rfl) (by kernel_rfl) (by kernel_rfl) (by kernel_rfl) (by kernel_rfl) (fun _ _ _ h => pan_put h) (Or.inl ⟨by kernel_rfl, fun W hS => (by obtain ⟨s0, s1⟩ := hS; go_simp)⟩) hH ?_
        simp only [Act.put, List.setIfInBounds_toArray, List.set_cons_zero, List.set_cons_succ]
        refine g_take (i := 8) (v := .pointer (some ⟨L, 1, none⟩)) (by rfl) (by kernel_rfl) (by kernel_rfl) (by kernel_rfl) (by kernel_rfl) (fun _ _ _ h => pan_put h) (Or.inl ⟨by kernel_rfl, fun W hS => (by obtain ⟨s0, s1⟩ := hS; go_simp)⟩) hH ?_
        simp only [Act.put, List.setIfInBounds_toArray, List.set_cons_zero, List.set_cons_succ]
        refine g_take (i := 9) (v := .int .i64 (a1 : Int)) (by rfl) (by kernel_rfl) (by kernel_rfl) (by kernel_rfl) (by kernel_rfl) (fun _ _ _ h => pan_put h) (Or.inl ⟨by kernel_rfl, fun W hS => (by obtain ⟨s0, s1⟩ := hS; go_simp)⟩) hH ?_
        simp only [Act.put, List.setIfInBounds_toArray, List.set_cons_zero, List.set_cons_succ]
        refine g_take (i := 10) (v := .int .u8 (S[a1].toNat : Int)) (by rfl) (by kernel_rfl) (by kernel_rfl) (by kernel_rfl) (by kernel_rfl) (fun _ _ _ h => pan_put h) (Or.inl ⟨by kernel_rfl, fun W hS => (by obtain ⟨s0, s1⟩ := hS; go_simp; rfl)⟩) hH ?_
        simp only [Act.put, List.setIfInBounds_toArray, List.set_cons_zero, List.set_cons_succ]
        refine g_take (i := 11) (v := .func (.method "Add") #[.iface Tk.T (.pointer (some ⟨m, 0, none⟩))] #[]) (by rfl) (by kernel_rfl) (by kernel_rfl) (by kernel_rfl) (by kernel_rfl) (fun _ _ _ h => pan_put h) (Or.inl ⟨by kernel_rfl, fun W hS => (by obtain ⟨s0, s1⟩ := hS; go_simp)⟩) hH ?_
        simp only [Act.put, List.setIfInBounds_toArray, List.set_cons_zero, List.set_cons_succ]
        refine g_take (i := 12) (v := .func (.method "Add") #[.iface Tk.T (.pointer (some ⟨m, 0, none⟩))] #[]) (by rfl) (by kernel_rfl) (by kernel_rfl) (by kernel_rfl) (by kernel_rfl) (fun _ _ _ h => pan_put h) (Or.inl ⟨by kernel_rfl, fun W hS => (by obtain ⟨s0, s1⟩ := hS; go_simp; rw [Tk.nA]; rfl)⟩) hH ?_
        simp only [Act.put, List.setIfInBounds_toArray, List.set_cons_zero, List.set_cons_succ]
        refine g_take (i := 13) (v := .iface Tk.T (.pointer (some ⟨m, 0, none⟩))) (by rfl) (by kernel_rfl) (by kernel_rfl) (by kernel_rfl) (by kernel_rfl) (fun _ _ _ h => pan_put h) (Or.inl ⟨by kernel_rfl, fun W hS => (by obtain ⟨s0, s1⟩ := hS; go_simp)⟩) hH ?_
        simp only [Act.put, List.setIfInBounds_toArray, List.set_cons_zero, List.set_cons_succ]
        refine g_one (i := 14) (by kernel_rfl) (by rfl) (fun K hK => ?_)
        go_simp
        rw [Tk.hA]
        simp only [Result.andThen_ok]
        rw [Tk.eA]
        go_simp
        refine (Tk.add w2.drew m s S[a1] (HMx.out.cell 0) (HMx.out.frozen 0) HMx.out.lt (by have := hsz; omega)).mono ?_
        rintro e w6 (⟨hmx, rfl, rfl⟩ | ⟨rfl, hmx, hb6⟩)
        case inl =>
          refine hK.out _ _ (fun _ => ⟨n0, n1⟩) (fun _ => ?_)
          clear hK K
          refine g_one (i := 15) (by kernel_rfl) (by rfl) (fun K hK => ?_)
          go_simp
          refine (must_any _ _ 4).mono ?_
          rintro e w7 ⟨⟨h40, _⟩ | ⟨_, rfl⟩, rfl⟩
          · cases h40
          · exact .inr ⟨_, rfl, ⟨.inr ⟨by rw [HRR.out, ← HRun.out, List.drop_eq_getElem_cons hal, lgRun, if_pos HG.out, if_pos hmx]; rfl, 4, a1, by decide, rfl, h2, HLAx.out.drew 1⟩, HFx.out.trans (Fr3.of_below (below_drewN (Below.refl _ _) 1))⟩, rfl⟩
        case inr =>
          have hLA6 := LAt.below4 (HLAx.out.drew 1) (w := w2.drew) HMx.out hLm hb6
          have hF6 := HFx.out.trans ((Fr3.of_below (below_drewN (Below.refl _ _) 1)).trans (fr3_tok (w := w2.drew) HMx.out hb6))
          have hM6 : Blk w6 m Tk.E #[.string (s ++ ⟨#[S[a1]]⟩)] := Blk.below (Blk.set_ (w := w2.drew) HMx.out 0 (.string (s ++ ⟨#[S[a1]]⟩))) hb6 (by simpa [World.setCell] using HMx.out.lt)
          have p0 : w6.cell? ⟨L, 0, none⟩ = some (.string ⟨S.toArray⟩) := Blk.cell hLA6 0
          have p1 : w6.cell? ⟨L, 1, none⟩ = some (.int .i64 (a1 : Int)) := Blk.cell hLA6 1
          refine hK.out _ _ (fun _ => ⟨p0, p1⟩) (fun _ => ?_)
          clear hK K
          refine g_one (i := 15) (by kernel_rfl) (by rfl) (fun K hK => ?_)
          go_simp
          refine (must_any _ _ 0).mono ?_
          rintro e w7 ⟨⟨_, rfl⟩ | ⟨h00, _⟩, rfl⟩
          case inr => exact absurd rfl h00
          refine hK.out _ _ (fun _ => ⟨p0, p1⟩) (fun _ => ?_)
          clear hK K
          refine g_done (by kernel_rfl) (.inl ⟨by first | rfl | trivial, ?_⟩) _
          obtain ⟨a2, ha2⟩ : ∃ a2 : Nat, (a1 : Int) + 1 = a2 := ⟨a1 + 1, rfl⟩
          have hn2 : a1 + 1 = a2 := by omega
          have pf := Blk.frozen hLA6 1
          have plt := Blk.lt hLA6
          have HR := Lib.hid (show LAt (w7.setCell ⟨L, 1, none⟩ (.int .i64 (a2 : Int))) L o S a2 ∧ Blk (w7.setCell ⟨L, 1, none⟩ (.int .i64 (a2 : Int))) m Tk.E #[.string (s ++ ⟨#[S[a1]]⟩)] ∧ Fr3 L m m w (w7.setCell ⟨L, 1, none⟩ (.int .i64 (a2 : Int))) from ⟨hLA6.go a2, Blk.far hM6 (p := ⟨L, 1, none⟩) (Ne.symm hLm) _, hF6.set ⟨L, 1, none⟩ _ (.inl rfl)⟩)
          have HRun2 : Hid (lgRun Tk.g Tk.mx (S.drop a2) (s ++ ⟨#[S[a1]]⟩) = R) := Lib.hid (by rw [← hn2, ← HRun.out, List.drop_eq_getElem_cons hal, lgRun, if_pos HG.out, if_neg (by omega)])
          have HA1 := Lib.hid (And.intro hn2 (And.intro HLA0.out.at_ HR.out.1.at_))
          have hsb : (s ++ (⟨#[S[a1]]⟩ : ByteArray)).size = s.size + 1 := ByteArray.size_append
          have HSB := Lib.hid hsb
          clear hLA6 hF6 hM6 hb6 hn2 hsb HLAx HMx HFx
          go_wp2
          go_roundw
          case rel => exact ⟨a2, _, by have := HA1.out.1; omega, by have := HA1.out.1; omega, by have := HA1.out.1; have := HSB.out; omega, HRun2, Lib.hid HR.out.1, Lib.hid HR.out.2.1, Lib.hid HR.out.2.2⟩
          case measure => rw [HA1.out.2.2, HA1.out.2.1]; have := HA1.out.1; omega
end Go.Proofs.YtalkjgijmceifaaGreatDoor

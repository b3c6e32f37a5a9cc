/-
  tree: Build.
-/
import Derived.Test.YtfilonbhcalkoaaGreatDoorTrM20
import Derived.Test.YtfilonbhcalkoaaGreatDoorTrM05
import Derived.Test.YtfilonbhcalkoaaGreatDoorTrM18
namespace Go.Proofs.YtfilonbhcalkoaaGreatDoor
open Go.RowKit Go.Maps
set_option maxRecDepth 100000
set_option linter.unusedSimpArgs false

theorem sizeN_flat (n : Nd) : sizeN n ≤ (flat n).length := by
  induction n using Nd.ind with
  | h k t v kids ih =>
    have key : ∀ l : List Nd, (∀ m ∈ l, sizeN m ≤ (flat m).length) → sizeL l ≤ (flatL l).length := by
      intro l
      induction l with
      | nil => simp [sizeL]
      | cons x l ihl =>
        intro h
        have h1 := h x (by simp)
        have h2 := ihl (fun m hm => h m (List.mem_cons_of_mem _ hm))
        simp only [sizeL, flatL, List.length_append]
        omega
    have := key kids ih
    simp only [sizeN, flat, List.length_cons, List.length_append]
    omega

/-- What Build tells. -/
def MPost (l : List Ev) (w : World) (e : Ending) (w' : World) : Prop :=
  Below w.heap.size w w' ∧ ((wholeE l ≠ 0 ∧ e = .returned (.tuple #[.agg #[.int .i64 0, .string ⟨#[]⟩, .string ⟨#[]⟩, .slice none 0 0], .int .i64 (wholeE l)])) ∨
    ∃ n A c, wholeE l = 0 ∧ shaped n = true ∧ flat n = l ∧ mayN n = 0 ∧ e = .returned (.tuple #[.agg #[.int .i64 n.k, .string n.t, .string n.v, .slice A n.kids.length c], .int .i64 0]) ∧ NAt (Fresh w.heap.size w') w' n A c)

set_option maxHeartbeats 8000000 in
theorem tmake_any (w : World) (v : Value) (l : List Ev) (hv : ERead w v l) (hx : ∀ x ∈ l, okE x) (hw : Nm.StdW w) (hn : l.length ≤ 100000) :
    Calls Tryz.prog 17 #[v] w (MPost l w) := by
  have hal : Below w.heap.size w (w.alloc (.cells #[.int .i64 0, .string ⟨#[]⟩, .string ⟨#[]⟩, .slice none 0 0] 24)) := (Below.refl _ _).alloc (Nat.le_refl _) _
  have hres := Blk.new w 24 #[.int .i64 0, .string ⟨#[]⟩, .string ⟨#[]⟩, .slice none 0 0]
  obtain ⟨W1, hW1⟩ : ∃ W1, w.alloc (.cells #[.int .i64 0, .string ⟨#[]⟩, .string ⟨#[]⟩, .slice none 0 0] 24) = W1 := ⟨_, rfl⟩
  have hs1 : W1.heap.size = w.heap.size + 1 := by rw [← hW1]; simp
  rw [hW1] at hal hres
  have hwh := ewhole_any W1 v l (hv.below hal) hx (hw.below hal) (by omega)
  have hE : (wholeGo 0 [topP] l).2 = wholeE l := rfl
  unfold WEnd at hwh
  rw [hE] at hwh
  generalize (wholeGo 0 [topP] l).1 = N at hwh
  clear hE
  have hlow : wholeE l = 0 → ELow w.heap.size w v l := by
    intro h0
    refine ⟨hv, fun hp => ?_⟩
    obtain ⟨A, c, rfl, _, _, h3⟩ := hv
    obtain ⟨b, o, rfl, hc⟩ := h3 hp
    exact ⟨b, o, _, _, rfl, cell_lt (hc 0 hp).1⟩
  obtain ⟨A, c, rfl, _, _, _⟩ := id hv
  have HLOW := Lib.hid hlow
  have HMP : MPost l = MPost l := rfl
  have HD := Lib.hid (fun h => doc_tree (l := l) h)
  generalize hEE : wholeE l = E at *
  have HE := Lib.hid hEE
  clear hlow hEE hv
  have HX := Lib.hid hx
  clear hx hw HMP
  go_enter Tryz.func17, Tryz.ntmps17
  go_wp2_with fail
  clear hW1
  refine hwh.mono ?_
  rintro e w2 ⟨rfl, hb2⟩
  have hz := hres.below hb2 hres.lt
  have HW2 := Lib.hid (hal.trans (hb2.mono (by omega)))
  have hs2 := hb2.size
  have z0 : w2.frozen? ⟨w.heap.size, 0, none⟩ = false := hz.frozen 0
  have z1 : w2.frozen? ⟨w.heap.size, 1, none⟩ = false := hz.frozen 1
  have z2 : w2.frozen? ⟨w.heap.size, 2, none⟩ = false := hz.frozen 2
  have z3 : w2.frozen? ⟨w.heap.size, 3, none⟩ = false := hz.frozen 3
  have y0 : w2.cell? ⟨w.heap.size, 0, none⟩ = some (.int .i64 0) := hz.cell 0
  have y1 : w2.cell? ⟨w.heap.size, 1, none⟩ = some (.string ⟨#[]⟩) := hz.cell 1
  have y2 : w2.cell? ⟨w.heap.size, 2, none⟩ = some (.string ⟨#[]⟩) := hz.cell 2
  have y3 : w2.cell? ⟨w.heap.size, 3, none⟩ = some (.slice none 0 0) := hz.cell 3
  have zl := hz.lt
  by_cases h0 : E = 0
  case neg =>
    have b1 : (E == 0) = false := ibeq h0
    have b2 : (E != 0) = true := by simp [h0]
    have HZ := Lib.hid hz
    clear hz hres hwh hb2 hal
    go_wp2
    have hz2 := (((HZ.out.set_ 0 (.int .i64 0)).set_ 1 (.string ⟨#[]⟩)).set_ 2 (.string ⟨#[]⟩)).set_ 3 (.slice none 0 0)
    have hh : ∀ i, i ≠ w.heap.size → (((((w2.setCell ⟨w.heap.size, 0, none⟩ (.int .i64 0)).setCell ⟨w.heap.size, 1, none⟩ (.string ⟨#[]⟩)).setCell ⟨w.heap.size, 2, none⟩ (.string ⟨#[]⟩)).setCell ⟨w.heap.size, 3, none⟩ (.slice none 0 0))).heap[i]? = w2.heap[i]? := fun i hi =>
      (Below.heap_setCell _ ⟨w.heap.size, 3, none⟩ _ i hi).trans ((Below.heap_setCell _ ⟨w.heap.size, 2, none⟩ _ i hi).trans ((Below.heap_setCell _ ⟨w.heap.size, 1, none⟩ _ i hi).trans (Below.heap_setCell _ ⟨w.heap.size, 0, none⟩ _ i hi)))
    have hbb : Below w.heap.size w (((((w2.setCell ⟨w.heap.size, 0, none⟩ (.int .i64 0)).setCell ⟨w.heap.size, 1, none⟩ (.string ⟨#[]⟩)).setCell ⟨w.heap.size, 2, none⟩ (.string ⟨#[]⟩)).setCell ⟨w.heap.size, 3, none⟩ (.slice none 0 0))) := ((((HW2.out.setCell (p := ⟨w.heap.size, 0, none⟩) (Nat.le_refl _) _).setCell (p := ⟨w.heap.size, 1, none⟩) (Nat.le_refl _) _).setCell (p := ⟨w.heap.size, 2, none⟩) (Nat.le_refl _) _).setCell (p := ⟨w.heap.size, 3, none⟩) (Nat.le_refl _) _)
    have PO : MPost l w (.returned (.tuple #[.agg #[.int .i64 0, .string ⟨#[]⟩, .string ⟨#[]⟩, .slice none 0 0], .int .i64 E])) (((((w2.setCell ⟨w.heap.size, 0, none⟩ (.int .i64 0)).setCell ⟨w.heap.size, 1, none⟩ (.string ⟨#[]⟩)).setCell ⟨w.heap.size, 2, none⟩ (.string ⟨#[]⟩)).setCell ⟨w.heap.size, 3, none⟩ (.slice none 0 0))) := ⟨hbb, .inl ⟨by rw [HE.out]; exact h0, by rw [HE.out]⟩⟩
    generalize (((((w2.setCell ⟨w.heap.size, 0, none⟩ (.int .i64 0)).setCell ⟨w.heap.size, 1, none⟩ (.string ⟨#[]⟩)).setCell ⟨w.heap.size, 2, none⟩ (.string ⟨#[]⟩)).setCell ⟨w.heap.size, 3, none⟩ (.slice none 0 0))) = WE at *
    have g0 : WE.cell? ⟨w.heap.size, 0, none⟩ = some (.int .i64 0) := hz2.cell 0
    have g1 : WE.cell? ⟨w.heap.size, 1, none⟩ = some (.string ⟨#[]⟩) := hz2.cell 1
    have g2 : WE.cell? ⟨w.heap.size, 2, none⟩ = some (.string ⟨#[]⟩) := hz2.cell 2
    have g3 : WE.cell? ⟨w.heap.size, 3, none⟩ = some (.slice none 0 0) := hz2.cell 3
    refine bodyPost_ret (v := .tuple #[.agg #[.int .i64 0, .string ⟨#[]⟩, .string ⟨#[]⟩, .slice none 0 0], .int .i64 E]) ?_ rfl PO
    simp [results, Tryz.f17, go_sem, g0, g1, g2, g3]
  case pos =>
    subst h0
    obtain ⟨n, hsh, hfl, hmn⟩ := HD.out rfl
    have HLO := (HLOW.out rfl).below (HW2.out) (Nat.le_refl _)
    have HBU := Lib.hid (tbuild_any n hsh w.heap.size [] _ w2 (by omega) (by rw [hfl]; exact fun x h => (HX.out x h).2.2) (by have := sizeN_flat n; rw [hfl] at this; omega) (by rw [hfl, List.append_nil]; exact HLO))
    have HZ := Lib.hid hz
    clear HLO hz hres hwh hb2 hal z0 z1 z2 z3 y0 y1 y2 y3
    go_wp2_with fail
    refine HBU.out.mono ?_
    unfold BPost
    rintro e w3 ⟨A3, c3, A4, c4, rfl, HN, _, hb3⟩
    simp only [List.length_nil]
    have hz := HZ.out.below hb3 HZ.out.lt
    have zl := hz.lt
    have HN3 := Lib.hid HN
    have hs3 := hb3.size
    have HB3 := Lib.hid hb3
    have z0 : w3.frozen? ⟨w.heap.size, 0, none⟩ = false := hz.frozen 0
    have z1 : w3.frozen? ⟨w.heap.size, 1, none⟩ = false := hz.frozen 1
    have z2 : w3.frozen? ⟨w.heap.size, 2, none⟩ = false := hz.frozen 2
    have z3 : w3.frozen? ⟨w.heap.size, 3, none⟩ = false := hz.frozen 3
    have y0 : w3.cell? ⟨w.heap.size, 0, none⟩ = some (.int .i64 0) := hz.cell 0
    have y1 : w3.cell? ⟨w.heap.size, 1, none⟩ = some (.string ⟨#[]⟩) := hz.cell 1
    have y2 : w3.cell? ⟨w.heap.size, 2, none⟩ = some (.string ⟨#[]⟩) := hz.cell 2
    have y3 : w3.cell? ⟨w.heap.size, 3, none⟩ = some (.slice none 0 0) := hz.cell 3
    have HZ3 := Lib.hid hz
    clear HN hb3 HBU HZ hz
    go_wp2
    have hz2 := (((HZ3.out.set_ 0 (.int .i64 n.k)).set_ 1 (.string n.t)).set_ 2 (.string n.v)).set_ 3 (.slice A3 n.kids.length c3)
    have hh : ∀ i, i ≠ w.heap.size → (((((w3.setCell ⟨w.heap.size, 0, none⟩ (.int .i64 n.k)).setCell ⟨w.heap.size, 1, none⟩ (.string n.t)).setCell ⟨w.heap.size, 2, none⟩ (.string n.v)).setCell ⟨w.heap.size, 3, none⟩ (.slice A3 n.kids.length c3))).heap[i]? = w3.heap[i]? := fun i hi =>
      (Below.heap_setCell _ ⟨w.heap.size, 3, none⟩ _ i hi).trans ((Below.heap_setCell _ ⟨w.heap.size, 2, none⟩ _ i hi).trans ((Below.heap_setCell _ ⟨w.heap.size, 1, none⟩ _ i hi).trans (Below.heap_setCell _ ⟨w.heap.size, 0, none⟩ _ i hi)))
    have hbb : Below w.heap.size w (((((w3.setCell ⟨w.heap.size, 0, none⟩ (.int .i64 n.k)).setCell ⟨w.heap.size, 1, none⟩ (.string n.t)).setCell ⟨w.heap.size, 2, none⟩ (.string n.v)).setCell ⟨w.heap.size, 3, none⟩ (.slice A3 n.kids.length c3))) := (((((HW2.out.trans (HB3.out.mono HW2.out.size)).setCell (p := ⟨w.heap.size, 0, none⟩) (Nat.le_refl _) _).setCell (p := ⟨w.heap.size, 1, none⟩) (Nat.le_refl _) _).setCell (p := ⟨w.heap.size, 2, none⟩) (Nat.le_refl _) _).setCell (p := ⟨w.heap.size, 3, none⟩) (Nat.le_refl _) _)
    have hN4 : NAt (Fresh w.heap.size (((((w3.setCell ⟨w.heap.size, 0, none⟩ (.int .i64 n.k)).setCell ⟨w.heap.size, 1, none⟩ (.string n.t)).setCell ⟨w.heap.size, 2, none⟩ (.string n.v)).setCell ⟨w.heap.size, 3, none⟩ (.slice A3 n.kids.length c3)))) (((((w3.setCell ⟨w.heap.size, 0, none⟩ (.int .i64 n.k)).setCell ⟨w.heap.size, 1, none⟩ (.string n.t)).setCell ⟨w.heap.size, 2, none⟩ (.string n.v)).setCell ⟨w.heap.size, 3, none⟩ (.slice A3 n.kids.length c3))) n A3 c3 := (Fresh.hold HN3.out fun i h1 _ => hh i (by omega)).weaken fun b o hs => ⟨by have := hs.1; omega, hs.2⟩
    have hal3 := hz2.alloc (.cells #[.int .i64 n.k, .string n.t, .string n.v, .slice A3 n.kids.length c3] 24)
    have hN5 := Fresh.below hN4 ((Below.refl _ _).alloc (Nat.le_refl _) (.cells #[.int .i64 n.k, .string n.t, .string n.v, .slice A3 n.kids.length c3] 24))
    have hbb5 := hbb.alloc hbb.size (.cells #[.int .i64 n.k, .string n.t, .string n.v, .slice A3 n.kids.length c3] 24)
    have PO : MPost l w (.returned (.tuple #[.agg #[.int .i64 n.k, .string n.t, .string n.v, .slice A3 n.kids.length c3], .int .i64 0])) ((((((w3.setCell ⟨w.heap.size, 0, none⟩ (.int .i64 n.k)).setCell ⟨w.heap.size, 1, none⟩ (.string n.t)).setCell ⟨w.heap.size, 2, none⟩ (.string n.v)).setCell ⟨w.heap.size, 3, none⟩ (.slice A3 n.kids.length c3))).alloc (.cells #[.int .i64 n.k, .string n.t, .string n.v, .slice A3 n.kids.length c3] 24)) :=
      ⟨hbb5, .inr ⟨n, A3, c3, HE.out, hsh, hfl, hmn, rfl, hN5⟩⟩
    clear hN4 hN5 hbb hbb5 hh hz2
    generalize ((((((w3.setCell ⟨w.heap.size, 0, none⟩ (.int .i64 n.k)).setCell ⟨w.heap.size, 1, none⟩ (.string n.t)).setCell ⟨w.heap.size, 2, none⟩ (.string n.v)).setCell ⟨w.heap.size, 3, none⟩ (.slice A3 n.kids.length c3))).alloc (.cells #[.int .i64 n.k, .string n.t, .string n.v, .slice A3 n.kids.length c3] 24)) = WE at *
    have g0 : WE.cell? ⟨w.heap.size, 0, none⟩ = some (.int .i64 n.k) := hal3.cell 0
    have g1 : WE.cell? ⟨w.heap.size, 1, none⟩ = some (.string n.t) := hal3.cell 1
    have g2 : WE.cell? ⟨w.heap.size, 2, none⟩ = some (.string n.v) := hal3.cell 2
    have g3 : WE.cell? ⟨w.heap.size, 3, none⟩ = some (.slice A3 n.kids.length c3) := hal3.cell 3
    refine bodyPost_ret (v := .tuple #[.agg #[.int .i64 n.k, .string n.t, .string n.v, .slice A3 n.kids.length c3], .int .i64 0]) ?_ rfl PO
    simp [results, Tryz.f17, go_sem, g0, g1, g2, g3]
end Go.Proofs.YtfilonbhcalkoaaGreatDoor

/-
  tree: At; what a place selects.
  The law's own examples: lives (12).
  A node that came in, opened.
  The reference's Valid (hexaplaref01): whether a text has characters.
  names: Join of the program.
-/
import Derived.Test.YtfilonbhcalkoaaGreatDoorTrM17
import Derived.Test.YtfilonbhcalkoaaGreatDoorTrM06
import Derived.Test.YtfilonbhcalkoaaGreatDoorTrM21
import Derived.Test.YtfilonbhcalkoaaGreatDoorTrM24
import Derived.Test.YtfilonbhcalkoaaGreatDoorTrM25
import Derived.Test.YtfilonbhcalkoaaGreatDoorTrM05
import Derived.Deep.Slices
import Derived.Deep.Fields
import Derived.SizedLaws
import Derived.OpenShut
import Derived.Test.YtfilonbhcalkoaaGreatDoorTrM10
import Derived.Test.YtfilonbhcalkoaaGreatDoorTrM11
namespace Go.Proofs.YtfilonbhcalkoaaGreatDoor
open Go.RowKit Go.Maps
set_option maxRecDepth 100000

/-- What stands at a place. -/
def atN : Nd → List Int → Option Nd
  | n, [] => some n
  | n, i :: r => if h : 0 ≤ i ∧ i.toNat < n.kids.length then atN (n.kids[i.toNat]) r else none
theorem atN_step (n : Nd) (i : Int) (r : List Int) (h : 0 ≤ i ∧ i.toNat < n.kids.length) : atN n (i :: r) = atN (n.kids[i.toNat]'h.2) r := by simp only [atN]; rw [dif_pos h]
theorem atN_none (n : Nd) (i : Int) (r : List Int) (h : ¬ (0 ≤ i ∧ i.toNat < n.kids.length)) : atN n (i :: r) = none := by simp only [atN]; rw [dif_neg h]

/-- What At tells. -/
def TRes (o : Option Nd) (w : World) (e : Ending) (w' : World) : Prop := match o with
    | some m => ∃ A c, e = .returned (.tuple #[.agg #[.int .i64 m.k, .string m.t, .string m.v, .slice A m.kids.length c], .int .i64 0]) ∧ NAt (Fresh w.heap.size w') w' m A c
    | none => e = .returned (.tuple #[.agg #[.int .i64 0, .string ⟨#[]⟩, .string ⟨#[]⟩, .slice none 0 0], .int .i64 21])
def TPost (o : Option Nd) (w : World) (e : Ending) (w' : World) : Prop := Below w.heap.size w w' ∧ TRes o w e w'
theorem okT_kid {n : Nd} (h : okT n) {j : Nat} (hj : j < n.kids.length) : okT n.kids[j] := h.kids _ (List.getElem_mem hj)

set_option maxHeartbeats 8000000 in
theorem tat_any (n : Nd) (A : Option Addr) (c : Nat) (pv : Value) (place : List Int) (w : World) (hok : okT n) (hA : NAt (fun b _ => b < w.heap.size) w n A c) (hp : IRead w pv place) (hpl : place.length ≤ 4611686018427387904) :
    Calls Tryz.prog 21 #[.agg #[.int .i64 n.k, .string n.t, .string n.v, .slice A n.kids.length c], pv] w (TPost (atN n place) w) := by
  unfold TPost
  obtain ⟨PA, pc, rfl, hpr⟩ := hp
  obtain ⟨W0, hW0⟩ : ∃ W0, (w.alloc (.cells #[.int .i64 n.k, .string n.t, .string n.v, .slice A n.kids.length c] 24)).alloc (.cells #[.int .i64 0, .string ⟨#[]⟩, .string ⟨#[]⟩, .slice none 0 0] 24) = W0 := ⟨_, rfl⟩
  have HB0 := Lib.hid (show Below w.heap.size w W0 by rw [← hW0]; exact ((Below.refl _ _).alloc (Nat.le_refl _) _).alloc (by simp) _)
  have hX : Blk W0 w.heap.size 24 #[.int .i64 n.k, .string n.t, .string n.v, .slice A n.kids.length c] := by rw [← hW0]; exact (Blk.new w _ _).alloc _
  have hY : Blk W0 (w.heap.size + 1) 24 #[.int .i64 0, .string ⟨#[]⟩, .string ⟨#[]⟩, .slice none 0 0] := by
    rw [← hW0]
    have := Blk.new (w.alloc (.cells #[.int .i64 n.k, .string n.t, .string n.v, .slice A n.kids.length c] 24)) 24 #[.int .i64 0, .string ⟨#[]⟩, .string ⟨#[]⟩, .slice none 0 0]
    rw [World.size_alloc] at this
    exact this
  have hs0 : W0.heap.size = w.heap.size + 2 := by rw [← hW0]; simp
  go_enter Tryz.func21, Tryz.ntmps21
  go_wp2
  go_loopw [10] (fun i wr => ∃ (j : Nat) (m : Nd) (A1 : Option Addr) (c1 : Nat), j ≤ place.length ∧ i = .int .i64 (j : Int) ∧ Hid (atN n place = atN m (place.drop j)) ∧ Hid (okT m) ∧ Hid (NAt (fun b _ => b < w.heap.size) wr m A1 c1) ∧ Blk wr w.heap.size 24 #[.int .i64 m.k, .string m.t, .string m.v, .slice A1 m.kids.length c1] ∧ Blk wr (w.heap.size + 1) 24 #[.int .i64 0, .string ⟨#[]⟩, .string ⟨#[]⟩, .slice none 0 0] ∧ Hid (Below w.heap.size w wr)) (fun i _ => place.length - (intOf i).toNat)
  case atStart => exact ⟨0, n, A, c, Nat.zero_le _, rfl, Lib.hid (by rw [List.drop_zero]), Lib.hid hok, Lib.hid (hA.below HB0.out), hX, hY, HB0⟩
  case round =>
    obtain ⟨j, m, A1, c1, hj, rfl, HAt, HOk, HN, bX, bY, HB⟩ := hrel
    clear hX hY hA hok hW0
    by_cases hlt : j < place.length
    case neg =>
      have hje : j = place.length := by omega
      subst hje
      have hd := HAt.out
      rw [List.drop_of_length_le (Nat.le_refl _)] at hd
      have HD := Lib.hid (show atN n place = some m by rw [hd]; rfl)
      have x0 : wr.cell? ⟨w.heap.size, 0, none⟩ = some (.int .i64 m.k) := bX.cell 0
      have x1 : wr.cell? ⟨w.heap.size, 1, none⟩ = some (.string m.t) := bX.cell 1
      have x2 : wr.cell? ⟨w.heap.size, 2, none⟩ = some (.string m.v) := bX.cell 2
      have x3 : wr.cell? ⟨w.heap.size, 3, none⟩ = some (.slice A1 m.kids.length c1) := bX.cell 3
      have hC := tcopy_any m _ A1 c1 wr HOk.out HN.out
      unfold CPost at hC
      have hwl : w.heap.size + 1 < wr.heap.size := bY.lt
      have HBY := Lib.hid bY
      clear hd hpr bX bY
      go_wp2_with fail
      refine hC.mono ?_
      clear hC
      rintro e w5 ⟨A5, c5, rfl, hF5, hb5⟩
      have bb := HBY.out.below hb5 hwl
      have f0 : w5.frozen? ⟨w.heap.size + 1, 0, none⟩ = false := bb.frozen 0
      have f1 : w5.frozen? ⟨w.heap.size + 1, 1, none⟩ = false := bb.frozen 1
      have f2 : w5.frozen? ⟨w.heap.size + 1, 2, none⟩ = false := bb.frozen 2
      have f3 : w5.frozen? ⟨w.heap.size + 1, 3, none⟩ = false := bb.frozen 3
      have d0 : w5.cell? ⟨w.heap.size + 1, 0, none⟩ = some (.int .i64 0) := bb.cell 0
      have d1 : w5.cell? ⟨w.heap.size + 1, 1, none⟩ = some (.string ⟨#[]⟩) := bb.cell 1
      have d2 : w5.cell? ⟨w.heap.size + 1, 2, none⟩ = some (.string ⟨#[]⟩) := bb.cell 2
      have d3 : w5.cell? ⟨w.heap.size + 1, 3, none⟩ = some (.slice none 0 0) := bb.cell 3
      have dl := bb.lt
      go_wp2
      have y := (((bb.set_ 0 (.int .i64 m.k)).set_ 1 (.string m.t)).set_ 2 (.string m.v)).set_ 3 (.slice A5 m.kids.length c5)
      have hN9 := Fresh.set (Fresh.set (Fresh.set (Fresh.set hF5 (p := ⟨w.heap.size + 1, 0, none⟩) (by simp; omega) (.int .i64 m.k)) (p := ⟨w.heap.size + 1, 1, none⟩) (by simp; omega) (.string m.t)) (p := ⟨w.heap.size + 1, 2, none⟩) (by simp; omega) (.string m.v)) (p := ⟨w.heap.size + 1, 3, none⟩) (by simp; omega) (.slice A5 m.kids.length c5)
      have hbw := HB.out.trans (hb5.mono HB.out.size)
      have hb9 := (((hbw.setCell (p := ⟨w.heap.size + 1, 0, none⟩) (by simp) (.int .i64 m.k)).setCell (p := ⟨w.heap.size + 1, 1, none⟩) (by simp) (.string m.t)).setCell (p := ⟨w.heap.size + 1, 2, none⟩) (by simp) (.string m.v)).setCell (p := ⟨w.heap.size + 1, 3, none⟩) (by simp) (.slice A5 m.kids.length c5)
      generalize (((w5.setCell ⟨w.heap.size + 1, 0, none⟩ (.int .i64 m.k)).setCell ⟨w.heap.size + 1, 1, none⟩ (.string m.t)).setCell ⟨w.heap.size + 1, 2, none⟩ (.string m.v)).setCell ⟨w.heap.size + 1, 3, none⟩ (.slice A5 m.kids.length c5) = W at *
      have y0 : W.cell? ⟨w.heap.size + 1, 0, none⟩ = some (.int .i64 m.k) := y.cell 0
      have y1 : W.cell? ⟨w.heap.size + 1, 1, none⟩ = some (.string m.t) := y.cell 1
      have y2 : W.cell? ⟨w.heap.size + 1, 2, none⟩ = some (.string m.v) := y.cell 2
      have y3 : W.cell? ⟨w.heap.size + 1, 3, none⟩ = some (.slice A5 m.kids.length c5) := y.cell 3
      refine bodyPost_ret (v := .tuple #[.agg #[.int .i64 m.k, .string m.t, .string m.v, .slice A5 m.kids.length c5], .int .i64 0]) ?_ rfl ⟨hb9, ?_⟩
      · simp [results, Tryz.f21, go_sem, y0, y1, y2, y3]
      · rw [HD.out]
        exact ⟨A5, c5, rfl, Fresh.lower hN9 (by omega)⟩
    case pos =>
      obtain ⟨pa, rfl, hpc⟩ := hpr (by omega)
      have hpj := (HB.out.cell (cell_lt (hpc j hlt))).trans (hpc j hlt)
      have hd := HAt.out
      rw [List.drop_eq_getElem_cons hlt] at hd
      clear hpc
      generalize place[j] = pi at *
      obtain ⟨hlc, hcm, hkids⟩ := (NAt.def_ _ _ _).1 HN.out
      have hcm2 : c1 ≤ 9223372036854775807 := by simpa [maxLen] using hcm
      have x3 : wr.cell? ⟨w.heap.size, 3, none⟩ = some (.slice A1 m.kids.length c1) := bX.cell 3
      by_cases hin : 0 ≤ pi ∧ pi.toNat < m.kids.length
      case neg =>
        have HD := Lib.hid (show atN n place = none by rw [hd, atN_none _ _ _ hin])
        have f0 : wr.frozen? ⟨w.heap.size + 1, 0, none⟩ = false := bY.frozen 0
        have f1 : wr.frozen? ⟨w.heap.size + 1, 1, none⟩ = false := bY.frozen 1
        have f2 : wr.frozen? ⟨w.heap.size + 1, 2, none⟩ = false := bY.frozen 2
        have f3 : wr.frozen? ⟨w.heap.size + 1, 3, none⟩ = false := bY.frozen 3
        have d0 : wr.cell? ⟨w.heap.size + 1, 0, none⟩ = some (.int .i64 0) := bY.cell 0
        have d1 : wr.cell? ⟨w.heap.size + 1, 1, none⟩ = some (.string ⟨#[]⟩) := bY.cell 1
        have d2 : wr.cell? ⟨w.heap.size + 1, 2, none⟩ = some (.string ⟨#[]⟩) := bY.cell 2
        have d3 : wr.cell? ⟨w.heap.size + 1, 3, none⟩ = some (.slice none 0 0) := bY.cell 3
        have dl := bY.lt
        have fin : ∀ W, W = (((wr.setCell ⟨w.heap.size + 1, 0, none⟩ (.int .i64 0)).setCell ⟨w.heap.size + 1, 1, none⟩ (.string ⟨#[]⟩)).setCell ⟨w.heap.size + 1, 2, none⟩ (.string ⟨#[]⟩)).setCell ⟨w.heap.size + 1, 3, none⟩ (.slice none 0 0) → W.cell? ⟨w.heap.size + 1, 0, none⟩ = some (.int .i64 0) ∧ W.cell? ⟨w.heap.size + 1, 1, none⟩ = some (.string ⟨#[]⟩) ∧ W.cell? ⟨w.heap.size + 1, 2, none⟩ = some (.string ⟨#[]⟩) ∧ W.cell? ⟨w.heap.size + 1, 3, none⟩ = some (.slice none 0 0) ∧ Below w.heap.size w W := fun W e => by
          subst e
          have y := (((bY.set_ 0 (.int .i64 0)).set_ 1 (.string ⟨#[]⟩)).set_ 2 (.string ⟨#[]⟩)).set_ 3 (.slice none 0 0)
          exact ⟨y.cell 0, y.cell 1, y.cell 2, y.cell 3, (((HB.out.setCell (p := ⟨w.heap.size + 1, 0, none⟩) (by simp) _).setCell (p := ⟨w.heap.size + 1, 1, none⟩) (by simp) _).setCell (p := ⟨w.heap.size + 1, 2, none⟩) (by simp) _).setCell (p := ⟨w.heap.size + 1, 3, none⟩) (by simp) _⟩
        have hfin := Lib.hid fin
        clear fin
        by_cases hn : pi < 0
        case' pos => clear hd hkids hin
        case' neg =>
          have hge : (m.kids.length : Int) ≤ pi := by omega
          clear hd hkids hin
        all_goals
          go_wp2
          obtain ⟨y0, y1, y2, y3, hb9⟩ := hfin.out _ rfl
          generalize (((wr.setCell ⟨w.heap.size + 1, 0, none⟩ (.int .i64 0)).setCell ⟨w.heap.size + 1, 1, none⟩ (.string ⟨#[]⟩)).setCell ⟨w.heap.size + 1, 2, none⟩ (.string ⟨#[]⟩)).setCell ⟨w.heap.size + 1, 3, none⟩ (.slice none 0 0) = W at *
          refine bodyPost_ret (v := .tuple #[.agg #[.int .i64 0, .string ⟨#[]⟩, .string ⟨#[]⟩, .slice none 0 0], .int .i64 21]) ?_ rfl ⟨hb9, ?_⟩
          · simp [results, Tryz.f21, go_sem, y0, y1, y2, y3]
          · rw [HD.out]; rfl
      case pos =>
        obtain ⟨hi0, hi1⟩ := hin
        obtain ⟨q, rfl⟩ : ∃ q : Nat, pi = q := ⟨pi.toNat, by omega⟩
        rw [Int.toNat_natCast] at hi1
        obtain ⟨b, o, rfl, hbb, hkid⟩ := hkids (by omega)
        obtain ⟨B, cB, q0, q1, q2, q3, hnk⟩ := hkid q hi1
        have hst := atN_step m q (place.drop (j + 1)) ⟨by omega, by rw [Int.toNat_natCast]; exact hi1⟩
        simp only [Int.toNat_natCast] at hst
        rw [hst] at hd
        have HD := Lib.hid hd
        have HO2 := Lib.hid (okT_kid HOk.out hi1)
        clear hkid hkids hst hd HAt HOk HN
        generalize m.kids[q] = kd at *
        have hqi : (q : Int) < m.kids.length := by omega
        have hqn : ¬ (q : Int) < 0 := by omega
        have hqc : q < c1 := by omega
        have hbne : b ≠ w.heap.size := by omega
        have f0 : wr.frozen? ⟨w.heap.size, 0, none⟩ = false := bX.frozen 0
        have f1 : wr.frozen? ⟨w.heap.size, 1, none⟩ = false := bX.frozen 1
        have f2 : wr.frozen? ⟨w.heap.size, 2, none⟩ = false := bX.frozen 2
        have f3 : wr.frozen? ⟨w.heap.size, 3, none⟩ = false := bX.frozen 3
        have d0 : wr.cell? ⟨w.heap.size, 0, none⟩ = some (.int .i64 m.k) := bX.cell 0
        have d1 : wr.cell? ⟨w.heap.size, 1, none⟩ = some (.string m.t) := bX.cell 1
        have d2 : wr.cell? ⟨w.heap.size, 2, none⟩ = some (.string m.v) := bX.cell 2
        have dl := bX.lt
        have HX := Lib.hid bX
        have HY := Lib.hid bY
        have HNk := Lib.hid hnk
        clear bX bY hnk
        go_wp2
        go_roundw
        case rel =>
          have n1 : NAt (fun b _ => b < w.heap.size) ((((wr.setCell ⟨w.heap.size, 0, none⟩ (.int .i64 kd.k)).setCell ⟨w.heap.size, 1, none⟩ (.string kd.t)).setCell ⟨w.heap.size, 2, none⟩ (.string kd.v)).setCell ⟨w.heap.size, 3, none⟩ (.slice B kd.kids.length cB)) kd B cB := by
            refine HNk.out.low fun i hi => ?_
            exact ((((Below.refl w.heap.size wr).setCell (p := ⟨w.heap.size, 0, none⟩) (Nat.le_refl _) (.int .i64 kd.k)).setCell (p := ⟨w.heap.size, 1, none⟩) (Nat.le_refl _) (.string kd.t)).setCell (p := ⟨w.heap.size, 2, none⟩) (Nat.le_refl _) (.string kd.v)).setCell (p := ⟨w.heap.size, 3, none⟩) (Nat.le_refl _) (.slice B kd.kids.length cB) |>.block i hi
          exact ⟨j + 1, kd, B, cB, hlt, by go_num, HD, HO2, Lib.hid n1, (((HX.out.set_ 0 (.int .i64 kd.k)).set_ 1 (.string kd.t)).set_ 2 (.string kd.v)).set_ 3 (.slice B kd.kids.length cB), ((((HY.out.far (p := ⟨w.heap.size, 0, none⟩) (by simp) _).far (p := ⟨w.heap.size, 1, none⟩) (by simp) _).far (p := ⟨w.heap.size, 2, none⟩) (by simp) _).far (p := ⟨w.heap.size, 3, none⟩) (by simp) _), Lib.hid ((((HB.out.setCell (p := ⟨w.heap.size, 0, none⟩) (Nat.le_refl _) _).setCell (p := ⟨w.heap.size, 1, none⟩) (Nat.le_refl _) _).setCell (p := ⟨w.heap.size, 2, none⟩) (Nat.le_refl _) _).setCell (p := ⟨w.heap.size, 3, none⟩) (Nat.le_refl _) _)⟩
        case measure => first | (simp [intOf]; done) | (simp [intOf]; omega)
end Go.Proofs.YtfilonbhcalkoaaGreatDoor
namespace Go.Proofs.YtfilonbhcalkoaaGreatDoor
open Go.RowKit Go.Maps
set_option maxRecDepth 100000
set_option linter.unusedSimpArgs false

def liveK : Nd := .mk 1 ⟨#[]⟩ ⟨#[]⟩ []
def liveN : Nd := .mk 7 ⟨#[]⟩ ⟨#[]⟩ [.mk 8 ⟨#[97]⟩ ⟨#[]⟩ [liveK]]
def liveE : List Ev := [⟨7, ⟨#[]⟩, ⟨#[]⟩⟩, ⟨8, ⟨#[97]⟩, ⟨#[]⟩⟩, ⟨1, ⟨#[]⟩, ⟨#[]⟩⟩, ⟨9, ⟨#[]⟩, ⟨#[]⟩⟩]
theorem live_flat : flat liveN = liveE := rfl
theorem live_shaped : shaped liveN = true := by decide
theorem live_may : mayN liveN = 0 := by decide
theorem live_whole : wholeE liveE = 0 := by decide
theorem live_at : atN liveN [0, 0] = some liveK := by
  rw [atN_step _ _ _ (by decide), atN_step _ _ _ (by decide)]
  rfl
theorem live_vis : (visN liveN).length ≤ 1000000000000 := by decide
theorem live_key : mayN (.mk 8 ⟨#[]⟩ ⟨#[]⟩ []) = 19 := by decide
theorem live_ok : okT liveN := by simp [liveN, liveK, okT, okTL, okN, Nd.k, Nd.t, Nd.v, ByteArray.size]

/-- Build, of the example. -/
theorem live_make (w : World) (v : Value) (hv : ERead w v liveE) (hw : Nm.StdW w) : Calls Tryz.prog 17 #[v] w fun e w' => ∃ A c, e = .returned (.tuple #[.agg #[.int .i64 7, .string ⟨#[]⟩, .string ⟨#[]⟩, .slice A 1 c], .int .i64 0]) ∧ NAt (fun b _ => b < w'.heap.size) w' liveN A c ∧ Below w.heap.size w w' := by
  refine (tmake_any w v liveE hv (by intro x hx; simp only [liveE, List.mem_cons, List.not_mem_nil, or_false] at hx; rcases hx with rfl | rfl | rfl | rfl <;> simp [okE, ByteArray.size]) hw (by decide)).mono ?_
  rintro e w' ⟨hb, ⟨h0, _⟩ | ⟨n, A, c, _, hs, hf, _, rfl, hN⟩⟩
  · exact absurd live_whole h0
  · obtain rfl : n = liveN := flat_same hs live_shaped (hf.trans live_flat.symm)
    exact ⟨A, c, rfl, hN.lt.weaken fun b o h => h.2, hb⟩
theorem live_there (w : World) (A : Option Addr) (c : Nat) (pv : Value) (hA : NAt (fun b _ => b < w.heap.size) w liveN A c) (hp : IRead w pv [0, 0]) : Calls Tryz.prog 21 #[.agg #[.int .i64 7, .string ⟨#[]⟩, .string ⟨#[]⟩, .slice A 1 c], pv] w fun e w' =>
    ∃ A' c', e = .returned (.tuple #[.agg #[.int .i64 1, .string ⟨#[]⟩, .string ⟨#[]⟩, .slice A' 0 c'], .int .i64 0]) ∧ Below w.heap.size w w' := by
  refine (tat_any liveN A c pv [0, 0] w live_ok hA hp (by decide)).mono ?_
  rintro e w' ⟨hb, hr⟩
  rw [live_at] at hr
  obtain ⟨A', c', rfl, _⟩ := hr
  exact ⟨A', c', rfl, hb⟩
theorem live_walk (w : World) (A : Option Addr) (c : Nat) (hA : NAt (fun b _ => b < w.heap.size) w liveN A c) (hw : Nm.StdW w) : Calls Tryz.prog 13 #[.agg #[.int .i64 7, .string ⟨#[]⟩, .string ⟨#[]⟩, .slice A 1 c]] w fun e w' =>
    ∃ A' c', e = .returned (.tuple #[.slice A' 4 c', .int .i64 0]) ∧ Below w.heap.size w w' := by
  refine (twalkall_any liveN A c w 7 _ _ 1 ⟨rfl, rfl, rfl, rfl⟩ live_ok live_vis hA hw).mono ?_
  rintro e w' ⟨lv, rfl, hb, _, hr⟩
  have hr := hr live_may
  rw [live_may]
  rcases (show w'.ownsRow w.heap.size _ 3 lv 4 (evcs (flat liveN)) from hr).2 with ⟨_, h0⟩ | ⟨g, cap, cur, rfl, _⟩
  · exact absurd h0 (by decide)
  · exact ⟨_, _, rfl, hb⟩
theorem live_may8 (w : World) (hw : Nm.StdW w) : Calls Tryz.prog 16 #[.agg #[.int .i64 8, .string ⟨#[]⟩, .string ⟨#[]⟩, .slice none 0 0]] w fun e w' => e = .returned (.int .i64 19) ∧ Below w.heap.size w w' := by
  refine (tmay_any (.mk 8 ⟨#[]⟩ ⟨#[]⟩ []) none 0 w 8 _ _ 0 ⟨rfl, rfl, rfl, rfl⟩ (by simp [okT, okTL, okN, Nd.k, Nd.t, Nd.v, ByteArray.size]) (NAt.leaf _ _ _ _ _ _) hw).mono ?_
  rintro e w' ⟨rfl, hb⟩
  rw [live_key]
  exact ⟨rfl, hb⟩

theorem live_read (w : World) : ERead (w.alloc (.cells #[.int .i64 7, .string ⟨#[]⟩, .string ⟨#[]⟩, .int .i64 8, .string ⟨#[97]⟩, .string ⟨#[]⟩, .int .i64 1, .string ⟨#[]⟩, .string ⟨#[]⟩, .int .i64 9, .string ⟨#[]⟩, .string ⟨#[]⟩] 44)) (.slice (some ⟨w.heap.size, 0, none⟩) 4 4) liveE := by
  have hB := Blk.new w 44 #[.int .i64 7, .string ⟨#[]⟩, .string ⟨#[]⟩, .int .i64 8, .string ⟨#[97]⟩, .string ⟨#[]⟩, .int .i64 1, .string ⟨#[]⟩, .string ⟨#[]⟩, .int .i64 9, .string ⟨#[]⟩, .string ⟨#[]⟩]
  refine ⟨_, 4, rfl, by decide, by decide, fun _ => ⟨w.heap.size, 0, rfl, fun j hj => ?_⟩⟩
  match j, hj with
  | 0, _ => exact ⟨hB.cell 0, hB.cell 1, hB.cell 2⟩
  | 1, _ => exact ⟨hB.cell 3, hB.cell 4, hB.cell 5⟩
  | 2, _ => exact ⟨hB.cell 6, hB.cell 7, hB.cell 8⟩
  | 3, _ => exact ⟨hB.cell 9, hB.cell 10, hB.cell 11⟩
theorem live_place (w : World) (t : TypeId) : IRead (w.alloc (.cells #[.int .i64 0, .int .i64 0] t)) (.slice (some ⟨w.heap.size, 0, none⟩) 2 2) [0, 0] := by
  have hB := Blk.new w t #[.int .i64 0, .int .i64 0]
  refine ⟨_, 2, rfl, fun _ => ⟨_, rfl, fun j hj => ?_⟩⟩
  rw [addr_add0]
  match j, hj with
  | 0, _ => exact hB.cell 0
  | 1, _ => exact hB.cell 1
/-- What lies in a world, lies in a later one. -/
theorem NAt.up {w w' : World} {n : Nd} {A : Option Addr} {c : Nat} (h : NAt (fun b _ => b < w.heap.size) w n A c) (hb : Below w.heap.size w w') : NAt (fun b _ => b < w'.heap.size) w' n A c := (h.below hb).lt.weaken fun _ _ hs => hs.2

set_option maxHeartbeats 8000000 in
theorem tlives_any (w : World) (hw : Nm.StdW w) : Calls Tryz.prog 12 #[] w fun e w' => e = .returned (.bool true) ∧ Below w.heap.size w w' := by
  have hR := live_read w
  have hal := (Below.refl w.heap.size w).alloc (Nat.le_refl _) (.cells #[.int .i64 7, .string ⟨#[]⟩, .string ⟨#[]⟩, .int .i64 8, .string ⟨#[97]⟩, .string ⟨#[]⟩, .int .i64 1, .string ⟨#[]⟩, .string ⟨#[]⟩, .int .i64 9, .string ⟨#[]⟩, .string ⟨#[]⟩] 44)
  have HM := Lib.hid (live_make _ _ hR (hw.below hal))
  have HB := Lib.hid hal
  clear hR hal
  go_enter Tryz.func12, Tryz.ntmps12
  go_wp2_with fail
  refine HM.out.mono ?_
  clear HM
  rintro e w1 ⟨A, c, rfl, hN, hb1⟩
  have HW1 := Lib.hid (HB.out.trans (hb1.mono HB.out.size))
  have HN1 := Lib.hid hN
  have hs1 := HW1.out.size
  clear hN hb1 HB
  have bX := Blk.new w1 24 #[.int .i64 7, .string ⟨#[]⟩, .string ⟨#[]⟩, .slice A 1 c]
  have al1 := (Below.refl w1.heap.size w1).alloc (Nat.le_refl _) (.cells #[.int .i64 7, .string ⟨#[]⟩, .string ⟨#[]⟩, .slice A 1 c] 24)
  have al2 := al1.alloc (by simp) (.cells #[.int .i64 0, .int .i64 0] 3)
  have hpl := live_place (w1.alloc (.cells #[.int .i64 7, .string ⟨#[]⟩, .string ⟨#[]⟩, .slice A 1 c] 24)) 3
  rw [World.size_alloc] at hpl
  have HT := Lib.hid (live_there _ A c _ (NAt.up HN1.out al2) hpl)
  have HA2 := Lib.hid al2
  have bX1 := bX.alloc (.cells #[.int .i64 0, .int .i64 0] 3)
  have HX1 := Lib.hid bX1
  clear hpl al1 al2 bX bX1
  go_wp2_with fail
  refine HT.out.mono ?_
  clear HT
  rintro e w2 ⟨A2, c2, rfl, hb2⟩
  have hX2 := HX1.out.below hb2 HX1.out.lt
  have HW2 := Lib.hid (HW1.out.trans ((HA2.out.trans (hb2.mono HA2.out.size)).mono hs1))
  have HN2 := Lib.hid (NAt.up HN1.out (HA2.out.trans (hb2.mono HA2.out.size)))
  have x2l := hX2.lt
  obtain ⟨g1, hg1⟩ : ∃ g1, w1.heap.size = g1 := ⟨_, rfl⟩
  rw [hg1] at hX2 x2l ⊢
  clear hg1 hb2 HX1 HA2 HN1 HW1 hs1
  have hs2 := HW2.out.size
  have al3 := (Below.refl w2.heap.size w2).alloc (Nat.le_refl _) (.cells #[.int .i64 1, .string ⟨#[]⟩, .string ⟨#[]⟩, .slice A2 0 c2] 24)
  have HV := Lib.hid (live_walk _ A c (NAt.up HN2.out al3) (hw.below (HW2.out.trans (al3.mono hs2))))
  have x0 : w2.cell? ⟨g1, 0, none⟩ = some (.int .i64 7) := hX2.cell 0
  have x1 : w2.cell? ⟨g1, 1, none⟩ = some (.string ⟨#[]⟩) := hX2.cell 1
  have x2 : w2.cell? ⟨g1, 2, none⟩ = some (.string ⟨#[]⟩) := hX2.cell 2
  have x3 : w2.cell? ⟨g1, 3, none⟩ = some (.slice A 1 c) := hX2.cell 3
  have HX3 := Lib.hid (hX2.alloc (.cells #[.int .i64 1, .string ⟨#[]⟩, .string ⟨#[]⟩, .slice A2 0 c2] 24))
  have HY3 := Lib.hid (Blk.new w2 24 #[.int .i64 1, .string ⟨#[]⟩, .string ⟨#[]⟩, .slice A2 0 c2])
  have HA3 := Lib.hid al3
  clear hX2 al3
  go_wp2_with fail
  refine HV.out.mono ?_
  clear HV
  rintro e w3 ⟨A3, c3, rfl, hb3⟩
  have hX4 := HX3.out.below hb3 HX3.out.lt
  have hY4 := HY3.out.below hb3 HY3.out.lt
  have HW3 := Lib.hid (HW2.out.trans ((HA3.out.trans (hb3.mono HA3.out.size)).mono hs2))
  have HN3 := Lib.hid (NAt.up HN2.out (HA3.out.trans (hb3.mono HA3.out.size)))
  have x4l := hX4.lt
  have y4l := hY4.lt
  obtain ⟨g2, hg2⟩ : ∃ g2, w2.heap.size = g2 := ⟨_, rfl⟩
  rw [hg2] at hY4 y4l ⊢
  clear hg2 hb3 HX3 HY3 HA3 HN2 HW2 hs2 x0 x1 x2 x3 x2l
  have x0 : w3.cell? ⟨g1, 0, none⟩ = some (.int .i64 7) := hX4.cell 0
  have y0 : w3.cell? ⟨g2, 0, none⟩ = some (.int .i64 1) := hY4.cell 0
  have HX4 := Lib.hid hX4
  have hs3 := HW3.out.size
  clear hX4 hY4
  go_wp2_with fail
  refine (live_may8 _ (hw.below HW3.out)).mono ?_
  rintro e w4 ⟨rfl, hb4⟩
  have hX5 := HX4.out.below hb4 HX4.out.lt
  have HW4 := Lib.hid (HW3.out.trans (hb4.mono hs3))
  have HN4 := Lib.hid (NAt.up HN3.out hb4)
  have x0 : w4.cell? ⟨g1, 0, none⟩ = some (.int .i64 7) := hX5.cell 0
  have x1 : w4.cell? ⟨g1, 1, none⟩ = some (.string ⟨#[]⟩) := hX5.cell 1
  have x2 : w4.cell? ⟨g1, 2, none⟩ = some (.string ⟨#[]⟩) := hX5.cell 2
  have x3 : w4.cell? ⟨g1, 3, none⟩ = some (.slice A 1 c) := hX5.cell 3
  have hs4 := HW4.out.size
  have HS := Lib.hid (tsame_any liveN liveN _ _ A A c c w4 HN4.out HN4.out)
  clear hX5 hb4 HX4 HW3 HN3 x4l
  go_wp2_with fail
  refine HS.out.mono ?_
  rintro e w5 ⟨rfl, hb5⟩
  have hss : sameN liveN liveN = true := by decide
  rw [hss]
  have HW5 := Lib.hid (HW4.out.trans (hb5.mono hs4))
  clear hss hb5 HS
  go_wp2
  go_ret
  exact ⟨rfl, HW5.out⟩
end Go.Proofs.YtfilonbhcalkoaaGreatDoor
namespace Go.Proofs.YtfilonbhcalkoaaGreatDoor
open Go.RowKit Go.ChangeShapes Go.WideShapes Go.Deep
set_option maxRecDepth 100000

mutual
/-- The kinds are numbers of the machine, the texts of a bounded size. -/
def okW (R : Nat) : Nd → Prop
  | .mk k t v kids => (-9223372036854775808 ≤ k ∧ k ≤ 9223372036854775807 ∧ t.size ≤ R ∧ v.size ≤ R) ∧ okWL R kids
def okWL (R : Nat) : List Nd → Prop
  | [] => True
  | n :: r => okW R n ∧ okWL R r
end
theorem okWL_mem {R : Nat} : ∀ {l : List Nd}, okWL R l ↔ ∀ n ∈ l, okW R n
  | [] => by simp [okWL]
  | n :: r => by simp only [okWL, okWL_mem (l := r), List.mem_cons, forall_eq_or_imp]
instance : Inhabited Nd := ⟨.mk 0 ⟨#[]⟩ ⟨#[]⟩ []⟩
theorem weightsAll_in {H : Type} {P : Program} {e : TypeId} : ∀ {l : List (DataW H)} {d : DataW H}, d ∈ l → ∀ n ∈ d.weights P e, n ∈ DataW.weightsAll P e l
  | x :: r, d, hd, n, hn => by
    simp only [DataW.weightsAll, List.mem_append]
    rcases List.mem_cons.1 hd with rfl | h
    · exact Or.inl hn
    · exact Or.inr (weightsAll_in h n hn)
theorem addr_addW (b o n : Nat) : (⟨b, o, none⟩ : Addr).add n = ⟨b, o + n, none⟩ := by unfold Addr.add; split <;> simp_all

set_option maxHeartbeats 4000000 in
theorem open_node {H : Type} {enc : TypeId × Value → H} {w : World} {base : Nat} {spare : Nat → Bool} {held : Bool} : ∀ (N n : Nat) (cs : List Value) (x : DataW H × List MemPlace), SizeOf.sizeOf x.1 < N →
    DataW.trod enc Tryz.prog w base spare held n 24 cs = some x → ∃ (nd : Nd) (A : Option Addr) (c : Nat), cs = [.int .i64 nd.k, .string nd.t, .string nd.v, .slice A nd.kids.length c] ∧ NAt (fun b _ => b < w.heap.size) w nd A c ∧
      ∀ R, (∀ k ∈ x.1.weights Tryz.prog 24, k ≤ R) → okW R nd
  | 0, _, _, _, h, _ => absurd h (Nat.not_lt_zero _)
  | N + 1, n, cs, x, hN, h => by
    obtain ⟨ys, m, _, hy, hl, hyl, hf⟩ := DataW.trod_struct Tryz.underlying24 h
    have hC : Tryz.prog.cellsOf 24 = 4 := by kernel_rfl
    have hi : Tryz.prog.cellsOf 3 = 1 := by kernel_rfl
    have hs : Tryz.prog.cellsOf 9 = 1 := by kernel_rfl
    have hk : Tryz.prog.cellsOf 22 = 1 := by kernel_rfl
    rw [hC] at hl
    match cs, hl with
    | [c0, c1, c2, c3], _ =>
      match ys, hyl with
      | [y0, y1, y2, y3], _ =>
        have f0 := hf 0 _ rfl
        have f1 := hf 1 _ rfl
        have f2 := hf 2 _ rfl
        have f3 := hf 3 _ rfl
        simp [hi, hs, hk] at f0 f1 f2 f3
        obtain ⟨a, ha, e0, hw⟩ := DataW.trod_int Tryz.underlying3 f0
        obtain ⟨b, hb, e1, _⟩ := DataW.trod_string Tryz.underlying9 f1
        obtain ⟨c, hc, e2, _⟩ := DataW.trod_string Tryz.underlying9 f2
        cases ha
        cases hb
        cases hc
        simp [Lit.wf, IntKind.min, IntKind.max, IntKind.signed, IntKind.bits] at hw
        have hW : ∀ R, (∀ k ∈ x.1.weights Tryz.prog 24, k ≤ R) → b.size ≤ R ∧ c.size ≤ R ∧ ∀ k ∈ y3.1.weights Tryz.prog 22, k ≤ R := by
          intro R hR
          rw [hy] at hR
          simp [DataW.weights, DataW.weightsEach, Tryz.underlying24, e0, e1, e2] at hR
          exact hR
        rcases open_slice Tryz.underlying22 f3 with ⟨hcs, hx3⟩ | ⟨ad, len, cap, mm, kk, D, Pl, hcs, hbb, hl, hm, hmm, hx, hi⟩
        · cases hcs
          exact ⟨.mk a b c [], none, 0, rfl, NAt.leaf _ _ _ _ _ _, fun R hR => by
            obtain ⟨h1, h2, _⟩ := hW R hR
            simp only [okW, okWL]
            exact ⟨⟨by omega, by omega, h1, h2⟩, trivial⟩⟩
        · cases hcs
          have hlm : len ≤ mm := by rw [hmm]; split <;> omega
          have hsz : ∀ i, i < len → SizeOf.sizeOf (D i) < N := fun i hi => by
            have h1 : D i ∈ (List.range len).map D := List.mem_map.2 ⟨i, List.mem_range.2 hi, rfl⟩
            have h2 := List.sizeOf_lt_of_mem h1
            have h3 : SizeOf.sizeOf y3.1 < SizeOf.sizeOf x.1 := by
              rw [hy]
              simp
              omega
            rw [hx] at h3
            simp at h3
            omega
          obtain ⟨V, hV⟩ := choose_lt (α := Nd × Option Addr × Nat) (n := len) (p := fun i q => (∀ j u, [Value.int .i64 q.1.k, .string q.1.t, .string q.1.v, .slice q.2.1 q.1.kids.length q.2.2][j]? = some u → w.cell? ((ad.add (i * 4)).add j) = some u) ∧ NAt (fun b _ => b < w.heap.size) w q.1 q.2.1 q.2.2 ∧ ∀ R, (∀ k ∈ (D i).weights Tryz.prog 24, k ≤ R) → okW R q.1) (fun i him => by
            obtain ⟨cs', h1, h2⟩ := hi i (by omega)
            rw [hC] at h1
            obtain ⟨_, hlen, hc⟩ := World.cells?_some h1
            obtain ⟨nd, A, c', rfl, hN', hR'⟩ := open_node N kk cs' (D i, Pl i) (hsz i him) h2
            refine ⟨(nd, A, c'), fun j u hu => ?_, hN', hR'⟩
            have hj : j < 4 := by
              have := (List.getElem?_eq_some_iff.1 hu).1
              simpa using this
            rw [hc j hj, hu])
          refine ⟨.mk a b c ((List.range len).map fun i => (V i).1), some ad, cap, by simp [Nd.k, Nd.t, Nd.v, Nd.kids], ?_, fun R hR => ?_⟩
          · rw [NAt.def_]
            simp only [Nd.kids, List.length_map, List.length_range]
            refine ⟨hl, hm, fun hp => ?_⟩
            have h0 := (hV 0 hp).1 0 _ rfl
            have hs' := World.cell?_spot h0
            obtain ⟨bb, oo, sp⟩ := ad
            obtain rfl : sp = none := by simpa [Addr.add] using hs'
            simp only [addr_addW] at h0
            refine ⟨bb, oo, rfl, cell_lt h0, fun j hj => ?_⟩
            simp only [List.getElem_map, List.getElem_range]
            obtain ⟨hc, hn, _⟩ := hV j hj
            simp only [addr_addW] at hc
            exact ⟨(V j).2.1, (V j).2.2, hc 0 _ rfl, hc 1 _ rfl, hc 2 _ rfl, hc 3 _ rfl, hn⟩
          · obtain ⟨h1, h2, h3⟩ := hW R hR
            simp only [okW]
            refine ⟨⟨by omega, by omega, h1, h2⟩, okWL_mem.2 fun nd hnd => ?_⟩
            obtain ⟨i, hi', rfl⟩ := List.mem_map.1 hnd
            have hi' := List.mem_range.1 hi'
            refine (hV i hi').2.2 R fun k hk => h3 k ?_
            rw [hx]
            simp only [DataW.weights, Tryz.underlying22, List.mem_cons, List.mem_append]
            exact Or.inr (Or.inl (weightsAll_in (List.mem_map.2 ⟨i, List.mem_range.2 hi', rfl⟩) k hk))
end Go.Proofs.YtfilonbhcalkoaaGreatDoor
namespace Go.Proofs.YtfilonbhcalkoaaGreatDoor
open Go.RowKit
set_option maxRecDepth 100000

theorem valid_any (s : ByteArray) (w : World) (hm : s.size ≤ 1099511627776) :
    Calls Tryz.prog 68 #[.string s] w fun e w' => e = .returned (.bool (runesL s.data.toList).isSome) ∧ Below w.heap.size w w' := by
  go_enter Tryz.func68, Tryz.ntmps68
  go_wp2_with (first
    | (go_at_call 81; refine (rrunes_any s _ hm).mono ?_; rintro e w1 ⟨v, rfl, _, hb1⟩))
  go_ret
  exact ⟨rfl, hb1⟩

end Go.Proofs.YtfilonbhcalkoaaGreatDoor
namespace Go.Proofs.YtfilonbhcalkoaaGreatDoor
open Go.RowKit Go.Maps
set_option maxRecDepth 100000

def JoinEnd (s l : List UInt8) : Ending :=
  match joinL s l with
  | none => .returned (.tuple #[.string ⟨#[]⟩, .bool false])
  | some f => .returned (.tuple #[.string ⟨f.toArray⟩, .bool true])
theorem joinEnd_none {s l : List UInt8} (h : joinL s l = none) : JoinEnd s l = .returned (.tuple #[.string ⟨#[]⟩, .bool false]) := by unfold JoinEnd; rw [h]
theorem joinEnd_some {s l f : List UInt8} (h : joinL s l = some f) : JoinEnd s l = .returned (.tuple #[.string ⟨f.toArray⟩, .bool true]) := by unfold JoinEnd; rw [h]
theorem joined_str (s l : ByteArray) : (⟨#[123]⟩ ++ s ++ ⟨#[125]⟩ ++ l : ByteArray) = ⟨(123 :: (s.data.toList ++ 125 :: l.data.toList)).toArray⟩ := by
  apply ByteArray.ext
  apply Array.toList_inj.1
  simp
theorem joined_size (s l : ByteArray) : (⟨#[123]⟩ ++ s ++ ⟨#[125]⟩ ++ l : ByteArray).size = s.size + l.size + 2 := by
  simp only [ByteArray.size_append]
  show 1 + s.size + 1 + l.size = _
  omega

end Go.Proofs.YtfilonbhcalkoaaGreatDoor

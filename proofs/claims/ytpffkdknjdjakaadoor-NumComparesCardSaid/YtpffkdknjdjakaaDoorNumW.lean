/-
  Digit by digit: the reference's order of sizes is the plain one.
-/
import Derived.Test.YtpffkdknjdjakaaDoorNumN
import Derived.Test.YtpffkdknjdjakaaDoorNumT
namespace Go.Proofs.YtpffkdknjdjakaaDoor
set_option maxRecDepth 100000

/-- The digit at q of a list whose first digit stands at t. -/
def atL (D : List UInt8) (t q : Int) : Int := if q ≤ t then (match D[(t - q).toNat]? with | some b => dI b | none => 0) else 0
theorem atL_above (D : List UInt8) {t q : Int} (h : t < q) : atL D t q = 0 := if_neg (by omega)
theorem atL_nil (t q : Int) : atL [] t q = 0 := by unfold atL; simp
theorem atL_head (b : UInt8) (D : List UInt8) (t : Int) : atL (b :: D) t t = dI b := by unfold atL; simp
theorem atL_tail (b : UInt8) (D : List UInt8) {t q : Int} (h : q ≤ t - 1) : atL (b :: D) t q = atL D (t - 1) q := by
  unfold atL
  rw [if_pos (by omega), if_pos h, show (t - q).toNat = (t - 1 - q).toNat + 1 from by omega]
  rfl
def szF (f g : Int → Int) : Nat → Int → Int
  | 0, _ => 0
  | n + 1, q => if f q < g q then -1 else if g q < f q then 1 else szF f g n (q - 1)
theorem szF_congr {f g f' g' : Int → Int} (n : Nat) (q : Int) (hf : ∀ i, i ≤ q → f i = f' i) (hg : ∀ i, i ≤ q → g i = g' i) : szF f g n q = szF f' g' n q := by
  induction n generalizing q with
  | zero => rfl
  | succ n ih =>
    simp only [szF]
    rw [hf q (by omega), hg q (by omega), ih (q - 1) (fun i hi => hf i (by omega)) (fun i hi => hg i (by omega))]
theorem szF_skip {f g : Int → Int} (T : Int) (hf : ∀ i, T < i → f i = 0) (hg : ∀ i, T < i → g i = 0) (k n : Nat) : szF f g (k + n) (T + k) = szF f g n T := by
  induction k with
  | zero => simp
  | succ k ih =>
    rw [show k + 1 + n = (k + n) + 1 from by omega]
    simp only [szF]
    rw [hf _ (by omega), hg _ (by omega), if_neg (by omega), if_neg (by omega), show T + ((k + 1 : Nat) : Int) - 1 = T + k from by omega, ih]
theorem last_tail {b : UInt8} {D : List UInt8} (h : (b :: D).getLast? ≠ some 48) : D.getLast? ≠ some 48 := by
  cases D with
  | nil => simp
  | cons c D => simpa [List.getLast?_cons_cons] using h
theorem last_48 {b : UInt8} {D : List UInt8} (h : (b :: D).getLast? ≠ some 48) (h0 : dI b = 0) : D ≠ [] := by
  intro hn
  subst hn
  apply h
  have : b.toNat = 48 := by unfold dI at h0; omega
  have : b = 48 := UInt8.toNat_inj.1 this
  subst this
  rfl
theorem dI_ge {b : UInt8} (h : dig b = true) : 0 ≤ dI b := by have := dig_range h; unfold dI; omega
theorem lexC_nil_cons {D : List UInt8} (h : D ≠ []) : lexC [] D = -1 := by cases D with | nil => exact absurd rfl h | cons b D => rfl
theorem lexC_cons_nil {D : List UInt8} (h : D ≠ []) : lexC D [] = 1 := by cases D with | nil => exact absurd rfl h | cons b D => rfl
theorem szF_lex (n : Nat) (X Y : List UInt8) (t : Int) (hX : X.length ≤ n) (hY : Y.length ≤ n) (lX : X.getLast? ≠ some 48) (lY : Y.getLast? ≠ some 48) (dX : X.all dig = true) (dY : Y.all dig = true) :
    szF (atL X t) (atL Y t) n t = lexC X Y := by
  induction n generalizing X Y t with
  | zero =>
    obtain rfl : X = [] := List.eq_nil_of_length_eq_zero (by omega)
    obtain rfl : Y = [] := List.eq_nil_of_length_eq_zero (by omega)
    rfl
  | succ n ih =>
    cases X with
    | nil =>
      cases Y with
      | nil =>
        simp only [szF]
        rw [atL_nil, if_neg (by omega), if_neg (by omega), szF_congr n (t - 1) (f' := atL [] (t - 1)) (g' := atL [] (t - 1)) (fun i _ => by rw [atL_nil, atL_nil]) (fun i _ => by rw [atL_nil, atL_nil])]
        exact ih [] [] (t - 1) (by simp) (by simp) (by simp) (by simp) rfl rfl
      | cons b Y =>
        rw [List.all_cons, Bool.and_eq_true] at dY
        have hb := dI_ge dY.1
        simp only [szF]
        rw [atL_nil, atL_head]
        by_cases h0 : dI b = 0
        · rw [if_neg (by omega), if_neg (by omega), szF_congr n (t - 1) (f' := atL [] (t - 1)) (g' := atL Y (t - 1)) (fun i _ => by rw [atL_nil, atL_nil]) (fun i hi => atL_tail b Y hi)]
          rw [ih [] Y (t - 1) (by simp) (by simp at hY; omega) (by simp) (last_tail lY) rfl dY.2]
          exact lexC_nil_cons (last_48 lY h0)
        · rw [if_pos (by omega)]; rfl
    | cons a X =>
      rw [List.all_cons, Bool.and_eq_true] at dX
      have ha := dI_ge dX.1
      cases Y with
      | nil =>
        simp only [szF]
        rw [atL_nil, atL_head]
        by_cases h0 : dI a = 0
        · rw [if_neg (by omega), if_neg (by omega), szF_congr n (t - 1) (f' := atL X (t - 1)) (g' := atL [] (t - 1)) (fun i hi => atL_tail a X hi) (fun i _ => by rw [atL_nil, atL_nil])]
          rw [ih X [] (t - 1) (by simp at hX; omega) (by simp) (last_tail lX) (by simp) dX.2 rfl]
          exact lexC_cons_nil (last_48 lX h0)
        · rw [if_neg (by omega), if_pos (by omega)]; rfl
      | cons b Y =>
        rw [List.all_cons, Bool.and_eq_true] at dY
        simp only [szF, lexC]
        rw [atL_head, atL_head]
        have e1 : dI a < dI b ↔ a.toNat < b.toNat := by unfold dI; omega
        have e2 : dI b < dI a ↔ b.toNat < a.toNat := by unfold dI; omega
        by_cases h1 : a.toNat < b.toNat
        · rw [if_pos (e1.2 h1), if_pos h1]
        · rw [if_neg (fun h => h1 (e1.1 h)), if_neg h1]
          by_cases h2 : b.toNat < a.toNat
          · rw [if_pos (e2.2 h2), if_pos h2]
          · rw [if_neg (fun h => h2 (e2.1 h)), if_neg h2, szF_congr n (t - 1) (f' := atL X (t - 1)) (g' := atL Y (t - 1)) (fun i hi => atL_tail a X hi) (fun i hi => atL_tail b Y hi)]
            exact ih X Y (t - 1) (by simp at hX; omega) (by simp at hY; omega) (last_tail lX) (last_tail lY) dX.2 dY.2
/-- Where a value's first digit stands. -/
def topV (v : Val) : Int := v.digs.length - 1 + v.pow
def sizeV (x y : Val) : Int := szF (atL x.digs (topV x)) (atL y.digs (topV y)) 2201 1100
theorem skip_to {f g : Int → Int} (T : Int) (h1 : -1100 ≤ T) (h2 : T ≤ 1100) (hf : ∀ i, T < i → f i = 0) (hg : ∀ i, T < i → g i = 0) : szF f g 2201 1100 = szF f g ((T + 1101).toNat) T := by
  have h := szF_skip T hf hg (1100 - T).toNat (T + 1101).toNat
  rw [show (1100 - T).toNat + (T + 1101).toNat = 2201 from by omega, show T + ((1100 - T).toNat : Int) = 1100 from by omega] at h
  exact h
theorem head_pos {D : List UInt8} (hn : D ≠ []) (hh : D.head? ≠ some 48) (hd : D.all dig = true) (t : Int) : 0 < atL D t t := by
  cases D with
  | nil => exact absurd rfl hn
  | cons b D =>
    rw [atL_head]
    rw [List.all_cons, Bool.and_eq_true] at hd
    have h1 := dig_range hd.1
    have h2 : b.toNat ≠ 48 := fun h => hh (by have : b = 48 := UInt8.toNat_inj.1 h; subst this; rfl)
    unfold dI
    omega
theorem sz_lt {f g : Int → Int} (T : Int) (h1 : -1100 ≤ T) (h2 : T ≤ 1100) (hf : ∀ i, T < i → f i = 0) (hg : ∀ i, T < i → g i = 0) (hl : f T < g T) : szF f g 2201 1100 = -1 := by
  rw [skip_to T h1 h2 hf hg, show (T + 1101).toNat = (T + 1100).toNat + 1 from by omega]
  simp only [szF]
  rw [if_pos hl]
theorem sz_gt {f g : Int → Int} (T : Int) (h1 : -1100 ≤ T) (h2 : T ≤ 1100) (hf : ∀ i, T < i → f i = 0) (hg : ∀ i, T < i → g i = 0) (hl : g T < f T) : szF f g 2201 1100 = 1 := by
  rw [skip_to T h1 h2 hf hg, show (T + 1101).toNat = (T + 1100).toNat + 1 from by omega]
  simp only [szF]
  rw [if_neg (by omega), if_pos hl]
structure BV (v : Val) : Prop where
  can : CanV v
  lo : -999 ≤ v.pow
  hi : v.pow ≤ 999
  len : v.digs.length ≤ 30
theorem BV.top {v : Val} (h : BV v) : -1000 ≤ topV v ∧ topV v ≤ 1030 := by
  have := h.lo; have := h.hi; have := h.len
  unfold topV; omega
theorem size_both {x y : Val} (hx : BV x) (hy : BV y) (nx : x.digs ≠ []) (ny : y.digs ≠ []) : sizeV x y = cmpSz x y := by
  have tx := hx.top
  have ty := hy.top
  have px := head_pos nx hx.can.2.1 hx.can.2.2.2 (topV x)
  have py := head_pos ny hy.can.2.1 hy.can.2.2.2 (topV y)
  have lx : 0 < x.digs.length := List.length_pos_iff.2 nx
  have ly : 0 < y.digs.length := List.length_pos_iff.2 ny
  have e1 : topV x = x.digs.length - 1 + x.pow := rfl
  have e2 : topV y = y.digs.length - 1 + y.pow := rfl
  unfold sizeV cmpSz cmpI
  rcases Int.lt_trichotomy (topV x) (topV y) with h | h | h
  · rw [if_pos (by omega : (x.digs.length : Int) + x.pow < y.digs.length + y.pow), if_pos (by decide)]
    exact sz_lt (topV y) (by omega) (by omega) (fun i hi => atL_above _ (by omega)) (fun i hi => atL_above _ (by omega)) (by rw [atL_above _ h]; exact py)
  · rw [if_neg (by omega : ¬ (x.digs.length : Int) + x.pow < y.digs.length + y.pow), if_neg (by omega : ¬ (y.digs.length : Int) + y.pow < x.digs.length + x.pow), if_neg (by decide)]
    rw [skip_to (topV x) (by omega) (by omega) (fun i hi => atL_above _ (by omega)) (fun i hi => atL_above _ (by omega)), ← h]
    have := hx.len; have := hy.len; have := hx.lo
    exact szF_lex _ _ _ _ (by omega) (by omega) hx.can.2.2.1 hy.can.2.2.1 hx.can.2.2.2 hy.can.2.2.2
  · rw [if_neg (by omega : ¬ (x.digs.length : Int) + x.pow < y.digs.length + y.pow), if_pos (by omega : (y.digs.length : Int) + y.pow < x.digs.length + x.pow), if_pos (by decide)]
    exact sz_gt (topV x) (by omega) (by omega) (fun i hi => atL_above _ (by omega)) (fun i hi => atL_above _ (by omega)) (by rw [atL_above _ h]; exact px)
theorem size_nil_nil {x y : Val} (nx : x.digs = []) (ny : y.digs = []) : sizeV x y = 0 := by
  unfold sizeV
  rw [nx, ny, szF_congr 2201 1100 (f' := atL [] 1100) (g' := atL [] 1100) (fun i _ => by rw [atL_nil, atL_nil]) (fun i _ => by rw [atL_nil, atL_nil])]
  exact szF_lex 2201 [] [] 1100 (by simp) (by simp) (by simp) (by simp) rfl rfl
theorem size_nil_left {x y : Val} (hy : BV y) (nx : x.digs = []) (ny : y.digs ≠ []) : sizeV x y = -1 := by
  have ty := hy.top
  unfold sizeV
  rw [nx]
  exact sz_lt (topV y) (by omega) (by omega) (fun i _ => atL_nil _ _) (fun i hi => atL_above _ hi) (by rw [atL_nil]; exact head_pos ny hy.can.2.1 hy.can.2.2.2 _)
theorem size_nil_right {x y : Val} (hx : BV x) (nx : x.digs ≠ []) (ny : y.digs = []) : sizeV x y = 1 := by
  have tx := hx.top
  unfold sizeV
  rw [ny]
  exact sz_gt (topV x) (by omega) (by omega) (fun i hi => atL_above _ hi) (fun i _ => atL_nil _ _) (by rw [atL_nil]; exact head_pos nx hx.can.2.1 hx.can.2.2.2 _)
/-- What the reference's Compare makes of the sizes and the signs. -/
def refCmp (x y : Val) : Int := if x.neg && y.neg then -(sizeV x y) else if x.neg then -1 else if y.neg then 1 else sizeV x y
theorem refCmp_is {x y : Val} (hx : BV x) (hy : BV y) : refCmp x y = cmpV x y := by
  unfold refCmp cmpV sgI
  by_cases nx : x.digs = []
  · have ex := (hx.can.1 nx).1
    by_cases ny : y.digs = []
    · have ey := (hy.can.1 ny).1
      rw [size_nil_nil nx ny, ex, ey, if_pos nx, if_pos ny]
      simp
    · rw [size_nil_left hy nx ny, ex, if_pos nx, if_neg ny]
      cases y.neg <;> simp [cmpI]
  · by_cases ny : y.digs = []
    · have ey := (hy.can.1 ny).1
      rw [size_nil_right hx nx ny, ey, if_neg nx, if_pos ny]
      cases x.neg <;> simp [cmpI]
    · rw [size_both hx hy nx ny, if_neg nx, if_neg ny]
      cases x.neg <;> cases y.neg <;> simp [cmpI]
end Go.Proofs.YtpffkdknjdjakaaDoor

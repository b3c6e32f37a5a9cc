/-
  The reference's parts: its contract.
-/
import Derived.Test.YtmnijjbhkbdojaaGreatDoorNumI
import Derived.BigQuiet
import Derived.Deep.DeepCutAuto
import Derived.Deep.QuietTactic
namespace Go.Proofs.YtmnijjbhkbdojaaGreatDoor.Nm
open Go.RowKit
set_option maxRecDepth 100000

theorem results_tmp5 {fn : Func} {t u v x y : Tmp} (h : fn.results = #[.tmp t, .tmp u, .tmp v, .tmp x, .tmp y]) (tmps : Array Value) (P : Program) (w : World) :
    (results fn tmps).run P w = .ok (.tuple #[tmps.getD t undef, tmps.getD u undef, tmps.getD v undef, tmps.getD x undef, tmps.getD y undef]) w := by
  simp [results, h]
def partsA (p : Parts) : Value := .tuple #[.string ⟨p.whole.toArray⟩, .string ⟨p.part.toArray⟩, .string ⟨p.tail.toArray⟩, .bool p.begins, .bool p.is]
theorem fin5 {l : List UInt8} {W F T : List UInt8} {b i : Bool} (h : parts l = ⟨W, F, T, b, i⟩) {x y z : ByteArray} {u v : Bool} (hx : x.data.toList = W) (hy : y.data.toList = F) (hz : z.data.toList = T) (hu : u = b) (hv : v = i) :
    Ending.returned (.tuple #[.string x, .string y, .string z, .bool u, .bool v]) = .returned (partsA (parts l)) := by
  subst hx hy hz hu hv
  rw [h]
  unfold partsA
  simp
theorem fin_no {l : List UInt8} (h : parts l = noParts) :
    Ending.returned (.tuple #[.string ⟨#[]⟩, .string ⟨#[]⟩, .string ⟨#[]⟩, .bool false, .bool false]) = .returned (partsA (parts l)) := by
  rw [h]; rfl
theorem b_at (s : ByteArray) (k : Nat) (h : k < s.size) : bAt s.data.toList k = s[k].toNat := by
  unfold bAt
  rw [List.getD_eq_getElem?_getD, List.getElem?_eq_getElem (by simpa using h)]
  rfl
theorem ext_take (s : ByteArray) (a n : Nat) : (s.extract a (a + n)).data.toList = (s.data.toList.drop a).take n := by
  rw [Lib.extract_data]; simp
theorem ext_drop (s : ByteArray) (a : Nat) : (s.extract a s.size).data.toList = s.data.toList.drop a := by
  rw [Lib.extract_data, List.take_of_length_le]
  simp

end Go.Proofs.YtmnijjbhkbdojaaGreatDoor.Nm

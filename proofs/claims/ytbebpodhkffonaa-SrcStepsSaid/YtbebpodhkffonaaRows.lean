/-
  No cell of these rows narrows 'for every input' (looked for: loops, veiled, ifaces, maps, wideKeys, modest, calm, conditions, laid).
  DERIVED. THE GIVEN ROWS OF THIS SEAT. 7 by the template 'for every input the law returns true; each argument reads behind the call as it read before'; 0 by the template 'total and deterministic' (their statements: YtbebpodhkffonaaTotals.lean).
  GIVEN WITH THE SEED: the statements are not yours to turn. If you find one false, say at which input.
  Laid BY PROGRAM, IN A SANDBOX (cutbox-rows.mjs): the forced cells as the released guide's own fill.sh prints them over the translation 204ec0190eba744b… (all of the seat's roots in one cut). By AI agents, Wed Nov 11 2026. No macro, syntax, notation, axiom, sorry.
-/
import Derived.Test.YtbebpodhkffonaaChecked
import GoSem.Claim
import GoSem.ClaimJoined
import GoSem.ClaimMapViews
import Derived.JoinedTies
import Derived.KernelRfl
namespace Go.Proofs.Ytbebpodhkffonaa
/- THE CELL 'sum', in the pinned program and in every row, IS THE sha256 OF THE DUMP (.gsa) THAT YtbebpodhkffonaaProg.lean LOADS. Nothing in Lean hashes anything: it is a label: what it is worth is what the hold of that sum in a sandbox is worth. -/
noncomputable def Try.pinned : Pinned := { name := "ytbebpodhkffonaa", sum := "204ec0190eba744baf727fa65417f819b0e8b7b8bdd74ab82c9cdc984b167463", checked := Try.checked }
namespace Rows
def none {H : Type} : Left H := { results := [], args := [] }

/-- 'hexaplalaw01.SrcSteps': WHATEVER THE INPUT: true; the input reads as it did. -/
def srcStepsSpec : ChangeSpec := { name := "srcSteps", fn := fun _ => fun
  | [d] => { results := [.lit (.bool true)], args := [d] }
  | _ => none }
def srcStepsRow : OpenClaim := { program := "ytbebpodhkffonaa", sum := "204ec0190eba744baf727fa65417f819b0e8b7b8bdd74ab82c9cdc984b167463", func := "hexapla/hexaplalaw01.SrcSteps", spec := "srcSteps", recurses := true, apart := false }
def SrcStepsSaid : Prop := srcStepsRow.holds Try.pinned (OpenSpec.ofChange srcStepsSpec)

/-- ITS FALSE NEIGHBOUR: 'it returns false'. Refute it at one input. -/
def srcStepsWrong : ChangeSpec := { name := "srcSteps", fn := fun _ => fun
  | [d] => { results := [.lit (.bool false)], args := [d] }
  | _ => none }
def SrcStepsWrongFalsely : Prop := srcStepsRow.holds Try.pinned (OpenSpec.ofChange srcStepsWrong)

/-- 'hexaplalaw01.SrcRunes': WHATEVER THE INPUT: true; the input reads as it did. -/
def srcRunesSpec : ChangeSpec := { name := "srcRunes", fn := fun _ => fun
  | [d] => { results := [.lit (.bool true)], args := [d] }
  | _ => none }
def srcRunesRow : OpenClaim := { program := "ytbebpodhkffonaa", sum := "204ec0190eba744baf727fa65417f819b0e8b7b8bdd74ab82c9cdc984b167463", func := "hexapla/hexaplalaw01.SrcRunes", spec := "srcRunes", apart := false }
def SrcRunesSaid : Prop := srcRunesRow.holds Try.pinned (OpenSpec.ofChange srcRunesSpec)

/-- ITS FALSE NEIGHBOUR: 'it returns false'. Refute it at one input. -/
def srcRunesWrong : ChangeSpec := { name := "srcRunes", fn := fun _ => fun
  | [d] => { results := [.lit (.bool false)], args := [d] }
  | _ => none }
def SrcRunesWrongFalsely : Prop := srcRunesRow.holds Try.pinned (OpenSpec.ofChange srcRunesWrong)

/-- 'hexaplalaw01.SrcPuts': WHATEVER THE INPUT: true; the input reads as it did. -/
def srcPutsSpec : ChangeSpec := { name := "srcPuts", fn := fun _ => fun
  | [d] => { results := [.lit (.bool true)], args := [d] }
  | _ => none }
def srcPutsRow : OpenClaim := { program := "ytbebpodhkffonaa", sum := "204ec0190eba744baf727fa65417f819b0e8b7b8bdd74ab82c9cdc984b167463", func := "hexapla/hexaplalaw01.SrcPuts", spec := "srcPuts", apart := false }
def SrcPutsSaid : Prop := srcPutsRow.holds Try.pinned (OpenSpec.ofChange srcPutsSpec)

/-- ITS FALSE NEIGHBOUR: 'it returns false'. Refute it at one input. -/
def srcPutsWrong : ChangeSpec := { name := "srcPuts", fn := fun _ => fun
  | [d] => { results := [.lit (.bool false)], args := [d] }
  | _ => none }
def SrcPutsWrongFalsely : Prop := srcPutsRow.holds Try.pinned (OpenSpec.ofChange srcPutsWrong)

/-- 'hexaplalaw01.SrcBack': WHATEVER THE INPUT: true; the input reads as it did. -/
def srcBackSpec : ChangeSpec := { name := "srcBack", fn := fun _ => fun
  | [d] => { results := [.lit (.bool true)], args := [d] }
  | _ => none }
def srcBackRow : OpenClaim := { program := "ytbebpodhkffonaa", sum := "204ec0190eba744baf727fa65417f819b0e8b7b8bdd74ab82c9cdc984b167463", func := "hexapla/hexaplalaw01.SrcBack", spec := "srcBack", apart := false }
def SrcBackSaid : Prop := srcBackRow.holds Try.pinned (OpenSpec.ofChange srcBackSpec)

/-- ITS FALSE NEIGHBOUR: 'it returns false'. Refute it at one input. -/
def srcBackWrong : ChangeSpec := { name := "srcBack", fn := fun _ => fun
  | [d] => { results := [.lit (.bool false)], args := [d] }
  | _ => none }
def SrcBackWrongFalsely : Prop := srcBackRow.holds Try.pinned (OpenSpec.ofChange srcBackWrong)

/-- 'hexaplalaw01.SrcWhole': WHATEVER THE INPUT: true; the input reads as it did. -/
def srcWholeSpec : ChangeSpec := { name := "srcWhole", fn := fun _ => fun
  | [d] => { results := [.lit (.bool true)], args := [d] }
  | _ => none }
def srcWholeRow : OpenClaim := { program := "ytbebpodhkffonaa", sum := "204ec0190eba744baf727fa65417f819b0e8b7b8bdd74ab82c9cdc984b167463", func := "hexapla/hexaplalaw01.SrcWhole", spec := "srcWhole", apart := false }
def SrcWholeSaid : Prop := srcWholeRow.holds Try.pinned (OpenSpec.ofChange srcWholeSpec)

/-- ITS FALSE NEIGHBOUR: 'it returns false'. Refute it at one input. -/
def srcWholeWrong : ChangeSpec := { name := "srcWhole", fn := fun _ => fun
  | [d] => { results := [.lit (.bool false)], args := [d] }
  | _ => none }
def SrcWholeWrongFalsely : Prop := srcWholeRow.holds Try.pinned (OpenSpec.ofChange srcWholeWrong)

/-- 'hexaplalaw01.SrcPlaces': WHATEVER THE INPUT: true; the input reads as it did. -/
def srcPlacesSpec : ChangeSpec := { name := "srcPlaces", fn := fun _ => fun
  | [d1, d2] => { results := [.lit (.bool true)], args := [d1, d2] }
  | _ => none }
def srcPlacesRow : OpenClaim := { program := "ytbebpodhkffonaa", sum := "204ec0190eba744baf727fa65417f819b0e8b7b8bdd74ab82c9cdc984b167463", func := "hexapla/hexaplalaw01.SrcPlaces", spec := "srcPlaces", apart := false }
def SrcPlacesSaid : Prop := srcPlacesRow.holds Try.pinned (OpenSpec.ofChange srcPlacesSpec)

/-- ITS FALSE NEIGHBOUR: 'it returns false'. Refute it at one input. -/
def srcPlacesWrong : ChangeSpec := { name := "srcPlaces", fn := fun _ => fun
  | [d1, d2] => { results := [.lit (.bool false)], args := [d1, d2] }
  | _ => none }
def SrcPlacesWrongFalsely : Prop := srcPlacesRow.holds Try.pinned (OpenSpec.ofChange srcPlacesWrong)

/-- 'hexaplalaw01.SrcRises': WHATEVER THE INPUT: true; the input reads as it did. -/
def srcRisesSpec : ChangeSpec := { name := "srcRises", fn := fun _ => fun
  | [d1, d2, d3] => { results := [.lit (.bool true)], args := [d1, d2, d3] }
  | _ => none }
def srcRisesRow : OpenClaim := { program := "ytbebpodhkffonaa", sum := "204ec0190eba744baf727fa65417f819b0e8b7b8bdd74ab82c9cdc984b167463", func := "hexapla/hexaplalaw01.SrcRises", spec := "srcRises", apart := false }
def SrcRisesSaid : Prop := srcRisesRow.holds Try.pinned (OpenSpec.ofChange srcRisesSpec)

/-- ITS FALSE NEIGHBOUR: 'it returns false'. Refute it at one input. -/
def srcRisesWrong : ChangeSpec := { name := "srcRises", fn := fun _ => fun
  | [d1, d2, d3] => { results := [.lit (.bool false)], args := [d1, d2, d3] }
  | _ => none }
def SrcRisesWrongFalsely : Prop := srcRisesRow.holds Try.pinned (OpenSpec.ofChange srcRisesWrong)

/- THE SECOND FORM. 'bulk': how many values and letters a reading holds, each counted each time it is reached (what is shared counts as often as it is met; a slice's spare places count too). A statement '..UptoSaid' is the law's where the arguments, and the package variables that the reading takes, are together of bulk at most 1048576: NARROWER than '..Said'. Prove '..Said' where nothing that the law and all that it calls make is longer than what came in: it says more and counts as full. Else prove '..UptoSaid'. A law counts once. -/
mutual
def uptoBulk {H : Type} : DataW H → Nat
  | .lit (.string bytes) => bytes.length + 1
  | .lit _ => 1
  | .nil => 1
  | .ptr d => uptoBulk d + 1
  | .slice elems spare => uptoBulkAll elems + uptoBulkAll spare + 1
  | .agg parts => uptoBulkAll parts + 1
  | .iface _ d => uptoBulk d + 1
  | .map entries => uptoBulkEntries entries + 1
  | .held _ => 1
def uptoBulkAll {H : Type} : List (DataW H) → Nat
  | [] => 0
  | d :: r => uptoBulk d + uptoBulkAll r
def uptoBulkEntries {H : Type} : List (Lit × DataW H) → Nat
  | [] => 0
  | x :: r => uptoBulkEntry x + uptoBulkEntries r
def uptoBulkEntry {H : Type} : Lit × DataW H → Nat
  | (.string bytes, d) => bytes.length + uptoBulk d + 1
  | (_, d) => uptoBulk d + 1
 end
def uptoSmall : (H : Type) → List (DataW H) → Bool := fun _ ds => decide (uptoBulkAll ds ≤ 1048576)
def OpenSpec.upto (s : _root_.Go.ChangeSpec) : _root_.Go.OpenSpec := { _root_.Go.OpenSpec.ofChange s with cond := some uptoSmall }

/-- 'hexaplalaw01.SrcSteps', WHERE WHAT IT READS IS OF BULK AT MOST 1048576: true; the input reads as it did. -/
def srcStepsUptoRow : OpenClaim := { program := "ytbebpodhkffonaa", sum := "204ec0190eba744baf727fa65417f819b0e8b7b8bdd74ab82c9cdc984b167463", func := "hexapla/hexaplalaw01.SrcSteps", spec := "srcSteps", recurses := true, apart := false, narrowed := true }
def SrcStepsUptoSaid : Prop := srcStepsUptoRow.holds Try.pinned (OpenSpec.upto srcStepsSpec)

/-- 'hexaplalaw01.SrcRunes', WHERE WHAT IT READS IS OF BULK AT MOST 1048576: true; the input reads as it did. -/
def srcRunesUptoRow : OpenClaim := { program := "ytbebpodhkffonaa", sum := "204ec0190eba744baf727fa65417f819b0e8b7b8bdd74ab82c9cdc984b167463", func := "hexapla/hexaplalaw01.SrcRunes", spec := "srcRunes", apart := false, narrowed := true }
def SrcRunesUptoSaid : Prop := srcRunesUptoRow.holds Try.pinned (OpenSpec.upto srcRunesSpec)

/-- 'hexaplalaw01.SrcPuts', WHERE WHAT IT READS IS OF BULK AT MOST 1048576: true; the input reads as it did. -/
def srcPutsUptoRow : OpenClaim := { program := "ytbebpodhkffonaa", sum := "204ec0190eba744baf727fa65417f819b0e8b7b8bdd74ab82c9cdc984b167463", func := "hexapla/hexaplalaw01.SrcPuts", spec := "srcPuts", apart := false, narrowed := true }
def SrcPutsUptoSaid : Prop := srcPutsUptoRow.holds Try.pinned (OpenSpec.upto srcPutsSpec)

/-- 'hexaplalaw01.SrcBack', WHERE WHAT IT READS IS OF BULK AT MOST 1048576: true; the input reads as it did. -/
def srcBackUptoRow : OpenClaim := { program := "ytbebpodhkffonaa", sum := "204ec0190eba744baf727fa65417f819b0e8b7b8bdd74ab82c9cdc984b167463", func := "hexapla/hexaplalaw01.SrcBack", spec := "srcBack", apart := false, narrowed := true }
def SrcBackUptoSaid : Prop := srcBackUptoRow.holds Try.pinned (OpenSpec.upto srcBackSpec)

/-- 'hexaplalaw01.SrcWhole', WHERE WHAT IT READS IS OF BULK AT MOST 1048576: true; the input reads as it did. -/
def srcWholeUptoRow : OpenClaim := { program := "ytbebpodhkffonaa", sum := "204ec0190eba744baf727fa65417f819b0e8b7b8bdd74ab82c9cdc984b167463", func := "hexapla/hexaplalaw01.SrcWhole", spec := "srcWhole", apart := false, narrowed := true }
def SrcWholeUptoSaid : Prop := srcWholeUptoRow.holds Try.pinned (OpenSpec.upto srcWholeSpec)

/-- 'hexaplalaw01.SrcPlaces', WHERE WHAT IT READS IS OF BULK AT MOST 1048576: true; the input reads as it did. -/
def srcPlacesUptoRow : OpenClaim := { program := "ytbebpodhkffonaa", sum := "204ec0190eba744baf727fa65417f819b0e8b7b8bdd74ab82c9cdc984b167463", func := "hexapla/hexaplalaw01.SrcPlaces", spec := "srcPlaces", apart := false, narrowed := true }
def SrcPlacesUptoSaid : Prop := srcPlacesUptoRow.holds Try.pinned (OpenSpec.upto srcPlacesSpec)

/-- 'hexaplalaw01.SrcRises', WHERE WHAT IT READS IS OF BULK AT MOST 1048576: true; the input reads as it did. -/
def srcRisesUptoRow : OpenClaim := { program := "ytbebpodhkffonaa", sum := "204ec0190eba744baf727fa65417f819b0e8b7b8bdd74ab82c9cdc984b167463", func := "hexapla/hexaplalaw01.SrcRises", spec := "srcRises", apart := false, narrowed := true }
def SrcRisesUptoSaid : Prop := srcRisesUptoRow.holds Try.pinned (OpenSpec.upto srcRisesSpec)

end Rows
end Go.Proofs.Ytbebpodhkffonaa

/-
  No cell of these rows narrows 'for every input' (looked for: loops, veiled, ifaces, maps, wideKeys, modest, calm, conditions, laid).
  DERIVED. THE GIVEN ROWS OF THIS SEAT. 4 by the template 'for every input the law returns true; each argument reads behind the call as it read before'; 0 by the template 'total and deterministic' (their statements: YtmbjeagmnjkemaaTotals.lean).
  GIVEN WITH THE SEED: the statements are not yours to turn. If you find one false, say at which input.
  Laid BY PROGRAM, IN A SANDBOX (cutbox-rows.mjs): the forced cells as the released guide's own fill.sh prints them over the translation 6e5dcc3bf1e3b488… (all of the seat's roots in one cut). By AI agents, Wed Nov 11 2026. No macro, syntax, notation, axiom, sorry.
-/
import Derived.Test.YtmbjeagmnjkemaaChecked
import GoSem.Claim
import GoSem.ClaimJoined
import GoSem.ClaimMapViews
import Derived.JoinedTies
import Derived.KernelRfl
namespace Go.Proofs.Ytmbjeagmnjkemaa
/- THE CELL 'sum', in the pinned program and in every row, IS THE sha256 OF THE DUMP (.gsa) THAT YtmbjeagmnjkemaaProg.lean LOADS. Nothing in Lean hashes anything: it is a label: what it is worth is what the hold of that sum in a sandbox is worth. -/
noncomputable def Try.pinned : Pinned := { name := "ytmbjeagmnjkemaa", sum := "6e5dcc3bf1e3b4888b0651877bab34247ad770bc5b2a146f9f9f9e037b19f9c6", checked := Try.checked }
namespace Rows
def none {H : Type} : Left H := { results := [], args := [] }

/-- 'hexaplalaw13.EntitiesPlays': WHATEVER THE INPUT: true; the input reads as it did. -/
def entitiesPlaysSpec : ChangeSpec := { name := "entitiesPlays", fn := fun _ => fun
  | [d] => { results := [.lit (.bool true)], args := [d] }
  | _ => none }
def entitiesPlaysRow : OpenClaim := { program := "ytmbjeagmnjkemaa", sum := "6e5dcc3bf1e3b4888b0651877bab34247ad770bc5b2a146f9f9f9e037b19f9c6", func := "hexapla/hexaplalaw13.EntitiesPlays", spec := "entitiesPlays", inPlace := ["internal/abi.NoEscape"], apart := false }
def EntitiesPlaysSaid : Prop := entitiesPlaysRow.holds Try.pinned (OpenSpec.ofChange entitiesPlaysSpec)

/-- ITS FALSE NEIGHBOUR: 'it returns false'. Refute it at one input. -/
def entitiesPlaysWrong : ChangeSpec := { name := "entitiesPlays", fn := fun _ => fun
  | [d] => { results := [.lit (.bool false)], args := [d] }
  | _ => none }
def EntitiesPlaysWrongFalsely : Prop := entitiesPlaysRow.holds Try.pinned (OpenSpec.ofChange entitiesPlaysWrong)

/-- 'hexaplalaw13.EntitiesPlain': WHATEVER THE INPUT: true; the input reads as it did. -/
def entitiesPlainSpec : ChangeSpec := { name := "entitiesPlain", fn := fun _ => fun
  | [d] => { results := [.lit (.bool true)], args := [d] }
  | _ => none }
def entitiesPlainRow : OpenClaim := { program := "ytmbjeagmnjkemaa", sum := "6e5dcc3bf1e3b4888b0651877bab34247ad770bc5b2a146f9f9f9e037b19f9c6", func := "hexapla/hexaplalaw13.EntitiesPlain", spec := "entitiesPlain", inPlace := ["internal/abi.NoEscape"], apart := false }
def EntitiesPlainSaid : Prop := entitiesPlainRow.holds Try.pinned (OpenSpec.ofChange entitiesPlainSpec)

/-- ITS FALSE NEIGHBOUR: 'it returns false'. Refute it at one input. -/
def entitiesPlainWrong : ChangeSpec := { name := "entitiesPlain", fn := fun _ => fun
  | [d] => { results := [.lit (.bool false)], args := [d] }
  | _ => none }
def EntitiesPlainWrongFalsely : Prop := entitiesPlainRow.holds Try.pinned (OpenSpec.ofChange entitiesPlainWrong)

/-- 'hexaplalaw13.EntitiesTells': WHATEVER THE INPUT: true; the input reads as it did. -/
def entitiesTellsSpec : ChangeSpec := { name := "entitiesTells", fn := fun _ => fun
  | [d1, d2, d3] => { results := [.lit (.bool true)], args := [d1, d2, d3] }
  | _ => none }
def entitiesTellsRow : OpenClaim := { program := "ytmbjeagmnjkemaa", sum := "6e5dcc3bf1e3b4888b0651877bab34247ad770bc5b2a146f9f9f9e037b19f9c6", func := "hexapla/hexaplalaw13.EntitiesTells", spec := "entitiesTells", inPlace := ["internal/abi.NoEscape"], apart := false }
def EntitiesTellsSaid : Prop := entitiesTellsRow.holds Try.pinned (OpenSpec.ofChange entitiesTellsSpec)

/-- ITS FALSE NEIGHBOUR: 'it returns false'. Refute it at one input. -/
def entitiesTellsWrong : ChangeSpec := { name := "entitiesTells", fn := fun _ => fun
  | [d1, d2, d3] => { results := [.lit (.bool false)], args := [d1, d2, d3] }
  | _ => none }
def EntitiesTellsWrongFalsely : Prop := entitiesTellsRow.holds Try.pinned (OpenSpec.ofChange entitiesTellsWrong)

/-- 'hexaplalaw13.EntitiesQuotes': WHATEVER THE INPUT: true; the input reads as it did. -/
def entitiesQuotesSpec : ChangeSpec := { name := "entitiesQuotes", fn := fun _ => fun
  | [d] => { results := [.lit (.bool true)], args := [d] }
  | _ => none }
def entitiesQuotesRow : OpenClaim := { program := "ytmbjeagmnjkemaa", sum := "6e5dcc3bf1e3b4888b0651877bab34247ad770bc5b2a146f9f9f9e037b19f9c6", func := "hexapla/hexaplalaw13.EntitiesQuotes", spec := "entitiesQuotes", inPlace := ["internal/abi.NoEscape"], apart := false }
def EntitiesQuotesSaid : Prop := entitiesQuotesRow.holds Try.pinned (OpenSpec.ofChange entitiesQuotesSpec)

/-- ITS FALSE NEIGHBOUR: 'it returns false'. Refute it at one input. -/
def entitiesQuotesWrong : ChangeSpec := { name := "entitiesQuotes", fn := fun _ => fun
  | [d] => { results := [.lit (.bool false)], args := [d] }
  | _ => none }
def EntitiesQuotesWrongFalsely : Prop := entitiesQuotesRow.holds Try.pinned (OpenSpec.ofChange entitiesQuotesWrong)

/- THE SECOND FORM. 'bulk': how many values and letters a reading holds, each counted each time it is reached (what is shared counts as often as it is met; a slice's spare places count too). A statement '..UptoSaid' is the law's where the arguments, and the package variables that the reading takes, are together of bulk at most 1048576: NARROWER than '..Said'. Prove '..Said' where nothing that the law and all that it calls make is longer than what came in: it says more and counts as full. Else prove '..UptoSaid'. A law counts once. -/
mutual
def uptoBulk {H : Type} : DataW H → Nat
  | .lit (.string bytes) => bytes.length + 1
  | .lit _ => 1
  | .nil => 1
  | .ptr d => uptoBulk d + 1
  | .slice elems spare => uptoBulkAll elems + uptoBulkAll spare + 1
  | .agg parts => uptoBulkAll parts + 1
  | .iface _ d => uptoBulk d + 1
  | .map entries => uptoBulkEntries entries + 1
  | .held _ => 1
def uptoBulkAll {H : Type} : List (DataW H) → Nat
  | [] => 0
  | d :: r => uptoBulk d + uptoBulkAll r
def uptoBulkEntries {H : Type} : List (Lit × DataW H) → Nat
  | [] => 0
  | x :: r => uptoBulkEntry x + uptoBulkEntries r
def uptoBulkEntry {H : Type} : Lit × DataW H → Nat
  | (.string bytes, d) => bytes.length + uptoBulk d + 1
  | (_, d) => uptoBulk d + 1
 end
def uptoSmall : (H : Type) → List (DataW H) → Bool := fun _ ds => decide (uptoBulkAll ds ≤ 1048576)
def OpenSpec.upto (s : _root_.Go.ChangeSpec) : _root_.Go.OpenSpec := { _root_.Go.OpenSpec.ofChange s with cond := some uptoSmall }

/-- 'hexaplalaw13.EntitiesPlays', WHERE WHAT IT READS IS OF BULK AT MOST 1048576: true; the input reads as it did. -/
def entitiesPlaysUptoRow : OpenClaim := { program := "ytmbjeagmnjkemaa", sum := "6e5dcc3bf1e3b4888b0651877bab34247ad770bc5b2a146f9f9f9e037b19f9c6", func := "hexapla/hexaplalaw13.EntitiesPlays", spec := "entitiesPlays", inPlace := ["internal/abi.NoEscape"], apart := false, narrowed := true }
def EntitiesPlaysUptoSaid : Prop := entitiesPlaysUptoRow.holds Try.pinned (OpenSpec.upto entitiesPlaysSpec)

/-- 'hexaplalaw13.EntitiesPlain', WHERE WHAT IT READS IS OF BULK AT MOST 1048576: true; the input reads as it did. -/
def entitiesPlainUptoRow : OpenClaim := { program := "ytmbjeagmnjkemaa", sum := "6e5dcc3bf1e3b4888b0651877bab34247ad770bc5b2a146f9f9f9e037b19f9c6", func := "hexapla/hexaplalaw13.EntitiesPlain", spec := "entitiesPlain", inPlace := ["internal/abi.NoEscape"], apart := false, narrowed := true }
def EntitiesPlainUptoSaid : Prop := entitiesPlainUptoRow.holds Try.pinned (OpenSpec.upto entitiesPlainSpec)

/-- 'hexaplalaw13.EntitiesTells', WHERE WHAT IT READS IS OF BULK AT MOST 1048576: true; the input reads as it did. -/
def entitiesTellsUptoRow : OpenClaim := { program := "ytmbjeagmnjkemaa", sum := "6e5dcc3bf1e3b4888b0651877bab34247ad770bc5b2a146f9f9f9e037b19f9c6", func := "hexapla/hexaplalaw13.EntitiesTells", spec := "entitiesTells", inPlace := ["internal/abi.NoEscape"], apart := false, narrowed := true }
def EntitiesTellsUptoSaid : Prop := entitiesTellsUptoRow.holds Try.pinned (OpenSpec.upto entitiesTellsSpec)

/-- 'hexaplalaw13.EntitiesQuotes', WHERE WHAT IT READS IS OF BULK AT MOST 1048576: true; the input reads as it did. -/
def entitiesQuotesUptoRow : OpenClaim := { program := "ytmbjeagmnjkemaa", sum := "6e5dcc3bf1e3b4888b0651877bab34247ad770bc5b2a146f9f9f9e037b19f9c6", func := "hexapla/hexaplalaw13.EntitiesQuotes", spec := "entitiesQuotes", inPlace := ["internal/abi.NoEscape"], apart := false, narrowed := true }
def EntitiesQuotesUptoSaid : Prop := entitiesQuotesUptoRow.holds Try.pinned (OpenSpec.upto entitiesQuotesSpec)

end Rows
end Go.Proofs.Ytmbjeagmnjkemaa

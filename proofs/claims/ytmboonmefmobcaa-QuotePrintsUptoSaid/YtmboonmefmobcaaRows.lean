/-
  No cell of these rows narrows 'for every input' (looked for: loops, veiled, ifaces, maps, wideKeys, modest, calm, conditions, laid).
  DERIVED. THE GIVEN ROWS OF THIS SEAT. 3 by the template 'for every input the law returns true; each argument reads behind the call as it read before'; 0 by the template 'total and deterministic' (their statements: YtmboonmefmobcaaTotals.lean).
  GIVEN WITH THE SEED: the statements are not yours to turn. If you find one false, say at which input.
  Laid BY PROGRAM, IN A SANDBOX (cutbox-rows.mjs): the forced cells as the released guide's own fill.sh prints them over the translation 5aad8e12090c1c88… (all of the seat's roots in one cut). By AI agents, Wed Nov 11 2026. No macro, syntax, notation, axiom, sorry.
-/
import Derived.Test.YtmboonmefmobcaaChecked
import GoSem.Claim
import GoSem.ClaimJoined
import GoSem.ClaimMapViews
import Derived.JoinedTies
import Derived.KernelRfl
namespace Go.Proofs.Ytmboonmefmobcaa
/- THE CELL 'sum', in the pinned program and in every row, IS THE sha256 OF THE DUMP (.gsa) THAT YtmboonmefmobcaaProg.lean LOADS. Nothing in Lean hashes anything: it is a label: what it is worth is what the hold of that sum in a sandbox is worth. -/
noncomputable def Try.pinned : Pinned := { name := "ytmboonmefmobcaa", sum := "5aad8e12090c1c88b1268f188e33308a4ade574391d6448fcb929be4d42e8deb", checked := Try.checked }
namespace Rows
def none {H : Type} : Left H := { results := [], args := [] }

/-- 'hexaplalaw03.QuotePrints': WHATEVER THE INPUT: true; the input reads as it did. -/
def quotePrintsSpec : ChangeSpec := { name := "quotePrints", fn := fun _ => fun
  | [d] => { results := [.lit (.bool true)], args := [d] }
  | _ => none }
def quotePrintsRow : OpenClaim := { program := "ytmboonmefmobcaa", sum := "5aad8e12090c1c88b1268f188e33308a4ade574391d6448fcb929be4d42e8deb", func := "hexapla/hexaplalaw03.QuotePrints", spec := "quotePrints", apart := false }
def QuotePrintsSaid : Prop := quotePrintsRow.holds Try.pinned (OpenSpec.ofChange quotePrintsSpec)

/-- ITS FALSE NEIGHBOUR: 'it returns false'. Refute it at one input. -/
def quotePrintsWrong : ChangeSpec := { name := "quotePrints", fn := fun _ => fun
  | [d] => { results := [.lit (.bool false)], args := [d] }
  | _ => none }
def QuotePrintsWrongFalsely : Prop := quotePrintsRow.holds Try.pinned (OpenSpec.ofChange quotePrintsWrong)

/-- 'hexaplalaw03.QuoteRound': WHATEVER THE INPUT: true; the input reads as it did. -/
def quoteRoundSpec : ChangeSpec := { name := "quoteRound", fn := fun _ => fun
  | [d] => { results := [.lit (.bool true)], args := [d] }
  | _ => none }
def quoteRoundRow : OpenClaim := { program := "ytmboonmefmobcaa", sum := "5aad8e12090c1c88b1268f188e33308a4ade574391d6448fcb929be4d42e8deb", func := "hexapla/hexaplalaw03.QuoteRound", spec := "quoteRound", apart := false }
def QuoteRoundSaid : Prop := quoteRoundRow.holds Try.pinned (OpenSpec.ofChange quoteRoundSpec)

/-- ITS FALSE NEIGHBOUR: 'it returns false'. Refute it at one input. -/
def quoteRoundWrong : ChangeSpec := { name := "quoteRound", fn := fun _ => fun
  | [d] => { results := [.lit (.bool false)], args := [d] }
  | _ => none }
def QuoteRoundWrongFalsely : Prop := quoteRoundRow.holds Try.pinned (OpenSpec.ofChange quoteRoundWrong)

/-- 'hexaplalaw03.QuoteApart': WHATEVER THE INPUT: true; the input reads as it did. -/
def quoteApartSpec : ChangeSpec := { name := "quoteApart", fn := fun _ => fun
  | [d1, d2] => { results := [.lit (.bool true)], args := [d1, d2] }
  | _ => none }
def quoteApartRow : OpenClaim := { program := "ytmboonmefmobcaa", sum := "5aad8e12090c1c88b1268f188e33308a4ade574391d6448fcb929be4d42e8deb", func := "hexapla/hexaplalaw03.QuoteApart", spec := "quoteApart", apart := false }
def QuoteApartSaid : Prop := quoteApartRow.holds Try.pinned (OpenSpec.ofChange quoteApartSpec)

/-- ITS FALSE NEIGHBOUR: 'it returns false'. Refute it at one input. -/
def quoteApartWrong : ChangeSpec := { name := "quoteApart", fn := fun _ => fun
  | [d1, d2] => { results := [.lit (.bool false)], args := [d1, d2] }
  | _ => none }
def QuoteApartWrongFalsely : Prop := quoteApartRow.holds Try.pinned (OpenSpec.ofChange quoteApartWrong)

/- THE SECOND FORM. 'bulk': how many values and letters a reading holds, each counted each time it is reached (what is shared counts as often as it is met; a slice's spare places count too). A statement '..UptoSaid' is the law's where the arguments, and the package variables that the reading takes, are together of bulk at most 1048576: NARROWER than '..Said'. Prove '..Said' where nothing that the law and all that it calls make is longer than what came in: it says more and counts as full. Else prove '..UptoSaid'. A law counts once. -/
mutual
def uptoBulk {H : Type} : DataW H → Nat
  | .lit (.string bytes) => bytes.length + 1
  | .lit _ => 1
  | .nil => 1
  | .ptr d => uptoBulk d + 1
  | .slice elems spare => uptoBulkAll elems + uptoBulkAll spare + 1
  | .agg parts => uptoBulkAll parts + 1
  | .iface _ d => uptoBulk d + 1
  | .map entries => uptoBulkEntries entries + 1
  | .held _ => 1
def uptoBulkAll {H : Type} : List (DataW H) → Nat
  | [] => 0
  | d :: r => uptoBulk d + uptoBulkAll r
def uptoBulkEntries {H : Type} : List (Lit × DataW H) → Nat
  | [] => 0
  | x :: r => uptoBulkEntry x + uptoBulkEntries r
def uptoBulkEntry {H : Type} : Lit × DataW H → Nat
  | (.string bytes, d) => bytes.length + uptoBulk d + 1
  | (_, d) => uptoBulk d + 1
 end
def uptoSmall : (H : Type) → List (DataW H) → Bool := fun _ ds => decide (uptoBulkAll ds ≤ 1048576)
def OpenSpec.upto (s : _root_.Go.ChangeSpec) : _root_.Go.OpenSpec := { _root_.Go.OpenSpec.ofChange s with cond := some uptoSmall }

/-- 'hexaplalaw03.QuotePrints', WHERE WHAT IT READS IS OF BULK AT MOST 1048576: true; the input reads as it did. -/
def quotePrintsUptoRow : OpenClaim := { program := "ytmboonmefmobcaa", sum := "5aad8e12090c1c88b1268f188e33308a4ade574391d6448fcb929be4d42e8deb", func := "hexapla/hexaplalaw03.QuotePrints", spec := "quotePrints", apart := false, narrowed := true }
def QuotePrintsUptoSaid : Prop := quotePrintsUptoRow.holds Try.pinned (OpenSpec.upto quotePrintsSpec)

/-- 'hexaplalaw03.QuoteRound', WHERE WHAT IT READS IS OF BULK AT MOST 1048576: true; the input reads as it did. -/
def quoteRoundUptoRow : OpenClaim := { program := "ytmboonmefmobcaa", sum := "5aad8e12090c1c88b1268f188e33308a4ade574391d6448fcb929be4d42e8deb", func := "hexapla/hexaplalaw03.QuoteRound", spec := "quoteRound", apart := false, narrowed := true }
def QuoteRoundUptoSaid : Prop := quoteRoundUptoRow.holds Try.pinned (OpenSpec.upto quoteRoundSpec)

/-- 'hexaplalaw03.QuoteApart', WHERE WHAT IT READS IS OF BULK AT MOST 1048576: true; the input reads as it did. -/
def quoteApartUptoRow : OpenClaim := { program := "ytmboonmefmobcaa", sum := "5aad8e12090c1c88b1268f188e33308a4ade574391d6448fcb929be4d42e8deb", func := "hexapla/hexaplalaw03.QuoteApart", spec := "quoteApart", apart := false, narrowed := true }
def QuoteApartUptoSaid : Prop := quoteApartUptoRow.holds Try.pinned (OpenSpec.upto quoteApartSpec)

end Rows
end Go.Proofs.Ytmboonmefmobcaa

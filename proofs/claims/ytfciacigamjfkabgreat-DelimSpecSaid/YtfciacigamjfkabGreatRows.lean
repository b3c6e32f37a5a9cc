/-
  NARROWER THAN 'FOR EVERY INPUT', by the rows' own cells (each row's printed sentence says how): OutlineAnchors: loops.
  DERIVED. THE GIVEN ROWS OF THIS SEAT. 10 by the template 'for every input the law returns true; each argument reads behind the call as it read before'; 0 by the template 'total and deterministic' (their statements: YtfciacigamjfkabGreatTotals.lean).
  GIVEN WITH THE SEED: the statements are not yours to turn. If you find one false, say at which input.
  Laid BY PROGRAM, IN A SANDBOX (cutbox-rows.mjs): the forced cells as the released guide's own fill.sh prints them over the translation 6c9a5c7ca5052a11… (all of the seat's roots in one cut). By AI agents, Wed Nov 11 2026. No macro, syntax, notation, axiom, sorry.
-/
import Derived.Test.YtfciacigamjfkabGreatChecked
import GoSem.Claim
import GoSem.ClaimJoined
import GoSem.ClaimMapViews
import Derived.JoinedTies
import Derived.KernelRfl
namespace Go.Proofs.YtfciacigamjfkabGreat
/- THE CELL 'sum', in the pinned program and in every row, IS THE sha256 OF THE DUMP (.gsa) THAT YtfciacigamjfkabGreatProg.lean LOADS. Nothing in Lean hashes anything: it is a label: what it is worth is what the hold of that sum in a sandbox is worth. -/
noncomputable def Tryz.pinned : Pinned := { name := "ytfciacigamjfkabgreat", sum := "6c9a5c7ca5052a118c164aa70d88333c9b23ec9ac2ca0c4dc9fc55164af267b4", checked := Tryz.checked }
namespace Rows
def none {H : Type} : Left H := { results := [], args := [] }

/-- 'hexaplalaw09.DelimSpec': WHATEVER THE INPUT: true; the input reads as it did. -/
def delimSpecSpec : ChangeSpec := { name := "delimSpec", fn := fun _ => fun
  | [d] => { results := [.lit (.bool true)], args := [d] }
  | _ => none }
def delimSpecRow : OpenClaim := { program := "ytfciacigamjfkabgreat", sum := "6c9a5c7ca5052a118c164aa70d88333c9b23ec9ac2ca0c4dc9fc55164af267b4", func := "hexapla/hexaplalaw09.DelimSpec", spec := "delimSpec", unfollowed := true, recurses := true, apart := false }
def DelimSpecSaid : Prop := delimSpecRow.holds Tryz.pinned (OpenSpec.ofChange delimSpecSpec)

/-- ITS FALSE NEIGHBOUR: 'it returns false'. Refute it at one input. -/
def delimSpecWrong : ChangeSpec := { name := "delimSpec", fn := fun _ => fun
  | [d] => { results := [.lit (.bool false)], args := [d] }
  | _ => none }
def DelimSpecWrongFalsely : Prop := delimSpecRow.holds Tryz.pinned (OpenSpec.ofChange delimSpecWrong)

/-- 'hexaplalaw09.DelimChunks': WHATEVER THE INPUT: true; the input reads as it did. -/
def delimChunksSpec : ChangeSpec := { name := "delimChunks", fn := fun _ => fun
  | [d1, d2, d3] => { results := [.lit (.bool true)], args := [d1, d2, d3] }
  | _ => none }
def delimChunksRow : OpenClaim := { program := "ytfciacigamjfkabgreat", sum := "6c9a5c7ca5052a118c164aa70d88333c9b23ec9ac2ca0c4dc9fc55164af267b4", func := "hexapla/hexaplalaw09.DelimChunks", spec := "delimChunks", unfollowed := true, recurses := true, apart := false }
def DelimChunksSaid : Prop := delimChunksRow.holds Tryz.pinned (OpenSpec.ofChange delimChunksSpec)

/-- ITS FALSE NEIGHBOUR: 'it returns false'. Refute it at one input. -/
def delimChunksWrong : ChangeSpec := { name := "delimChunks", fn := fun _ => fun
  | [d1, d2, d3] => { results := [.lit (.bool false)], args := [d1, d2, d3] }
  | _ => none }
def DelimChunksWrongFalsely : Prop := delimChunksRow.holds Tryz.pinned (OpenSpec.ofChange delimChunksWrong)

/-- 'hexaplalaw09.DelimEarly': WHATEVER THE INPUT: true; the input reads as it did. -/
def delimEarlySpec : ChangeSpec := { name := "delimEarly", fn := fun _ => fun
  | [d1, d2] => { results := [.lit (.bool true)], args := [d1, d2] }
  | _ => none }
def delimEarlyRow : OpenClaim := { program := "ytfciacigamjfkabgreat", sum := "6c9a5c7ca5052a118c164aa70d88333c9b23ec9ac2ca0c4dc9fc55164af267b4", func := "hexapla/hexaplalaw09.DelimEarly", spec := "delimEarly", unfollowed := true, recurses := true, apart := false }
def DelimEarlySaid : Prop := delimEarlyRow.holds Tryz.pinned (OpenSpec.ofChange delimEarlySpec)

/-- ITS FALSE NEIGHBOUR: 'it returns false'. Refute it at one input. -/
def delimEarlyWrong : ChangeSpec := { name := "delimEarly", fn := fun _ => fun
  | [d1, d2] => { results := [.lit (.bool false)], args := [d1, d2] }
  | _ => none }
def DelimEarlyWrongFalsely : Prop := delimEarlyRow.holds Tryz.pinned (OpenSpec.ofChange delimEarlyWrong)

/-- 'hexaplalaw09.DelimStays': WHATEVER THE INPUT: true; the input reads as it did. -/
def delimStaysSpec : ChangeSpec := { name := "delimStays", fn := fun _ => fun
  | [d] => { results := [.lit (.bool true)], args := [d] }
  | _ => none }
def delimStaysRow : OpenClaim := { program := "ytfciacigamjfkabgreat", sum := "6c9a5c7ca5052a118c164aa70d88333c9b23ec9ac2ca0c4dc9fc55164af267b4", func := "hexapla/hexaplalaw09.DelimStays", spec := "delimStays", unfollowed := true, recurses := true, apart := false }
def DelimStaysSaid : Prop := delimStaysRow.holds Tryz.pinned (OpenSpec.ofChange delimStaysSpec)

/-- ITS FALSE NEIGHBOUR: 'it returns false'. Refute it at one input. -/
def delimStaysWrong : ChangeSpec := { name := "delimStays", fn := fun _ => fun
  | [d] => { results := [.lit (.bool false)], args := [d] }
  | _ => none }
def DelimStaysWrongFalsely : Prop := delimStaysRow.holds Tryz.pinned (OpenSpec.ofChange delimStaysWrong)

/-- 'hexaplalaw09.DelimQuotes': WHATEVER THE INPUT: true; the input reads as it did. -/
def delimQuotesSpec : ChangeSpec := { name := "delimQuotes", fn := fun _ => fun
  | [d] => { results := [.lit (.bool true)], args := [d] }
  | _ => none }
def delimQuotesRow : OpenClaim := { program := "ytfciacigamjfkabgreat", sum := "6c9a5c7ca5052a118c164aa70d88333c9b23ec9ac2ca0c4dc9fc55164af267b4", func := "hexapla/hexaplalaw09.DelimQuotes", spec := "delimQuotes", unfollowed := true, recurses := true, apart := false }
def DelimQuotesSaid : Prop := delimQuotesRow.holds Tryz.pinned (OpenSpec.ofChange delimQuotesSpec)

/-- ITS FALSE NEIGHBOUR: 'it returns false'. Refute it at one input. -/
def delimQuotesWrong : ChangeSpec := { name := "delimQuotes", fn := fun _ => fun
  | [d] => { results := [.lit (.bool false)], args := [d] }
  | _ => none }
def DelimQuotesWrongFalsely : Prop := delimQuotesRow.holds Tryz.pinned (OpenSpec.ofChange delimQuotesWrong)

/-- 'hexaplalaw11.OutlineSpec': WHATEVER THE INPUT: true; the input reads as it did. -/
def outlineSpecSpec : ChangeSpec := { name := "outlineSpec", fn := fun _ => fun
  | [d] => { results := [.lit (.bool true)], args := [d] }
  | _ => none }
def outlineSpecRow : OpenClaim := { program := "ytfciacigamjfkabgreat", sum := "6c9a5c7ca5052a118c164aa70d88333c9b23ec9ac2ca0c4dc9fc55164af267b4", func := "hexapla/hexaplalaw11.OutlineSpec", spec := "outlineSpec", unfollowed := true, recurses := true, apart := false }
def OutlineSpecSaid : Prop := outlineSpecRow.holds Tryz.pinned (OpenSpec.ofChange outlineSpecSpec)

/-- ITS FALSE NEIGHBOUR: 'it returns false'. Refute it at one input. -/
def outlineSpecWrong : ChangeSpec := { name := "outlineSpec", fn := fun _ => fun
  | [d] => { results := [.lit (.bool false)], args := [d] }
  | _ => none }
def OutlineSpecWrongFalsely : Prop := outlineSpecRow.holds Tryz.pinned (OpenSpec.ofChange outlineSpecWrong)

/-- 'hexaplalaw11.OutlineChunks': WHATEVER THE INPUT: true; the input reads as it did. -/
def outlineChunksSpec : ChangeSpec := { name := "outlineChunks", fn := fun _ => fun
  | [d1, d2, d3] => { results := [.lit (.bool true)], args := [d1, d2, d3] }
  | _ => none }
def outlineChunksRow : OpenClaim := { program := "ytfciacigamjfkabgreat", sum := "6c9a5c7ca5052a118c164aa70d88333c9b23ec9ac2ca0c4dc9fc55164af267b4", func := "hexapla/hexaplalaw11.OutlineChunks", spec := "outlineChunks", unfollowed := true, recurses := true, apart := false }
def OutlineChunksSaid : Prop := outlineChunksRow.holds Tryz.pinned (OpenSpec.ofChange outlineChunksSpec)

/-- ITS FALSE NEIGHBOUR: 'it returns false'. Refute it at one input. -/
def outlineChunksWrong : ChangeSpec := { name := "outlineChunks", fn := fun _ => fun
  | [d1, d2, d3] => { results := [.lit (.bool false)], args := [d1, d2, d3] }
  | _ => none }
def OutlineChunksWrongFalsely : Prop := outlineChunksRow.holds Tryz.pinned (OpenSpec.ofChange outlineChunksWrong)

/-- 'hexaplalaw11.OutlineEarly': WHATEVER THE INPUT: true; the input reads as it did. -/
def outlineEarlySpec : ChangeSpec := { name := "outlineEarly", fn := fun _ => fun
  | [d1, d2] => { results := [.lit (.bool true)], args := [d1, d2] }
  | _ => none }
def outlineEarlyRow : OpenClaim := { program := "ytfciacigamjfkabgreat", sum := "6c9a5c7ca5052a118c164aa70d88333c9b23ec9ac2ca0c4dc9fc55164af267b4", func := "hexapla/hexaplalaw11.OutlineEarly", spec := "outlineEarly", unfollowed := true, recurses := true, apart := false }
def OutlineEarlySaid : Prop := outlineEarlyRow.holds Tryz.pinned (OpenSpec.ofChange outlineEarlySpec)

/-- ITS FALSE NEIGHBOUR: 'it returns false'. Refute it at one input. -/
def outlineEarlyWrong : ChangeSpec := { name := "outlineEarly", fn := fun _ => fun
  | [d1, d2] => { results := [.lit (.bool false)], args := [d1, d2] }
  | _ => none }
def OutlineEarlyWrongFalsely : Prop := outlineEarlyRow.holds Tryz.pinned (OpenSpec.ofChange outlineEarlyWrong)

/-- 'hexaplalaw11.OutlineStays': WHATEVER THE INPUT: true; the input reads as it did. -/
def outlineStaysSpec : ChangeSpec := { name := "outlineStays", fn := fun _ => fun
  | [d] => { results := [.lit (.bool true)], args := [d] }
  | _ => none }
def outlineStaysRow : OpenClaim := { program := "ytfciacigamjfkabgreat", sum := "6c9a5c7ca5052a118c164aa70d88333c9b23ec9ac2ca0c4dc9fc55164af267b4", func := "hexapla/hexaplalaw11.OutlineStays", spec := "outlineStays", unfollowed := true, recurses := true, apart := false }
def OutlineStaysSaid : Prop := outlineStaysRow.holds Tryz.pinned (OpenSpec.ofChange outlineStaysSpec)

/-- ITS FALSE NEIGHBOUR: 'it returns false'. Refute it at one input. -/
def outlineStaysWrong : ChangeSpec := { name := "outlineStays", fn := fun _ => fun
  | [d] => { results := [.lit (.bool false)], args := [d] }
  | _ => none }
def OutlineStaysWrongFalsely : Prop := outlineStaysRow.holds Tryz.pinned (OpenSpec.ofChange outlineStaysWrong)

/-- 'hexaplalaw11.OutlineAnchors': WHATEVER THE INPUT: true; the input reads as it did. -/
def outlineAnchorsSpec : ChangeSpec := { name := "outlineAnchors", fn := fun _ => fun
  | [d] => { results := [.lit (.bool true)], args := [d] }
  | _ => none }
def outlineAnchorsRow : OpenClaim := { program := "ytfciacigamjfkabgreat", sum := "6c9a5c7ca5052a118c164aa70d88333c9b23ec9ac2ca0c4dc9fc55164af267b4", func := "hexapla/hexaplalaw11.OutlineAnchors", spec := "outlineAnchors", unfollowed := true, recurses := true, loops := true, apart := false }
def OutlineAnchorsSaid : Prop := outlineAnchorsRow.holds Tryz.pinned (OpenSpec.ofChange outlineAnchorsSpec)

/-- ITS FALSE NEIGHBOUR: 'it returns false'. Refute it at one input. -/
def outlineAnchorsWrong : ChangeSpec := { name := "outlineAnchors", fn := fun _ => fun
  | [d] => { results := [.lit (.bool false)], args := [d] }
  | _ => none }
def OutlineAnchorsWrongFalsely : Prop := outlineAnchorsRow.holds Tryz.pinned (OpenSpec.ofChange outlineAnchorsWrong)

/- THE SECOND FORM. 'bulk': how many values and letters a reading holds, each counted each time it is reached (what is shared counts as often as it is met; a slice's spare places count too). A statement '..UptoSaid' is the law's where the arguments, and the package variables that the reading takes, are together of bulk at most 1048576: NARROWER than '..Said'. Prove '..Said' where nothing that the law and all that it calls make is longer than what came in: it says more and counts as full. Else prove '..UptoSaid'. A law counts once. -/
mutual
def uptoBulk {H : Type} : DataW H → Nat
  | .lit (.string bytes) => bytes.length + 1
  | .lit _ => 1
  | .nil => 1
  | .ptr d => uptoBulk d + 1
  | .slice elems spare => uptoBulkAll elems + uptoBulkAll spare + 1
  | .agg parts => uptoBulkAll parts + 1
  | .iface _ d => uptoBulk d + 1
  | .map entries => uptoBulkEntries entries + 1
  | .held _ => 1
def uptoBulkAll {H : Type} : List (DataW H) → Nat
  | [] => 0
  | d :: r => uptoBulk d + uptoBulkAll r
def uptoBulkEntries {H : Type} : List (Lit × DataW H) → Nat
  | [] => 0
  | x :: r => uptoBulkEntry x + uptoBulkEntries r
def uptoBulkEntry {H : Type} : Lit × DataW H → Nat
  | (.string bytes, d) => bytes.length + uptoBulk d + 1
  | (_, d) => uptoBulk d + 1
 end
def uptoSmall : (H : Type) → List (DataW H) → Bool := fun _ ds => decide (uptoBulkAll ds ≤ 1048576)
def OpenSpec.upto (s : _root_.Go.ChangeSpec) : _root_.Go.OpenSpec := { _root_.Go.OpenSpec.ofChange s with cond := some uptoSmall }

/-- 'hexaplalaw09.DelimSpec', WHERE WHAT IT READS IS OF BULK AT MOST 1048576: true; the input reads as it did. -/
def delimSpecUptoRow : OpenClaim := { program := "ytfciacigamjfkabgreat", sum := "6c9a5c7ca5052a118c164aa70d88333c9b23ec9ac2ca0c4dc9fc55164af267b4", func := "hexapla/hexaplalaw09.DelimSpec", spec := "delimSpec", unfollowed := true, recurses := true, apart := false, narrowed := true }
def DelimSpecUptoSaid : Prop := delimSpecUptoRow.holds Tryz.pinned (OpenSpec.upto delimSpecSpec)

/-- 'hexaplalaw09.DelimChunks', WHERE WHAT IT READS IS OF BULK AT MOST 1048576: true; the input reads as it did. -/
def delimChunksUptoRow : OpenClaim := { program := "ytfciacigamjfkabgreat", sum := "6c9a5c7ca5052a118c164aa70d88333c9b23ec9ac2ca0c4dc9fc55164af267b4", func := "hexapla/hexaplalaw09.DelimChunks", spec := "delimChunks", unfollowed := true, recurses := true, apart := false, narrowed := true }
def DelimChunksUptoSaid : Prop := delimChunksUptoRow.holds Tryz.pinned (OpenSpec.upto delimChunksSpec)

/-- 'hexaplalaw09.DelimEarly', WHERE WHAT IT READS IS OF BULK AT MOST 1048576: true; the input reads as it did. -/
def delimEarlyUptoRow : OpenClaim := { program := "ytfciacigamjfkabgreat", sum := "6c9a5c7ca5052a118c164aa70d88333c9b23ec9ac2ca0c4dc9fc55164af267b4", func := "hexapla/hexaplalaw09.DelimEarly", spec := "delimEarly", unfollowed := true, recurses := true, apart := false, narrowed := true }
def DelimEarlyUptoSaid : Prop := delimEarlyUptoRow.holds Tryz.pinned (OpenSpec.upto delimEarlySpec)

/-- 'hexaplalaw09.DelimStays', WHERE WHAT IT READS IS OF BULK AT MOST 1048576: true; the input reads as it did. -/
def delimStaysUptoRow : OpenClaim := { program := "ytfciacigamjfkabgreat", sum := "6c9a5c7ca5052a118c164aa70d88333c9b23ec9ac2ca0c4dc9fc55164af267b4", func := "hexapla/hexaplalaw09.DelimStays", spec := "delimStays", unfollowed := true, recurses := true, apart := false, narrowed := true }
def DelimStaysUptoSaid : Prop := delimStaysUptoRow.holds Tryz.pinned (OpenSpec.upto delimStaysSpec)

/-- 'hexaplalaw09.DelimQuotes', WHERE WHAT IT READS IS OF BULK AT MOST 1048576: true; the input reads as it did. -/
def delimQuotesUptoRow : OpenClaim := { program := "ytfciacigamjfkabgreat", sum := "6c9a5c7ca5052a118c164aa70d88333c9b23ec9ac2ca0c4dc9fc55164af267b4", func := "hexapla/hexaplalaw09.DelimQuotes", spec := "delimQuotes", unfollowed := true, recurses := true, apart := false, narrowed := true }
def DelimQuotesUptoSaid : Prop := delimQuotesUptoRow.holds Tryz.pinned (OpenSpec.upto delimQuotesSpec)

/-- 'hexaplalaw11.OutlineSpec', WHERE WHAT IT READS IS OF BULK AT MOST 1048576: true; the input reads as it did. -/
def outlineSpecUptoRow : OpenClaim := { program := "ytfciacigamjfkabgreat", sum := "6c9a5c7ca5052a118c164aa70d88333c9b23ec9ac2ca0c4dc9fc55164af267b4", func := "hexapla/hexaplalaw11.OutlineSpec", spec := "outlineSpec", unfollowed := true, recurses := true, apart := false, narrowed := true }
def OutlineSpecUptoSaid : Prop := outlineSpecUptoRow.holds Tryz.pinned (OpenSpec.upto outlineSpecSpec)

/-- 'hexaplalaw11.OutlineChunks', WHERE WHAT IT READS IS OF BULK AT MOST 1048576: true; the input reads as it did. -/
def outlineChunksUptoRow : OpenClaim := { program := "ytfciacigamjfkabgreat", sum := "6c9a5c7ca5052a118c164aa70d88333c9b23ec9ac2ca0c4dc9fc55164af267b4", func := "hexapla/hexaplalaw11.OutlineChunks", spec := "outlineChunks", unfollowed := true, recurses := true, apart := false, narrowed := true }
def OutlineChunksUptoSaid : Prop := outlineChunksUptoRow.holds Tryz.pinned (OpenSpec.upto outlineChunksSpec)

/-- 'hexaplalaw11.OutlineEarly', WHERE WHAT IT READS IS OF BULK AT MOST 1048576: true; the input reads as it did. -/
def outlineEarlyUptoRow : OpenClaim := { program := "ytfciacigamjfkabgreat", sum := "6c9a5c7ca5052a118c164aa70d88333c9b23ec9ac2ca0c4dc9fc55164af267b4", func := "hexapla/hexaplalaw11.OutlineEarly", spec := "outlineEarly", unfollowed := true, recurses := true, apart := false, narrowed := true }
def OutlineEarlyUptoSaid : Prop := outlineEarlyUptoRow.holds Tryz.pinned (OpenSpec.upto outlineEarlySpec)

/-- 'hexaplalaw11.OutlineStays', WHERE WHAT IT READS IS OF BULK AT MOST 1048576: true; the input reads as it did. -/
def outlineStaysUptoRow : OpenClaim := { program := "ytfciacigamjfkabgreat", sum := "6c9a5c7ca5052a118c164aa70d88333c9b23ec9ac2ca0c4dc9fc55164af267b4", func := "hexapla/hexaplalaw11.OutlineStays", spec := "outlineStays", unfollowed := true, recurses := true, apart := false, narrowed := true }
def OutlineStaysUptoSaid : Prop := outlineStaysUptoRow.holds Tryz.pinned (OpenSpec.upto outlineStaysSpec)

/-- 'hexaplalaw11.OutlineAnchors', WHERE WHAT IT READS IS OF BULK AT MOST 1048576: true; the input reads as it did. -/
def outlineAnchorsUptoRow : OpenClaim := { program := "ytfciacigamjfkabgreat", sum := "6c9a5c7ca5052a118c164aa70d88333c9b23ec9ac2ca0c4dc9fc55164af267b4", func := "hexapla/hexaplalaw11.OutlineAnchors", spec := "outlineAnchors", unfollowed := true, recurses := true, loops := true, apart := false, narrowed := true }
def OutlineAnchorsUptoSaid : Prop := outlineAnchorsUptoRow.holds Tryz.pinned (OpenSpec.upto outlineAnchorsSpec)

end Rows
end Go.Proofs.YtfciacigamjfkabGreat

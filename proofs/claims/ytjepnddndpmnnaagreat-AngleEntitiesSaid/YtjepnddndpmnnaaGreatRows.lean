/-
  No cell of these rows narrows 'for every input' (looked for: loops, veiled, ifaces, maps, wideKeys, modest, calm, conditions, laid).
  DERIVED. THE GIVEN ROWS OF THIS SEAT. 5 by the template 'for every input the law returns true; each argument reads behind the call as it read before'; 0 by the template 'total and deterministic' (their statements: YtjepnddndpmnnaaGreatTotals.lean).
  GIVEN WITH THE SEED: the statements are not yours to turn. If you find one false, say at which input.
  Laid BY PROGRAM, IN A SANDBOX (cutbox-rows.mjs): the forced cells as the released guide's own fill.sh prints them over the translation 3d415229ec03c074… (all of the seat's roots in one cut). By AI agents, Wed Nov 11 2026. No macro, syntax, notation, axiom, sorry.
-/
import Derived.Test.YtjepnddndpmnnaaGreatChecked
import GoSem.Claim
import GoSem.ClaimJoined
import GoSem.ClaimMapViews
import Derived.JoinedTies
import Derived.KernelRfl
namespace Go.Proofs.YtjepnddndpmnnaaGreat
/- THE CELL 'sum', in the pinned program and in every row, IS THE sha256 OF THE DUMP (.gsa) THAT YtjepnddndpmnnaaGreatProg.lean LOADS. Nothing in Lean hashes anything: it is a label: what it is worth is what the hold of that sum in a sandbox is worth. -/
noncomputable def Tryz.pinned : Pinned := { name := "ytjepnddndpmnnaagreat", sum := "3d415229ec03c07481996cf43330e1ced252f3f112971e2b24953b8a092328a9", checked := Tryz.checked }
namespace Rows
def none {H : Type} : Left H := { results := [], args := [] }

/-- 'hexaplalaw14.AngleSpec': WHATEVER THE INPUT: true; the input reads as it did. -/
def angleSpecSpec : ChangeSpec := { name := "angleSpec", fn := fun _ => fun
  | [d] => { results := [.lit (.bool true)], args := [d] }
  | _ => none }
def angleSpecRow : OpenClaim := { program := "ytjepnddndpmnnaagreat", sum := "3d415229ec03c07481996cf43330e1ced252f3f112971e2b24953b8a092328a9", func := "hexapla/hexaplalaw14.AngleSpec", spec := "angleSpec", unfollowed := true, recurses := true, apart := false }
def AngleSpecSaid : Prop := angleSpecRow.holds Tryz.pinned (OpenSpec.ofChange angleSpecSpec)

/-- ITS FALSE NEIGHBOUR: 'it returns false'. Refute it at one input. -/
def angleSpecWrong : ChangeSpec := { name := "angleSpec", fn := fun _ => fun
  | [d] => { results := [.lit (.bool false)], args := [d] }
  | _ => none }
def AngleSpecWrongFalsely : Prop := angleSpecRow.holds Tryz.pinned (OpenSpec.ofChange angleSpecWrong)

/-- 'hexaplalaw14.AngleChunks': WHATEVER THE INPUT: true; the input reads as it did. -/
def angleChunksSpec : ChangeSpec := { name := "angleChunks", fn := fun _ => fun
  | [d1, d2, d3] => { results := [.lit (.bool true)], args := [d1, d2, d3] }
  | _ => none }
def angleChunksRow : OpenClaim := { program := "ytjepnddndpmnnaagreat", sum := "3d415229ec03c07481996cf43330e1ced252f3f112971e2b24953b8a092328a9", func := "hexapla/hexaplalaw14.AngleChunks", spec := "angleChunks", unfollowed := true, recurses := true, apart := false }
def AngleChunksSaid : Prop := angleChunksRow.holds Tryz.pinned (OpenSpec.ofChange angleChunksSpec)

/-- ITS FALSE NEIGHBOUR: 'it returns false'. Refute it at one input. -/
def angleChunksWrong : ChangeSpec := { name := "angleChunks", fn := fun _ => fun
  | [d1, d2, d3] => { results := [.lit (.bool false)], args := [d1, d2, d3] }
  | _ => none }
def AngleChunksWrongFalsely : Prop := angleChunksRow.holds Tryz.pinned (OpenSpec.ofChange angleChunksWrong)

/-- 'hexaplalaw14.AngleEarly': WHATEVER THE INPUT: true; the input reads as it did. -/
def angleEarlySpec : ChangeSpec := { name := "angleEarly", fn := fun _ => fun
  | [d1, d2] => { results := [.lit (.bool true)], args := [d1, d2] }
  | _ => none }
def angleEarlyRow : OpenClaim := { program := "ytjepnddndpmnnaagreat", sum := "3d415229ec03c07481996cf43330e1ced252f3f112971e2b24953b8a092328a9", func := "hexapla/hexaplalaw14.AngleEarly", spec := "angleEarly", unfollowed := true, recurses := true, apart := false }
def AngleEarlySaid : Prop := angleEarlyRow.holds Tryz.pinned (OpenSpec.ofChange angleEarlySpec)

/-- ITS FALSE NEIGHBOUR: 'it returns false'. Refute it at one input. -/
def angleEarlyWrong : ChangeSpec := { name := "angleEarly", fn := fun _ => fun
  | [d1, d2] => { results := [.lit (.bool false)], args := [d1, d2] }
  | _ => none }
def AngleEarlyWrongFalsely : Prop := angleEarlyRow.holds Tryz.pinned (OpenSpec.ofChange angleEarlyWrong)

/-- 'hexaplalaw14.AngleStays': WHATEVER THE INPUT: true; the input reads as it did. -/
def angleStaysSpec : ChangeSpec := { name := "angleStays", fn := fun _ => fun
  | [d] => { results := [.lit (.bool true)], args := [d] }
  | _ => none }
def angleStaysRow : OpenClaim := { program := "ytjepnddndpmnnaagreat", sum := "3d415229ec03c07481996cf43330e1ced252f3f112971e2b24953b8a092328a9", func := "hexapla/hexaplalaw14.AngleStays", spec := "angleStays", unfollowed := true, recurses := true, apart := false }
def AngleStaysSaid : Prop := angleStaysRow.holds Tryz.pinned (OpenSpec.ofChange angleStaysSpec)

/-- ITS FALSE NEIGHBOUR: 'it returns false'. Refute it at one input. -/
def angleStaysWrong : ChangeSpec := { name := "angleStays", fn := fun _ => fun
  | [d] => { results := [.lit (.bool false)], args := [d] }
  | _ => none }
def AngleStaysWrongFalsely : Prop := angleStaysRow.holds Tryz.pinned (OpenSpec.ofChange angleStaysWrong)

/-- 'hexaplalaw14.AngleEntities': WHATEVER THE INPUT: true; the input reads as it did. -/
def angleEntitiesSpec : ChangeSpec := { name := "angleEntities", fn := fun _ => fun
  | [d] => { results := [.lit (.bool true)], args := [d] }
  | _ => none }
def angleEntitiesRow : OpenClaim := { program := "ytjepnddndpmnnaagreat", sum := "3d415229ec03c07481996cf43330e1ced252f3f112971e2b24953b8a092328a9", func := "hexapla/hexaplalaw14.AngleEntities", spec := "angleEntities", unfollowed := true, recurses := true, apart := false }
def AngleEntitiesSaid : Prop := angleEntitiesRow.holds Tryz.pinned (OpenSpec.ofChange angleEntitiesSpec)

/-- ITS FALSE NEIGHBOUR: 'it returns false'. Refute it at one input. -/
def angleEntitiesWrong : ChangeSpec := { name := "angleEntities", fn := fun _ => fun
  | [d] => { results := [.lit (.bool false)], args := [d] }
  | _ => none }
def AngleEntitiesWrongFalsely : Prop := angleEntitiesRow.holds Tryz.pinned (OpenSpec.ofChange angleEntitiesWrong)

/- THE SECOND FORM. 'bulk': how many values and letters a reading holds, each counted each time it is reached (what is shared counts as often as it is met; a slice's spare places count too). A statement '..UptoSaid' is the law's where the arguments, and the package variables that the reading takes, are together of bulk at most 1048576: NARROWER than '..Said'. Prove '..Said' where nothing that the law and all that it calls make is longer than what came in: it says more and counts as full. Else prove '..UptoSaid'. A law counts once. -/
mutual
def uptoBulk {H : Type} : DataW H → Nat
  | .lit (.string bytes) => bytes.length + 1
  | .lit _ => 1
  | .nil => 1
  | .ptr d => uptoBulk d + 1
  | .slice elems spare => uptoBulkAll elems + uptoBulkAll spare + 1
  | .agg parts => uptoBulkAll parts + 1
  | .iface _ d => uptoBulk d + 1
  | .map entries => uptoBulkEntries entries + 1
  | .held _ => 1
def uptoBulkAll {H : Type} : List (DataW H) → Nat
  | [] => 0
  | d :: r => uptoBulk d + uptoBulkAll r
def uptoBulkEntries {H : Type} : List (Lit × DataW H) → Nat
  | [] => 0
  | x :: r => uptoBulkEntry x + uptoBulkEntries r
def uptoBulkEntry {H : Type} : Lit × DataW H → Nat
  | (.string bytes, d) => bytes.length + uptoBulk d + 1
  | (_, d) => uptoBulk d + 1
 end
def uptoSmall : (H : Type) → List (DataW H) → Bool := fun _ ds => decide (uptoBulkAll ds ≤ 1048576)
def OpenSpec.upto (s : _root_.Go.ChangeSpec) : _root_.Go.OpenSpec := { _root_.Go.OpenSpec.ofChange s with cond := some uptoSmall }

/-- 'hexaplalaw14.AngleSpec', WHERE WHAT IT READS IS OF BULK AT MOST 1048576: true; the input reads as it did. -/
def angleSpecUptoRow : OpenClaim := { program := "ytjepnddndpmnnaagreat", sum := "3d415229ec03c07481996cf43330e1ced252f3f112971e2b24953b8a092328a9", func := "hexapla/hexaplalaw14.AngleSpec", spec := "angleSpec", unfollowed := true, recurses := true, apart := false, narrowed := true }
def AngleSpecUptoSaid : Prop := angleSpecUptoRow.holds Tryz.pinned (OpenSpec.upto angleSpecSpec)

/-- 'hexaplalaw14.AngleChunks', WHERE WHAT IT READS IS OF BULK AT MOST 1048576: true; the input reads as it did. -/
def angleChunksUptoRow : OpenClaim := { program := "ytjepnddndpmnnaagreat", sum := "3d415229ec03c07481996cf43330e1ced252f3f112971e2b24953b8a092328a9", func := "hexapla/hexaplalaw14.AngleChunks", spec := "angleChunks", unfollowed := true, recurses := true, apart := false, narrowed := true }
def AngleChunksUptoSaid : Prop := angleChunksUptoRow.holds Tryz.pinned (OpenSpec.upto angleChunksSpec)

/-- 'hexaplalaw14.AngleEarly', WHERE WHAT IT READS IS OF BULK AT MOST 1048576: true; the input reads as it did. -/
def angleEarlyUptoRow : OpenClaim := { program := "ytjepnddndpmnnaagreat", sum := "3d415229ec03c07481996cf43330e1ced252f3f112971e2b24953b8a092328a9", func := "hexapla/hexaplalaw14.AngleEarly", spec := "angleEarly", unfollowed := true, recurses := true, apart := false, narrowed := true }
def AngleEarlyUptoSaid : Prop := angleEarlyUptoRow.holds Tryz.pinned (OpenSpec.upto angleEarlySpec)

/-- 'hexaplalaw14.AngleStays', WHERE WHAT IT READS IS OF BULK AT MOST 1048576: true; the input reads as it did. -/
def angleStaysUptoRow : OpenClaim := { program := "ytjepnddndpmnnaagreat", sum := "3d415229ec03c07481996cf43330e1ced252f3f112971e2b24953b8a092328a9", func := "hexapla/hexaplalaw14.AngleStays", spec := "angleStays", unfollowed := true, recurses := true, apart := false, narrowed := true }
def AngleStaysUptoSaid : Prop := angleStaysUptoRow.holds Tryz.pinned (OpenSpec.upto angleStaysSpec)

/-- 'hexaplalaw14.AngleEntities', WHERE WHAT IT READS IS OF BULK AT MOST 1048576: true; the input reads as it did. -/
def angleEntitiesUptoRow : OpenClaim := { program := "ytjepnddndpmnnaagreat", sum := "3d415229ec03c07481996cf43330e1ced252f3f112971e2b24953b8a092328a9", func := "hexapla/hexaplalaw14.AngleEntities", spec := "angleEntities", unfollowed := true, recurses := true, apart := false, narrowed := true }
def AngleEntitiesUptoSaid : Prop := angleEntitiesUptoRow.holds Tryz.pinned (OpenSpec.upto angleEntitiesSpec)

end Rows
end Go.Proofs.YtjepnddndpmnnaaGreat

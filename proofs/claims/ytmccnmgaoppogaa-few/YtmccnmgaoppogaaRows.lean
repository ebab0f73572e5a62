/-
  No cell of these rows narrows 'for every input' (looked for: loops, veiled, ifaces, maps, wideKeys, modest, calm, conditions, laid).
  DERIVED. THE GIVEN ROWS OF THIS SEAT. 9 by the template 'for every input the law returns true; each argument reads behind the call as it read before'; 0 by the template 'total and deterministic' (their statements: YtmccnmgaoppogaaTotals.lean).
  GIVEN WITH THE SEED: the statements are not yours to turn. If you find one false, say at which input.
  Laid BY PROGRAM, IN A SANDBOX (cutbox-rows.mjs): the forced cells as the released guide's own fill.sh prints them over the translation c241f37dae2bf0ce… (all of the seat's roots in one cut). By AI agents, Wed Nov 11 2026. No macro, syntax, notation, axiom, sorry.
-/
import Derived.Test.YtmccnmgaoppogaaChecked
import GoSem.Claim
import GoSem.ClaimJoined
import GoSem.ClaimMapViews
import Derived.JoinedTies
import Derived.KernelRfl
namespace Go.Proofs.Ytmccnmgaoppogaa
/- THE CELL 'sum', in the pinned program and in every row, IS THE sha256 OF THE DUMP (.gsa) THAT YtmccnmgaoppogaaProg.lean LOADS. Nothing in Lean hashes anything: it is a label: what it is worth is what the hold of that sum in a sandbox is worth. -/
noncomputable def Try.pinned : Pinned := { name := "ytmccnmgaoppogaa", sum := "c241f37dae2bf0cef14e552f100a3c299cbce6ab424979999e4cba38a1576c72", checked := Try.checked }
namespace Rows
def none {H : Type} : Left H := { results := [], args := [] }

/-- 'weirlaw.Packs': WHATEVER THE INPUT: true; the input reads as it did. -/
def packsSpec : ChangeSpec := { name := "packs", fn := fun _ => fun
  | [d] => { results := [.lit (.bool true)], args := [d] }
  | _ => none }
def packsRow : OpenClaim := { program := "ytmccnmgaoppogaa", sum := "c241f37dae2bf0cef14e552f100a3c299cbce6ab424979999e4cba38a1576c72", func := "weir/weirlaw.Packs", spec := "packs", apart := false }
def PacksSaid : Prop := packsRow.holds Try.pinned (OpenSpec.ofChange packsSpec)

/-- ITS FALSE NEIGHBOUR: 'it returns false'. Refute it at one input. -/
def packsWrong : ChangeSpec := { name := "packs", fn := fun _ => fun
  | [d] => { results := [.lit (.bool false)], args := [d] }
  | _ => none }
def PacksWrongFalsely : Prop := packsRow.holds Try.pinned (OpenSpec.ofChange packsWrong)

/-- 'weirlaw.Unpacks': WHATEVER THE INPUT: true; the input reads as it did. -/
def unpacksSpec : ChangeSpec := { name := "unpacks", fn := fun _ => fun
  | [d] => { results := [.lit (.bool true)], args := [d] }
  | _ => none }
def unpacksRow : OpenClaim := { program := "ytmccnmgaoppogaa", sum := "c241f37dae2bf0cef14e552f100a3c299cbce6ab424979999e4cba38a1576c72", func := "weir/weirlaw.Unpacks", spec := "unpacks", apart := false }
def UnpacksSaid : Prop := unpacksRow.holds Try.pinned (OpenSpec.ofChange unpacksSpec)

/-- ITS FALSE NEIGHBOUR: 'it returns false'. Refute it at one input. -/
def unpacksWrong : ChangeSpec := { name := "unpacks", fn := fun _ => fun
  | [d] => { results := [.lit (.bool false)], args := [d] }
  | _ => none }
def UnpacksWrongFalsely : Prop := unpacksRow.holds Try.pinned (OpenSpec.ofChange unpacksWrong)

/-- 'weirkeep.Back': WHATEVER THE INPUT: true; the input reads as it did. -/
def backSpec : ChangeSpec := { name := "back", fn := fun _ => fun
  | [d1, d2, d3] => { results := [.lit (.bool true)], args := [d1, d2, d3] }
  | _ => none }
def backRow : OpenClaim := { program := "ytmccnmgaoppogaa", sum := "c241f37dae2bf0cef14e552f100a3c299cbce6ab424979999e4cba38a1576c72", func := "weir/weirkeep.Back", spec := "back", apart := false }
def BackSaid : Prop := backRow.holds Try.pinned (OpenSpec.ofChange backSpec)

/-- ITS FALSE NEIGHBOUR: 'it returns false'. Refute it at one input. -/
def backWrong : ChangeSpec := { name := "back", fn := fun _ => fun
  | [d1, d2, d3] => { results := [.lit (.bool false)], args := [d1, d2, d3] }
  | _ => none }
def BackWrongFalsely : Prop := backRow.holds Try.pinned (OpenSpec.ofChange backWrong)

/-- 'weirkeep.Split': WHATEVER THE INPUT: true; the input reads as it did. -/
def splitSpec : ChangeSpec := { name := "split", fn := fun _ => fun
  | [d1, d2, d3, d4, d5] => { results := [.lit (.bool true)], args := [d1, d2, d3, d4, d5] }
  | _ => none }
def splitRow : OpenClaim := { program := "ytmccnmgaoppogaa", sum := "c241f37dae2bf0cef14e552f100a3c299cbce6ab424979999e4cba38a1576c72", func := "weir/weirkeep.Split", spec := "split", apart := false }
def SplitSaid : Prop := splitRow.holds Try.pinned (OpenSpec.ofChange splitSpec)

/-- ITS FALSE NEIGHBOUR: 'it returns false'. Refute it at one input. -/
def splitWrong : ChangeSpec := { name := "split", fn := fun _ => fun
  | [d1, d2, d3, d4, d5] => { results := [.lit (.bool false)], args := [d1, d2, d3, d4, d5] }
  | _ => none }
def SplitWrongFalsely : Prop := splitRow.holds Try.pinned (OpenSpec.ofChange splitWrong)

/-- 'weirkeep.Tiles': WHATEVER THE INPUT: true; the input reads as it did. -/
def tilesSpec : ChangeSpec := { name := "tiles", fn := fun _ => fun
  | [d1, d2, d3, d4] => { results := [.lit (.bool true)], args := [d1, d2, d3, d4] }
  | _ => none }
def tilesRow : OpenClaim := { program := "ytmccnmgaoppogaa", sum := "c241f37dae2bf0cef14e552f100a3c299cbce6ab424979999e4cba38a1576c72", func := "weir/weirkeep.Tiles", spec := "tiles", apart := false }
def TilesSaid : Prop := tilesRow.holds Try.pinned (OpenSpec.ofChange tilesSpec)

/-- ITS FALSE NEIGHBOUR: 'it returns false'. Refute it at one input. -/
def tilesWrong : ChangeSpec := { name := "tiles", fn := fun _ => fun
  | [d1, d2, d3, d4] => { results := [.lit (.bool false)], args := [d1, d2, d3, d4] }
  | _ => none }
def TilesWrongFalsely : Prop := tilesRow.holds Try.pinned (OpenSpec.ofChange tilesWrong)

/-- 'weirkeep.Bounds': WHATEVER THE INPUT: true; the input reads as it did. -/
def boundsSpec : ChangeSpec := { name := "bounds", fn := fun _ => fun
  | [d1, d2, d3, d4] => { results := [.lit (.bool true)], args := [d1, d2, d3, d4] }
  | _ => none }
def boundsRow : OpenClaim := { program := "ytmccnmgaoppogaa", sum := "c241f37dae2bf0cef14e552f100a3c299cbce6ab424979999e4cba38a1576c72", func := "weir/weirkeep.Bounds", spec := "bounds", apart := false }
def BoundsSaid : Prop := boundsRow.holds Try.pinned (OpenSpec.ofChange boundsSpec)

/-- ITS FALSE NEIGHBOUR: 'it returns false'. Refute it at one input. -/
def boundsWrong : ChangeSpec := { name := "bounds", fn := fun _ => fun
  | [d1, d2, d3, d4] => { results := [.lit (.bool false)], args := [d1, d2, d3, d4] }
  | _ => none }
def BoundsWrongFalsely : Prop := boundsRow.holds Try.pinned (OpenSpec.ofChange boundsWrong)

/-- 'weirlaw.Checks': WHATEVER THE INPUT: true; the input reads as it did. -/
def checksSpec : ChangeSpec := { name := "checks", fn := fun _ => fun
  | [d] => { results := [.lit (.bool true)], args := [d] }
  | _ => none }
def checksRow : OpenClaim := { program := "ytmccnmgaoppogaa", sum := "c241f37dae2bf0cef14e552f100a3c299cbce6ab424979999e4cba38a1576c72", func := "weir/weirlaw.Checks", spec := "checks", recurses := true, apart := false }
def ChecksSaid : Prop := checksRow.holds Try.pinned (OpenSpec.ofChange checksSpec)

/-- ITS FALSE NEIGHBOUR: 'it returns false'. Refute it at one input. -/
def checksWrong : ChangeSpec := { name := "checks", fn := fun _ => fun
  | [d] => { results := [.lit (.bool false)], args := [d] }
  | _ => none }
def ChecksWrongFalsely : Prop := checksRow.holds Try.pinned (OpenSpec.ofChange checksWrong)

/-- 'weirlaw.Few': WHATEVER THE INPUT: true; the input reads as it did. -/
def fewSpec : ChangeSpec := { name := "few", fn := fun _ => fun
  | [d] => { results := [.lit (.bool true)], args := [d] }
  | _ => none }
def fewRow : OpenClaim := { program := "ytmccnmgaoppogaa", sum := "c241f37dae2bf0cef14e552f100a3c299cbce6ab424979999e4cba38a1576c72", func := "weir/weirlaw.Few", spec := "few", recurses := true, apart := false }
def FewSaid : Prop := fewRow.holds Try.pinned (OpenSpec.ofChange fewSpec)

/-- ITS FALSE NEIGHBOUR: 'it returns false'. Refute it at one input. -/
def fewWrong : ChangeSpec := { name := "few", fn := fun _ => fun
  | [d] => { results := [.lit (.bool false)], args := [d] }
  | _ => none }
def FewWrongFalsely : Prop := fewRow.holds Try.pinned (OpenSpec.ofChange fewWrong)

/-- 'weirkeep.Literal': WHATEVER THE INPUT: true; the input reads as it did. -/
def literalSpec : ChangeSpec := { name := "literal", fn := fun _ => fun
  | [d] => { results := [.lit (.bool true)], args := [d] }
  | _ => none }
def literalRow : OpenClaim := { program := "ytmccnmgaoppogaa", sum := "c241f37dae2bf0cef14e552f100a3c299cbce6ab424979999e4cba38a1576c72", func := "weir/weirkeep.Literal", spec := "literal", recurses := true, apart := false }
def LiteralSaid : Prop := literalRow.holds Try.pinned (OpenSpec.ofChange literalSpec)

/-- ITS FALSE NEIGHBOUR: 'it returns false'. Refute it at one input. -/
def literalWrong : ChangeSpec := { name := "literal", fn := fun _ => fun
  | [d] => { results := [.lit (.bool false)], args := [d] }
  | _ => none }
def LiteralWrongFalsely : Prop := literalRow.holds Try.pinned (OpenSpec.ofChange literalWrong)

/- THE SECOND FORM. 'bulk': how many values and letters a reading holds, each counted each time it is reached (what is shared counts as often as it is met; a slice's spare places count too). A statement '..UptoSaid' is the law's where the arguments, and the package variables that the reading takes, are together of bulk at most 1048576: NARROWER than '..Said'. Prove '..Said' where nothing that the law and all that it calls make is longer than what came in: it says more and counts as full. Else prove '..UptoSaid'. A law counts once. -/
mutual
def uptoBulk {H : Type} : DataW H → Nat
  | .lit (.string bytes) => bytes.length + 1
  | .lit _ => 1
  | .nil => 1
  | .ptr d => uptoBulk d + 1
  | .slice elems spare => uptoBulkAll elems + uptoBulkAll spare + 1
  | .agg parts => uptoBulkAll parts + 1
  | .iface _ d => uptoBulk d + 1
  | .map entries => uptoBulkEntries entries + 1
  | .held _ => 1
def uptoBulkAll {H : Type} : List (DataW H) → Nat
  | [] => 0
  | d :: r => uptoBulk d + uptoBulkAll r
def uptoBulkEntries {H : Type} : List (Lit × DataW H) → Nat
  | [] => 0
  | x :: r => uptoBulkEntry x + uptoBulkEntries r
def uptoBulkEntry {H : Type} : Lit × DataW H → Nat
  | (.string bytes, d) => bytes.length + uptoBulk d + 1
  | (_, d) => uptoBulk d + 1
 end
def uptoSmall : (H : Type) → List (DataW H) → Bool := fun _ ds => decide (uptoBulkAll ds ≤ 1048576)
def OpenSpec.upto (s : _root_.Go.ChangeSpec) : _root_.Go.OpenSpec := { _root_.Go.OpenSpec.ofChange s with cond := some uptoSmall }

/-- 'weirlaw.Packs', WHERE WHAT IT READS IS OF BULK AT MOST 1048576: true; the input reads as it did. -/
def packsUptoRow : OpenClaim := { program := "ytmccnmgaoppogaa", sum := "c241f37dae2bf0cef14e552f100a3c299cbce6ab424979999e4cba38a1576c72", func := "weir/weirlaw.Packs", spec := "packs", apart := false, narrowed := true }
def PacksUptoSaid : Prop := packsUptoRow.holds Try.pinned (OpenSpec.upto packsSpec)

/-- 'weirlaw.Unpacks', WHERE WHAT IT READS IS OF BULK AT MOST 1048576: true; the input reads as it did. -/
def unpacksUptoRow : OpenClaim := { program := "ytmccnmgaoppogaa", sum := "c241f37dae2bf0cef14e552f100a3c299cbce6ab424979999e4cba38a1576c72", func := "weir/weirlaw.Unpacks", spec := "unpacks", apart := false, narrowed := true }
def UnpacksUptoSaid : Prop := unpacksUptoRow.holds Try.pinned (OpenSpec.upto unpacksSpec)

/-- 'weirkeep.Back', WHERE WHAT IT READS IS OF BULK AT MOST 1048576: true; the input reads as it did. -/
def backUptoRow : OpenClaim := { program := "ytmccnmgaoppogaa", sum := "c241f37dae2bf0cef14e552f100a3c299cbce6ab424979999e4cba38a1576c72", func := "weir/weirkeep.Back", spec := "back", apart := false, narrowed := true }
def BackUptoSaid : Prop := backUptoRow.holds Try.pinned (OpenSpec.upto backSpec)

/-- 'weirkeep.Split', WHERE WHAT IT READS IS OF BULK AT MOST 1048576: true; the input reads as it did. -/
def splitUptoRow : OpenClaim := { program := "ytmccnmgaoppogaa", sum := "c241f37dae2bf0cef14e552f100a3c299cbce6ab424979999e4cba38a1576c72", func := "weir/weirkeep.Split", spec := "split", apart := false, narrowed := true }
def SplitUptoSaid : Prop := splitUptoRow.holds Try.pinned (OpenSpec.upto splitSpec)

/-- 'weirkeep.Tiles', WHERE WHAT IT READS IS OF BULK AT MOST 1048576: true; the input reads as it did. -/
def tilesUptoRow : OpenClaim := { program := "ytmccnmgaoppogaa", sum := "c241f37dae2bf0cef14e552f100a3c299cbce6ab424979999e4cba38a1576c72", func := "weir/weirkeep.Tiles", spec := "tiles", apart := false, narrowed := true }
def TilesUptoSaid : Prop := tilesUptoRow.holds Try.pinned (OpenSpec.upto tilesSpec)

/-- 'weirkeep.Bounds', WHERE WHAT IT READS IS OF BULK AT MOST 1048576: true; the input reads as it did. -/
def boundsUptoRow : OpenClaim := { program := "ytmccnmgaoppogaa", sum := "c241f37dae2bf0cef14e552f100a3c299cbce6ab424979999e4cba38a1576c72", func := "weir/weirkeep.Bounds", spec := "bounds", apart := false, narrowed := true }
def BoundsUptoSaid : Prop := boundsUptoRow.holds Try.pinned (OpenSpec.upto boundsSpec)

/-- 'weirlaw.Checks', WHERE WHAT IT READS IS OF BULK AT MOST 1048576: true; the input reads as it did. -/
def checksUptoRow : OpenClaim := { program := "ytmccnmgaoppogaa", sum := "c241f37dae2bf0cef14e552f100a3c299cbce6ab424979999e4cba38a1576c72", func := "weir/weirlaw.Checks", spec := "checks", recurses := true, apart := false, narrowed := true }
def ChecksUptoSaid : Prop := checksUptoRow.holds Try.pinned (OpenSpec.upto checksSpec)

/-- 'weirlaw.Few', WHERE WHAT IT READS IS OF BULK AT MOST 1048576: true; the input reads as it did. -/
def fewUptoRow : OpenClaim := { program := "ytmccnmgaoppogaa", sum := "c241f37dae2bf0cef14e552f100a3c299cbce6ab424979999e4cba38a1576c72", func := "weir/weirlaw.Few", spec := "few", recurses := true, apart := false, narrowed := true }
def FewUptoSaid : Prop := fewUptoRow.holds Try.pinned (OpenSpec.upto fewSpec)

/-- 'weirkeep.Literal', WHERE WHAT IT READS IS OF BULK AT MOST 1048576: true; the input reads as it did. -/
def literalUptoRow : OpenClaim := { program := "ytmccnmgaoppogaa", sum := "c241f37dae2bf0cef14e552f100a3c299cbce6ab424979999e4cba38a1576c72", func := "weir/weirkeep.Literal", spec := "literal", recurses := true, apart := false, narrowed := true }
def LiteralUptoSaid : Prop := literalUptoRow.holds Try.pinned (OpenSpec.upto literalSpec)

end Rows
end Go.Proofs.Ytmccnmgaoppogaa

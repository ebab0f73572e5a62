/-
  No cell of these rows narrows 'for every input' (looked for: loops, veiled, ifaces, maps, wideKeys, modest, calm, conditions, laid).
  DERIVED. THE GIVEN ROWS OF THIS SEAT. 3 by the template 'for every input the law returns true; each argument reads behind the call as it read before'; 0 by the template 'total and deterministic' (their statements: YtmccnmgaoppogabTotals.lean).
  GIVEN WITH THE SEED: the statements are not yours to turn. If you find one false, say at which input.
  Laid BY PROGRAM, IN A SANDBOX (cutbox-rows.mjs): the forced cells as the released guide's own fill.sh prints them over the translation f7ae832720466484… (all of the seat's roots in one cut). By AI agents, Wed Nov 11 2026. No macro, syntax, notation, axiom, sorry.
-/
import Derived.Test.YtmccnmgaoppogabChecked
import GoSem.Claim
import GoSem.ClaimJoined
import GoSem.ClaimMapViews
import Derived.JoinedTies
import Derived.KernelRfl
namespace Go.Proofs.Ytmccnmgaoppogab
/- THE CELL 'sum', in the pinned program and in every row, IS THE sha256 OF THE DUMP (.gsa) THAT YtmccnmgaoppogabProg.lean LOADS. Nothing in Lean hashes anything: it is a label: what it is worth is what the hold of that sum in a sandbox is worth. -/
noncomputable def Try.pinned : Pinned := { name := "ytmccnmgaoppogab", sum := "f7ae8327204664847ffc4d6a4b15058d514df4dda2b5007068412db47770f707", checked := Try.checked }
namespace Rows
def none {H : Type} : Left H := { results := [], args := [] }

/-- 'weirkeep.Joined': WHATEVER THE INPUT: true; the input reads as it did. -/
def joinedSpec : ChangeSpec := { name := "joined", fn := fun _ => fun
  | [d1, d2, d3] => { results := [.lit (.bool true)], args := [d1, d2, d3] }
  | _ => none }
def joinedRow : OpenClaim := { program := "ytmccnmgaoppogab", sum := "f7ae8327204664847ffc4d6a4b15058d514df4dda2b5007068412db47770f707", func := "weir/weirkeep.Joined", spec := "joined", recurses := true, apart := false }
def JoinedSaid : Prop := joinedRow.holds Try.pinned (OpenSpec.ofChange joinedSpec)

/-- ITS FALSE NEIGHBOUR: 'it returns false'. Refute it at one input. -/
def joinedWrong : ChangeSpec := { name := "joined", fn := fun _ => fun
  | [d1, d2, d3] => { results := [.lit (.bool false)], args := [d1, d2, d3] }
  | _ => none }
def JoinedWrongFalsely : Prop := joinedRow.holds Try.pinned (OpenSpec.ofChange joinedWrong)

/-- 'weirkeep.Longest': WHATEVER THE INPUT: true; the input reads as it did. -/
def longestSpec : ChangeSpec := { name := "longest", fn := fun _ => fun
  | [d1, d2, d3] => { results := [.lit (.bool true)], args := [d1, d2, d3] }
  | _ => none }
def longestRow : OpenClaim := { program := "ytmccnmgaoppogab", sum := "f7ae8327204664847ffc4d6a4b15058d514df4dda2b5007068412db47770f707", func := "weir/weirkeep.Longest", spec := "longest", recurses := true, apart := false }
def LongestSaid : Prop := longestRow.holds Try.pinned (OpenSpec.ofChange longestSpec)

/-- ITS FALSE NEIGHBOUR: 'it returns false'. Refute it at one input. -/
def longestWrong : ChangeSpec := { name := "longest", fn := fun _ => fun
  | [d1, d2, d3] => { results := [.lit (.bool false)], args := [d1, d2, d3] }
  | _ => none }
def LongestWrongFalsely : Prop := longestRow.holds Try.pinned (OpenSpec.ofChange longestWrong)

/-- 'weirkeep.Nested': WHATEVER THE INPUT: true; the input reads as it did. -/
def nestedSpec : ChangeSpec := { name := "nested", fn := fun _ => fun
  | [d1, d2] => { results := [.lit (.bool true)], args := [d1, d2] }
  | _ => none }
def nestedRow : OpenClaim := { program := "ytmccnmgaoppogab", sum := "f7ae8327204664847ffc4d6a4b15058d514df4dda2b5007068412db47770f707", func := "weir/weirkeep.Nested", spec := "nested", recurses := true, apart := false }
def NestedSaid : Prop := nestedRow.holds Try.pinned (OpenSpec.ofChange nestedSpec)

/-- ITS FALSE NEIGHBOUR: 'it returns false'. Refute it at one input. -/
def nestedWrong : ChangeSpec := { name := "nested", fn := fun _ => fun
  | [d1, d2] => { results := [.lit (.bool false)], args := [d1, d2] }
  | _ => none }
def NestedWrongFalsely : Prop := nestedRow.holds Try.pinned (OpenSpec.ofChange nestedWrong)

/- THE SECOND FORM. 'bulk': how many values and letters a reading holds, each counted each time it is reached (what is shared counts as often as it is met; a slice's spare places count too). A statement '..UptoSaid' is the law's where the arguments, and the package variables that the reading takes, are together of bulk at most 1048576: NARROWER than '..Said'. Prove '..Said' where nothing that the law and all that it calls make is longer than what came in: it says more and counts as full. Else prove '..UptoSaid'. A law counts once. -/
mutual
def uptoBulk {H : Type} : DataW H → Nat
  | .lit (.string bytes) => bytes.length + 1
  | .lit _ => 1
  | .nil => 1
  | .ptr d => uptoBulk d + 1
  | .slice elems spare => uptoBulkAll elems + uptoBulkAll spare + 1
  | .agg parts => uptoBulkAll parts + 1
  | .iface _ d => uptoBulk d + 1
  | .map entries => uptoBulkEntries entries + 1
  | .held _ => 1
def uptoBulkAll {H : Type} : List (DataW H) → Nat
  | [] => 0
  | d :: r => uptoBulk d + uptoBulkAll r
def uptoBulkEntries {H : Type} : List (Lit × DataW H) → Nat
  | [] => 0
  | x :: r => uptoBulkEntry x + uptoBulkEntries r
def uptoBulkEntry {H : Type} : Lit × DataW H → Nat
  | (.string bytes, d) => bytes.length + uptoBulk d + 1
  | (_, d) => uptoBulk d + 1
 end
def uptoSmall : (H : Type) → List (DataW H) → Bool := fun _ ds => decide (uptoBulkAll ds ≤ 1048576)
def OpenSpec.upto (s : _root_.Go.ChangeSpec) : _root_.Go.OpenSpec := { _root_.Go.OpenSpec.ofChange s with cond := some uptoSmall }

/-- 'weirkeep.Joined', WHERE WHAT IT READS IS OF BULK AT MOST 1048576: true; the input reads as it did. -/
def joinedUptoRow : OpenClaim := { program := "ytmccnmgaoppogab", sum := "f7ae8327204664847ffc4d6a4b15058d514df4dda2b5007068412db47770f707", func := "weir/weirkeep.Joined", spec := "joined", recurses := true, apart := false, narrowed := true }
def JoinedUptoSaid : Prop := joinedUptoRow.holds Try.pinned (OpenSpec.upto joinedSpec)

/-- 'weirkeep.Longest', WHERE WHAT IT READS IS OF BULK AT MOST 1048576: true; the input reads as it did. -/
def longestUptoRow : OpenClaim := { program := "ytmccnmgaoppogab", sum := "f7ae8327204664847ffc4d6a4b15058d514df4dda2b5007068412db47770f707", func := "weir/weirkeep.Longest", spec := "longest", recurses := true, apart := false, narrowed := true }
def LongestUptoSaid : Prop := longestUptoRow.holds Try.pinned (OpenSpec.upto longestSpec)

/-- 'weirkeep.Nested', WHERE WHAT IT READS IS OF BULK AT MOST 1048576: true; the input reads as it did. -/
def nestedUptoRow : OpenClaim := { program := "ytmccnmgaoppogab", sum := "f7ae8327204664847ffc4d6a4b15058d514df4dda2b5007068412db47770f707", func := "weir/weirkeep.Nested", spec := "nested", recurses := true, apart := false, narrowed := true }
def NestedUptoSaid : Prop := nestedUptoRow.holds Try.pinned (OpenSpec.upto nestedSpec)

end Rows
end Go.Proofs.Ytmccnmgaoppogab

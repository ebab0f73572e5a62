/-
 The walks: is a rule, is an instruction right?
 The walks: are the entries, the rules, the instructions right? (program)
 The walks: how often each instruction follows one; which follow none. (program)
 The walks: which instructions follow none. (program)
 The walks: is there a way round? (program)
 The walks: is a program right? (program)
-/
import Derived.Test.YtmccnmgaoppogaaMeA
import Derived.Test.YtmccnmgaoppogaaPuA
namespace Go.Proofs.Ytmccnmgaoppogaa
open Go.RowKit
end Go.Proofs.Ytmccnmgaoppogaa

/-
 Plain mathematics: a program that runs over bytes, instruction by instruction; where it stands between two pieces of an input.
 Plain mathematics: what holds wherever a right program stands; an input that goes on changes nothing of what was done.
 A scanner in memory.
-/
import Derived.Test.YtmccnmgaoppogaaMeA
import Derived.Lib.BufferOwn
namespace Go.Proofs.Ytmccnmgaoppogaa
namespace Pu
structure Tok where
 rule:Int
 pos:Int
 len:Int
 line:Int
 col:Int
structure Cfg where
 pos:Int
 line:Int
 col:Int
 mode:Int
 stk:List Int
 dep:Int
 steps:Int
 ins:Int
 c:Int
 looked:Int
 rule:Int
 marked:Int
 toks:List Tok
 err:Int
structure Env where
 p:Prg
 most:Int
 depth:Int
 s:ByteArray
 ended:Bool
end Pu
namespace Pu
end Pu
open Go.RowKit
end Go.Proofs.Ytmccnmgaoppogaa

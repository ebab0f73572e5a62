/-
 The walks: rules and instructions that are read. (images)
 The walks: rules and instructions that are read. (images)
 The walks: the program that an image tells. (images)
 The walks: Unpack. (weir)
 Rows and blocks that stay as they were.
-/
import Derived.Test.YtmccnmgaoppogaaMeA
import Derived.Test.YtmccnmgaoppogaaWA
namespace Go.Proofs.Ytmccnmgaoppogaa
open Go.RowKit
def nE (s:ByteArray):Nat:=(bt s 2).toNat
def nR (s:ByteArray):Nat:=(bt s 3).toNat
def nC (s:ByteArray):Nat:=(pr s 4).toNat
def Form (s:ByteArray):Prop:=6≤s.size∧bt s 0=87∧bt s 1=82∧s.size=6+2*nE s+3*nR s+5*nC s
def prgOf (s:ByteArray):Pu.Prg:=⟨entsOf s 6 (nE s),rulesOf s (6+2*nE s) (nR s),codeOf s (6+2*nE s+3*nR s) (nC s)⟩
def RetUnp (code:Int) (s:ByteArray) (w:World) (e:Ending) (w':World):Prop:=
 (Form s∧Pu.RightP (prgOf s)∧∃ve vr vc,e=.returned (.tuple #[.agg #[ve,vr,vc],.int .i64 0])∧Below w.heap.size w w'∧w'.ownsRow w.heap.size 3 1 ve (nE s) (intCells (prgOf s).ents)∧w'.ownsRow w.heap.size 66 3 vr (nR s) (ruleCells (prgOf s).rules)∧w'.ownsRow w.heap.size 103 4 vc (nC s) (insCells (prgOf s).code))∨
 (¬(Form s∧Pu.RightP (prgOf s))∧e=.returned (.tuple #[.agg #[.slice none 0 0,.slice none 0 0,.slice none 0 0],.int .i64 code])∧Below w.heap.size w w')
theorem own_drewN {w:World} {base e size n:Nat} {v:Value} {xs:List Value} (h:w.ownsRow base e size v n xs) (m:Nat):(w.drewN m).ownsRow base e size v n xs:=h
theorem own_other {W w':World} {base e size n base' e' size' n':Nat} {v v':Value} {xs xs':List Value} (h:W.ownsRow base e size v n xs) (h':W.ownsRow base' e' size' v' n' xs') (ht:e≠e') (hg:W.grownBy w' v'.ownBlock):w'.ownsRow base e size v n xs:=by
 refine World.ownsRow.kept h hg ?_
 rcases h.2 with ⟨rfl,_⟩ | ⟨g,cap,cur,rfl,_,hgg,_⟩
 ·exact .inl rfl
 ·rcases h'.2 with ⟨rfl,_⟩ | ⟨g',cap',cur',rfl,_,hgg',_⟩
  ·right;simp [Value.ownBlock]
  ·right
   simp only [Value.ownBlock,ne_eq,Option.some.injEq];intro e;subst e;rw [hgg] at hgg';simp at hgg';exact ht hgg'.2
theorem blk_drew {w:World} {g t:Nat} {xs:List Value} (h:Blk w g t xs) (n:Nat):Blk (w.drewN n) g t xs:=h
end Go.Proofs.Ytmccnmgaoppogaa

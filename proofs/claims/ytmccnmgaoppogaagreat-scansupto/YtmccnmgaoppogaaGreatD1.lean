/-
  The document's scanner in memory; the walks: next, seek. (weirref)
-/
import Derived.Test.YtmccnmgaoppogaaGreatSC
namespace Go.Proofs.YtmccnmgaoppogaaGreat
open Go.RowKit

def docCells (E : Pure.Env) (ve vr vc : Value) (rest : List Value) : List Value := [ve, vr, vc, .pointer none, .int .i64 E.most, .int .i64 E.depth, .string E.s, .bool E.ended] ++ rest
def runRCells (gs : Nat) (C : Pure.Cfg) (vst vtk : Value) : List Value := [.pointer (some ⟨gs, 0, none⟩), .int .i64 C.pos, .int .i64 C.line, .int .i64 C.col, .int .i64 C.mode, vst, .int .i64 C.steps, vtk, .int .i64 C.err]

/-- the document's scanner (gs), and a run of it (gr) -/
structure RM (W : World) (gr gs : Nat) (E : Pure.Env) (ve vr vc : Value) (rest : List Value) (C : Pure.Cfg) (vst vtk : Value) : Prop where
  blk : Blk W gr 218 (runRCells gs C vst vtk)
  scn : Blk W gs 133 (docCells E ve vr vc rest)
  l : Lists W E.p ve vr vc

theorem RM.ne {W : World} {gr gs : Nat} {E : Pure.Env} {ve vr vc : Value} {rest : List Value} {C : Pure.Cfg} {vst vtk : Value} (h : RM W gr gs E ve vr vc rest C vst vtk) : gs ≠ gr := by
  intro e
  have h1 := h.blk
  have h2 := h.scn
  rw [e] at h2
  unfold Blk at h1 h2
  rw [h1] at h2
  simp at h2
theorem RM.below {W W' : World} {gr gs : Nat} {E : Pure.Env} {ve vr vc : Value} {rest : List Value} {C : Pure.Cfg} {vst vtk : Value} (h : RM W gr gs E ve vr vc rest C vst vtk) (hb : Below W.heap.size W W') : RM W' gr gs E ve vr vc rest C vst vtk :=
  ⟨blk_below h.blk hb (blk_lt h.blk), blk_below h.scn hb (blk_lt h.scn), h.l.below hb⟩
theorem RM.set {W : World} {gr gs : Nat} {E : Pure.Env} {ve vr vc : Value} {rest : List Value} {C D : Pure.Cfg} {vst vtk vst' vtk' : Value} (h : RM W gr gs E ve vr vc rest C vst vtk) (j : Nat) (u : Value) (he : (runRCells gs C vst vtk).set j u = runRCells gs D vst' vtk') : RM (W.setCell ⟨gr, j, none⟩ u) gr gs E ve vr vc rest D vst' vtk' :=
  ⟨by rw [← he]; exact blk_set h.blk j u, blk_other h.scn h.ne _ _, h.l.on h.blk (by decide) (by decide) (by decide) (Lib.grownBy_setCell W gr j u)⟩
theorem RM.like {W : World} {gr gs : Nat} {E : Pure.Env} {ve vr vc : Value} {rest : List Value} {C D : Pure.Cfg} {vst vtk : Value} (h : RM W gr gs E ve vr vc rest C vst vtk) (he : runRCells gs C vst vtk = runRCells gs D vst vtk) : RM W gr gs E ve vr vc rest D vst vtk :=
  ⟨by rw [← he]; exact h.blk, h.scn, h.l⟩
theorem RM.out {W : World} {gr gs go : Nat} {t : TypeId} {ys : List Value} {E : Pure.Env} {ve vr vc : Value} {rest : List Value} {C : Pure.Cfg} {vst vtk : Value} (h : RM W gr gs E ve vr vc rest C vst vtk) (hb : Blk W go t ys) (h1 : t ≠ 3) (h2 : t ≠ 59) (h3 : t ≠ 61) (h4 : gr ≠ go) (h5 : gs ≠ go) (j : Nat) (u : Value) : RM (W.setCell ⟨go, j, none⟩ u) gr gs E ve vr vc rest C vst vtk :=
  ⟨blk_other h.blk h4 _ _, blk_other h.scn h5 _ _, h.l.on hb h1 h2 h3 (Lib.grownBy_setCell W go j u)⟩
theorem RM.alloc {W : World} {gr gs : Nat} {E : Pure.Env} {ve vr vc : Value} {rest : List Value} {C : Pure.Cfg} {vst vtk : Value} (h : RM W gr gs E ve vr vc rest C vst vtk) (o : Obj) : RM (W.alloc o) gr gs E ve vr vc rest C vst vtk := h.below ((Below.refl _ _).alloc (Nat.le_refl _) o)
theorem RM.drewN {W : World} {gr gs : Nat} {E : Pure.Env} {ve vr vc : Value} {rest : List Value} {C : Pure.Cfg} {vst vtk : Value} (h : RM W gr gs E ve vr vc rest C vst vtk) (n : Nat) : RM (W.drewN n) gr gs E ve vr vc rest C vst vtk := h.below (below_drewN (Below.refl _ _) n)

/-- what a Next meets -/
def nx (E : Pure.Env) (at' looked : Int) : Int := if at' + looked < E.s.size then (if looked = E.most then 3 else 0) else if E.ended then 2 else 1

set_option maxRecDepth 100000 in
set_option maxHeartbeats 2000000 in
theorem next_any (gs : Nat) (E : Pure.Env) (ve vr vc : Value) (rest : List Value) (at' looked : Int) (W : World) (h : Blk W gs 133 (docCells E ve vr vc rest)) (h0 : 0 ≤ at' ∧ at' ≤ 1099511627776) (h1 : 0 ≤ looked ∧ looked ≤ 64) (_hs : E.s.size ≤ 1099511627776) :
    Calls Tryz.prog 148 #[.pointer (some ⟨gs, 0, none⟩), .int .i64 at', .int .i64 looked] W (RetSame (.int .i64 (nx E at' looked)) W) := by
  have c4 := blk_cell (j := 4) h rfl
  have c6 := blk_cell (j := 6) h rfl
  have c7 := blk_cell (j := 7) h rfl
  have w1 : IntKind.i64.wrap (at' + looked) = at' + looked := wrap_in _ (by omega) (by omega)
  clear h
  by_cases a1 : at' + looked < E.s.size
  · by_cases a2 : looked = E.most
    · have e : nx E at' looked = 3 := by unfold nx; rw [if_pos a1, if_pos a2]
      have d2 : (looked == E.most) = true := by simpa using a2
      have d1 : decide (at' + looked < (E.s.size : Int)) = true := decide_eq_true a1
      rw [e]
      clear a2 e
      go_enter Tryz.func148, Tryz.ntmps148
      go_wp2
      go_ret
      exact ⟨rfl, rfl⟩
    · have e : nx E at' looked = 0 := by unfold nx; rw [if_pos a1, if_neg a2]
      have d2 : (looked == E.most) = false := by simpa using a2
      have d1 : decide (at' + looked < (E.s.size : Int)) = true := decide_eq_true a1
      rw [e]
      clear e
      go_enter Tryz.func148, Tryz.ntmps148
      go_wp2
      go_ret
      exact ⟨rfl, rfl⟩
  · have d1 : decide (at' + looked < (E.s.size : Int)) = false := decide_eq_false a1
    cases hE : E.ended
    · have e : nx E at' looked = 1 := by unfold nx; rw [if_neg a1, hE]; rfl
      rw [hE] at c7
      rw [e]
      clear e
      go_enter Tryz.func148, Tryz.ntmps148
      go_wp2
      go_ret
      exact ⟨rfl, rfl⟩
    · have e : nx E at' looked = 2 := by unfold nx; rw [if_neg a1, hE]; rfl
      rw [hE] at c7
      rw [e]
      clear e
      go_enter Tryz.func148, Tryz.ntmps148
      go_wp2
      go_ret
      exact ⟨rfl, rfl⟩

end Go.Proofs.YtmccnmgaoppogaaGreat

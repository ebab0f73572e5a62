/-
  The walks: the document's rule; what is carried through its took. (weirref)
-/
import Derived.Test.YtmccnmgaoppogaaGreatD2
import Derived.Deep.RegionHeldLaw
import Derived.Deep.AppendLies
import Derived.Deep.Cut
namespace Go.Proofs.YtmccnmgaoppogaaGreat
open Go.RowKit

theorem size_rule : (Tryz.prog.info? 59).map (·.size) = some 3 := by kernel_rfl

set_option maxRecDepth 100000 in
theorem rule_ret {W : World} {g : Nat} {a b c : Value} {A : Act} {Q : Ending → World → Prop} (ht : A.tmps.getD 4 undef = .pointer (some ⟨g, 0, none⟩)) (hd : A.defers = []) (h : Blk W g 59 [a, b, c]) (hq : Q (.returned (.agg #[a, b, c])) W) :
    bodyPost Tryz.prog Tryz.f149 Q .ret A W := by
  refine bodyPost_ret (v := .agg #[a, b, c]) ?_ hd hq
  rw [results_cell1 Tryz.results149, ht]
  exact run_loadVar_row W g 59 59 #[a, b, c] (0, 0) _ h Tryz.underlying59 rfl size_rule

def ruleA (r : Pure.Rule) : Array Value := #[.int .i64 r.emit, .int .i64 r.act, .int .i64 r.mode]

set_option maxRecDepth 100000 in
set_option maxHeartbeats 2000000 in
theorem refRule_any (gr gs gv cv : Nat) (E : Pure.Env) (ve vc : Value) (rest : List Value) (C : Pure.Cfg) (vst vtk : Value) (k : Nat) (w : World) (m : RM w gr gs E ve (.slice (some ⟨gv, 0, none⟩) E.p.rules.length cv) vc rest C vst vtk) (hk : k < E.p.rules.length) :
    Calls Tryz.prog 149 #[.pointer (some ⟨gr, 0, none⟩), .int .i64 k] w (RetV (.agg (ruleA (Pure.rg E.p.rules k))) w) := by
  have q := own_rule m.l.r hk
  have q0 := q.1
  have q1 := q.2.1
  have q2 := q.2.2
  have c0 := blk_cell (j := 0) m.blk rfl
  have s3 := blk_cell (j := 3) m.scn rfl
  have s1 := blk_cell (j := 1) m.scn rfl
  have lr := blk_lt m.blk
  have ls := blk_lt m.scn
  have lv := (own_base m.l.r).2
  have ne1 : w.heap.size ≠ gr := by omega
  have ne2 : w.heap.size ≠ gs := by omega
  have ne3 : w.heap.size ≠ gv := by omega
  have ne1' : gr ≠ w.heap.size := by omega
  have ne2' : gs ≠ w.heap.size := by omega
  have ne3' : gv ≠ w.heap.size := by omega
  have hki : (k : Int) < (E.p.rules.length : Int) := by omega
  generalize hR : Pure.rg E.p.rules k = r at *
  unfold ruleA
  clear q m hR
  go_enter Tryz.func149, Tryz.ntmps149
  go_wp2_with fail
  exact rule_ret rfl rfl (heap_alloc_new w _) ⟨rfl, (Below.refl w.heap.size w).alloc (Nat.le_refl _) _⟩

/-- what a row that is not touched keeps -/
theorem own_keep {W W' : World} {base e size n : Nat} {v : Value} {xs : List Value} {row : Option Nat} (h : W.ownsRow base e size v n xs) (hg : W.grownBy W' row) (hne : ∀ g, v.ownBlock = some g → some g ≠ row) : W'.ownsRow base e size v n xs := by
  rcases h with ⟨h1, ⟨rfl, h2⟩ | ⟨g, cap, cur, rfl, h3, h4, h5⟩⟩
  · exact ⟨h1, .inl ⟨rfl, h2⟩⟩
  · have hl : g < W.heap.size := (Array.getElem?_eq_some_iff.1 h4).1
    exact ⟨h1, .inr ⟨g, cap, cur, rfl, h3, by rw [hg.block g hl (hne g rfl)]; exact h4, h5⟩⟩

theorem below_set {B : Nat} {w0 W : World} (h : Below B w0 W) {g : Nat} (hg : B ≤ g) (j : Nat) (u : Value) : Below B w0 (W.setCell ⟨g, j, none⟩ u) :=
  ⟨h.os, h.tape, h.output, by have := h.size; simpa [World.setCell] using this, fun k hk => by rw [Below.heap_setCell _ _ _ _ (by show k ≠ g; omega)]; exact h.block k hk⟩
theorem below_grown {B : Nat} {w0 W W' : World} {row : Option Nat} (h : Below B w0 W) (hB : B ≤ W.heap.size) (hg : W.grownBy W' row) (hr : ∀ g, row = some g → B ≤ g) : Below B w0 W' :=
  ⟨hg.1.trans h.os, hg.2.trans h.tape, hg.3.trans h.output, Nat.le_trans h.size hg.size, fun k hk => by
    rw [hg.block k (by omega) (fun e => by have := hr k e.symm; omega)]
    exact h.block k hk⟩

/-- what is carried through the document's run: the run's own lists lie behind B -/
structure TR (B : Nat) (w0 : World) (gr gs : Nat) (E : Pure.Env) (ve vr vc : Value) (rest : List Value) (C : Pure.Cfg) (vst vtk : Value) (W : World) : Prop where
  m : RM W gr gs E ve vr vc rest C vst vtk
  st : W.ownsRow B 3 1 vst C.dep.toNat (intCells (C.stk.take C.dep.toNat))
  tk : W.ownsRow B 74 5 vtk C.toks.length (tokCells C.toks)
  lo : ∀ g, ve.ownBlock = some g → g < B
  be : Below B w0 W
  hB : B ≤ gr

section
variable {B : Nat} {w0 : World} {gr gs : Nat} {E : Pure.Env} {ve vr vc : Value} {rest : List Value} {C D : Pure.Cfg} {vst vtk : Value} {W W' : World}

theorem TR.sz (h : TR B w0 gr gs E ve vr vc rest C vst vtk W) : B ≤ W.heap.size := by
  have := blk_lt h.m.blk
  have := h.hB
  omega
theorem TR.below (h : TR B w0 gr gs E ve vr vc rest C vst vtk W) (hb : Below W.heap.size W W') : TR B w0 gr gs E ve vr vc rest C vst vtk W' :=
  ⟨h.m.below hb, own_below h.st hb (Nat.le_refl _), own_below h.tk hb (Nat.le_refl _), h.lo, by
    have s := h.sz
    exact ⟨hb.os.trans h.be.os, hb.tape.trans h.be.tape, hb.output.trans h.be.output, Nat.le_trans h.be.size hb.size, fun k hk => by rw [hb.block k (by omega)]; exact h.be.block k hk⟩, h.hB⟩
theorem TR.alloc (h : TR B w0 gr gs E ve vr vc rest C vst vtk W) (o : Obj) : TR B w0 gr gs E ve vr vc rest C vst vtk (W.alloc o) := h.below ((Below.refl _ _).alloc (Nat.le_refl _) o)
theorem TR.drewN (h : TR B w0 gr gs E ve vr vc rest C vst vtk W) (n : Nat) : TR B w0 gr gs E ve vr vc rest C vst vtk (W.drewN n) := h.below (below_drewN (Below.refl _ _) n)
theorem TR.drew (h : TR B w0 gr gs E ve vr vc rest C vst vtk W) : TR B w0 gr gs E ve vr vc rest C vst vtk W.drew := h.below (Below.refl _ _).drew

/-- a number of the run is written -/
theorem TR.set (h : TR B w0 gr gs E ve vr vc rest C vst vtk W) (j : Nat) (u : Value) (he : (runRCells gs C vst vtk).set j u = runRCells gs D vst vtk) (h1 : D.dep = C.dep) (h2 : D.stk = C.stk) (h3 : D.toks = C.toks) : TR B w0 gr gs E ve vr vc rest D vst vtk (W.setCell ⟨gr, j, none⟩ u) := by
  have hg := Lib.grownBy_setCell W gr j u
  refine ⟨h.m.set j u he, ?_, ?_, h.lo, below_set h.be h.hB j u, h.hB⟩
  · rw [h1, h2]; exact own_apart h.st h.m.blk (by decide) hg
  · rw [h3]; exact own_apart h.tk h.m.blk (by decide) hg
theorem TR.like (h : TR B w0 gr gs E ve vr vc rest C vst vtk W) (he : runRCells gs C vst vtk = runRCells gs D vst vtk) (h1 : D.dep = C.dep) (h2 : D.stk = C.stk) (h3 : D.toks = C.toks) : TR B w0 gr gs E ve vr vc rest D vst vtk W :=
  ⟨h.m.like he, by rw [h1, h2]; exact h.st, by rw [h3]; exact h.tk, h.lo, h.be, h.hB⟩

/-- another block of the call's own is written -/
theorem TR.out (h : TR B w0 gr gs E ve vr vc rest C vst vtk W) {go t : Nat} {ys : List Value} (hb : Blk W go t ys) (h1 : t ≠ 3) (h2 : t ≠ 59) (h3 : t ≠ 61) (h6 : t ≠ 74) (h4 : gr ≠ go) (h5 : gs ≠ go) (hB : B ≤ go) (j : Nat) (u : Value) : TR B w0 gr gs E ve vr vc rest C vst vtk (W.setCell ⟨go, j, none⟩ u) := by
  have hg := Lib.grownBy_setCell W go j u
  exact ⟨h.m.out hb h1 h2 h3 h4 h5 j u, own_apart h.st hb h1 hg, own_apart h.tk hb h6 hg, h.lo, below_set h.be hB j u, h.hB⟩

/-- a token more -/
theorem TR.token (h : TR B w0 gr gs E ve vr vc rest C vst vtk W) {v2 : Value} {t : Pure.Tok} (hg : W.grownBy W' vtk.ownBlock) (ho : W'.ownsRow B 74 5 v2 (C.toks.length + 1) (tokCells C.toks ++ [.int .i64 t.rule, .int .i64 t.pos, .int .i64 t.len, .int .i64 t.line, .int .i64 t.col])) :
    TR B w0 gr gs E ve vr vc rest { C with toks := C.toks ++ [t] } vst v2 (W'.setCell ⟨gr, 7, none⟩ v2) := by
  have mb := far_blk h.tk h.m.blk (by decide) hg
  have m1 : RM W' gr gs E ve vr vc rest C vst vtk := ⟨mb, far_blk h.tk h.m.scn (by decide) hg, ⟨own_other h.m.l.e h.tk (by decide) hg, own_other h.m.l.r h.tk (by decide) hg, own_other h.m.l.c h.tk (by decide) hg⟩⟩
  have hs := Lib.grownBy_setCell W' gr 7 v2
  have st := own_other h.st h.tk (by decide) hg
  refine ⟨m1.set 7 v2 rfl, own_apart st mb (by decide) hs, ?_, h.lo, below_set (below_grown h.be h.sz hg (fun g e => (World.ownsRow.lt h.tk g e).1)) h.hB _ _, h.hB⟩
  show World.ownsRow _ _ _ _ _ (C.toks ++ [t]).length (tokCells (C.toks ++ [t]))
  rw [tokCells_snoc, List.length_append, List.length_singleton]
  exact own_apart ho mb (by decide) hs

/-- a mode more on the stack -/
theorem TR.push (h : TR B w0 gr gs E ve vr vc rest C vst vtk W) {v2 : Value} {l : List Int} {d : Int} (hg : W.grownBy W' vst.ownBlock) (hd : d = C.dep + 1) (hd0 : 0 ≤ C.dep) (ho : W'.ownsRow B 3 1 v2 (C.dep.toNat + 1) (intCells (l.take (C.dep.toNat + 1)))) :
    TR B w0 gr gs E ve vr vc rest { C with stk := l, dep := d } v2 vtk (W'.setCell ⟨gr, 5, none⟩ v2) := by
  have mb := far_blk h.st h.m.blk (by decide) hg
  have hlo : ∀ g, ve.ownBlock = some g → some g ≠ vst.ownBlock := fun g e e' => by
    have h1 := h.lo g e
    have h2 := (World.ownsRow.lt h.st g e'.symm).1
    omega
  have m1 : RM W' gr gs E ve vr vc rest C vst vtk := ⟨mb, far_blk h.st h.m.scn (by decide) hg, ⟨own_keep h.m.l.e hg hlo, own_other h.m.l.r h.st (by decide) hg, own_other h.m.l.c h.st (by decide) hg⟩⟩
  have hs := Lib.grownBy_setCell W' gr 5 v2
  have tk := own_other h.tk h.st (by decide) hg
  have e : d.toNat = C.dep.toNat + 1 := by omega
  refine ⟨m1.set 5 v2 rfl, ?_, own_apart tk mb (by decide) hs, h.lo, below_set (below_grown h.be h.sz hg (fun g e => (World.ownsRow.lt h.st g e).1)) h.hB _ _, h.hB⟩
  show World.ownsRow _ _ _ _ _ d.toNat (intCells (l.take d.toNat))
  rw [e]
  exact own_apart ho mb (by decide) hs

/-- a mode less -/
theorem TR.pop {g n cap : Nat} (h : TR B w0 gr gs E ve vr vc rest C (.slice (some ⟨g, 0, none⟩) n cap) vtk W) (hn : C.dep.toNat = n) (hn1 : 0 < n) (hl : n ≤ C.stk.length) {d : Int} (hd : d.toNat = n - 1) :
    TR B w0 gr gs E ve vr vc rest { C with dep := d } (.slice (some ⟨g, 0, none⟩) (n - 1) cap) vtk (W.setCell ⟨gr, 5, none⟩ (.slice (some ⟨g, 0, none⟩) (n - 1) cap)) := by
  have hs := Lib.grownBy_setCell W gr 5 (.slice (some ⟨g, 0, none⟩) (n - 1) cap)
  refine ⟨h.m.set 5 _ rfl, ?_, own_apart h.tk h.m.blk (by decide) hs, h.lo, below_set h.be h.hB _ _, h.hB⟩
  show World.ownsRow _ _ _ _ _ d.toNat (intCells (C.stk.take d.toNat))
  refine own_apart ?_ h.m.blk (by decide) hs
  have st := h.st
  rw [hn] at st
  rw [hd]
  rcases st with ⟨h1, ⟨h2, h3⟩ | ⟨g', cap', cur, h2, h3, h4, h5, h6, h7, h8⟩⟩
  · omega
  · cases h2
    refine ⟨by simp [intCells]; omega, .inr ⟨g, cap, cur, rfl, h3, h4, by omega, h6, h7, ?_⟩⟩
    have := congrArg (List.take (n - 1)) h8
    rw [List.take_take] at this
    simp only [Nat.mul_one] at this ⊢
    rw [show min (n - 1) n = n - 1 by omega] at this
    rw [this]
    simp only [intCells, ← List.map_take, List.take_take]
    rw [show min (n - 1) n = n - 1 by omega]
end

end Go.Proofs.YtmccnmgaoppogaaGreat

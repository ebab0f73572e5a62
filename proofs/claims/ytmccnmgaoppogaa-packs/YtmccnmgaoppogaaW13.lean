/-
  The walks: the program in lists of the caller's own. (weirlaw)
-/
import Derived.Test.YtmccnmgaoppogaaW12
namespace Go.Proofs.Ytmccnmgaoppogaa
open Go.RowKit

theorem Try.size3 : (Try.prog.info? 3).map (·.size) = some 1 := by kernel_rfl
theorem Try.size66 : (Try.prog.info? 66).map (·.size) = some 3 := by kernel_rfl
theorem Try.size103 : (Try.prog.info? 103).map (·.size) = some 4 := by kernel_rfl
theorem Try.inf3 : (Try.prog.info? 3).map (fun i => (i.zero, i.size, i.bytes)) = some (some (.int .i64 0), 1, 8) := by kernel_rfl

/-- the two blocks that a call begins with: what came in, and what goes out -/
structure Stg (w W : World) (X Y : List Value) : Prop where
  box : Blk W w.heap.size 26 X
  out : Blk W (w.heap.size + 1) 26 Y
  bel : Below w.heap.size w W
  sz : w.heap.size + 2 ≤ W.heap.size

theorem Stg.grown {w W W' : World} {X Y : List Value} (s : Stg w W X Y) (hg : W.grownBy W' none) : Stg w W' X Y := by
  have h1 := hg.size
  have h2 := s.sz
  exact ⟨blk_grown s.box hg (by simp), blk_grown s.out hg (by simp), s.bel.grown hg (by omega) (fun k hk => by cases hk), by omega⟩
theorem Stg.set {w W : World} {X Y : List Value} (s : Stg w W X Y) {g : Nat} (hg : w.heap.size + 2 ≤ g) (j : Nat) (u : Value) : Stg w (W.setCell ⟨g, j, none⟩ u) X Y := by
  refine ⟨blk_other s.box (by omega) j u, blk_other s.out (by omega) j u, s.bel.setCell (by show w.heap.size ≤ g; omega) u, ?_⟩
  have := s.sz
  simpa [World.setCell] using this

theorem sz_set (w : World) (a : Addr) (u : Value) : (w.setCell a u).heap.size = w.heap.size := by simp [World.setCell]

theorem tail_get {xs : List Value} {n size j : Nat} (hn : xs.length = n) (hj : j < size) : (xs ++ List.replicate size (Value.int .i64 0))[n + j]? = some (.int .i64 0) := by
  subst hn
  rw [List.getElem?_append_right (by omega)]
  simp [hj]

theorem set_tail {xs ys : List Value} {n j : Nat} {u : Value} (hn : xs.length = n) : (xs ++ ys).set (n + j) u = xs ++ ys.set j u := by
  subst hn
  rw [List.set_append_right _ _ (by omega)]
  simp

/-- what 'handed' gives: three lists in rows of its own, each with one place more -/
structure Handed (w w' : World) (p : Pure.Prg) (ge gr gc : Nat) : Prop where
  ents : Blk w' ge 3 (intCells p.ents ++ [.int .i64 (-5)])
  rules : Blk w' gr 66 (ruleCells p.rules ++ [.int .i64 0, .int .i64 0, .int .i64 (-5)])
  code : Blk w' gc 103 (insCells p.code ++ [.int .i64 (-5), .int .i64 0, .int .i64 0, .int .i64 0])
  bel : Below w.heap.size w w'
  e0 : w.heap.size ≤ ge
  r0 : w.heap.size ≤ gr
  c0 : w.heap.size ≤ gc
  er : ge ≠ gr
  ec : ge ≠ gc
  rc : gr ≠ gc

def RetHanded (p : Pure.Prg) (w : World) (e : Ending) (w' : World) : Prop := ∃ ge gr gc, e = .returned (.agg #[.slice (some ⟨ge, 0, none⟩) p.ents.length (p.ents.length + 1), .slice (some ⟨gr, 0, none⟩) p.rules.length (p.rules.length + 1), .slice (some ⟨gc, 0, none⟩) p.code.length (p.code.length + 1)]) ∧ Handed w w' p ge gr gc

set_option maxRecDepth 100000 in
set_option maxHeartbeats 2000000 in
theorem handed_any (ve vr vc : Value) (p : Pure.Prg) (w : World) (hE : Ints w ve p.ents) (hR : Rules w vr p.rules) (hC : Code w vc p.code)
    (hm : p.ents.length * 8 ≤ 140737488351232) (hk : p.rules.length * 24 ≤ 140737488351232) (hn : p.code.length * 32 ≤ 140737488351232) :
    Calls Try.prog 44 #[.agg #[ve, vr, vc]] w (RetHanded p w) := by
  obtain ⟨i3, hi3, h30, h31, h32⟩ := info_parts Try.inf3
  obtain ⟨ir, hir, hr0, hr1, hr2⟩ := info_parts Try.info66
  obtain ⟨ic, hic, hc0, hc1, hc2⟩ := info_parts Try.info103
  obtain ⟨ae, ce, rfl, he1, he2, -⟩ := hE.read
  obtain ⟨ar, cr, rfl, hr1', hr2', -⟩ := hR.read
  obtain ⟨ac, cc, rfl, hc1', hc2', -⟩ := hC.read
  have HE := hide hE
  have HR := hide hR
  have HC := hide hC
  clear hE hR hC
  have s0 : Stg w ((w.alloc (.cells #[.slice ae p.ents.length ce, .slice ar p.rules.length cr, .slice ac p.code.length cc] 26)).alloc (.cells #[.slice none 0 0, .slice none 0 0, .slice none 0 0] 26)) [.slice ae p.ents.length ce, .slice ar p.rules.length cr, .slice ac p.code.length cc] [.slice none 0 0, .slice none 0 0, .slice none 0 0] := by
    refine ⟨blk_alloc (heap_alloc_new _ _) _, ?_, ((Below.refl _ _).alloc (Nat.le_refl _) _).alloc (by simp) _, by simp⟩
    have := heap_alloc_new (w.alloc (.cells #[.slice ae p.ents.length ce, .slice ar p.rules.length cr, .slice ac p.code.length cc] 26)) (.cells #[.slice none 0 0, .slice none 0 0, .slice none 0 0] 26)
    simp only [World.size_alloc] at this
    exact this
  have S0 := hide s0
  clear s0
  go_enter Try.func44, Try.ntmps44
  go_wp2_with (first | (at_make; refine wpList_make_full _ rfl (.tmp 19) (.tmp 19) 22 rfl (w.heap.size + 2) 3 i3 (.int .i64 0) 1 Try.underlying22 hi3 h30 h31 _ _ _ _ (p.ents.length + 1) rfl rfl (by omega) (by omega) (by rw [h32]; omega) (by unfold maxLen; omega) (by simp) ?_; intro w1 hown1 hgrow1; simp only [World.size_alloc] at hown1; rw [made1] at hown1; obtain ⟨x1, hcp1, hblk1, hgr1⟩ := mk_copy (c := ce) Try.underlying22 Try.size3 hown1 hgrow1 (by simp) (by rw [intCells_length]; omega) (one_ints p.ents) ((HE.out.below S0.out.bel).src rfl); have k0 := blk_cell (j := 0) (S0.out.grown hgrow1).box rfl; have s1 := S0.out.grown hgr1; clear hown1 hgrow1 hgr1; have k1 := blk_cell (j := 1) s1.box rfl; have c1 := blk_cell (j := p.ents.length) (u := .int .i64 0) hblk1 (tail_get (j := 0) (intCells_length _) (by omega)); have z1 := blk_frozen hblk1 p.ents.length) | (at_make; refine wpList_make_full _ rfl (.tmp 29) (.tmp 29) 23 rfl (w.heap.size + 2) 66 ir (.agg #[.int .i64 0, .int .i64 0, .int .i64 0]) 3 Try.underlying23 hir hr0 hr1 _ _ _ _ (p.rules.length + 1) rfl rfl (by omega) (by omega) (by rw [hr2]; omega) (by unfold maxLen; omega) (by rw [sz_set]; exact s1.sz) ?_; intro w2 hown2 hgrow2; rw [sz_set] at hown2; rw [made3] at hown2; have t1 := s1.set (g := w.heap.size + 1 + 1) (Nat.le_refl _) p.ents.length (.int .i64 (-5)); obtain ⟨x2, hcp2, hblk2, hgr2⟩ := mk_copy (c := cr) Try.underlying23 Try.size66 hown2 hgrow2 (by simp) (by rw [ruleCells_length]) (one_rules p.rules) ((HR.out.below t1.bel).src rfl); have k2 := blk_cell (j := 1) (t1.grown hgrow2).box rfl; have s2 := t1.grown hgr2; have e2 := blk_grown (blk_set hblk1 p.ents.length (.int .i64 (-5))) hgr2 (by simp); clear hown2 hgrow2 hgr2 t1; have k3 := blk_cell (j := 2) s2.box rfl; have c2 : x2.cell? ⟨x1.heap.size, p.rules.length * 3, none⟩ = some (.int .i64 0) := blk_cell hblk2 (tail_get (j := 0) (ruleCells_length _) (by omega)); have c2' := blk_cell (u := .int .i64 0) hblk2 (tail_get (j := 1) (ruleCells_length _) (by omega)); have c2'' := blk_cell (u := .int .i64 0) hblk2 (tail_get (j := 2) (ruleCells_length _) (by omega)); have z2 := fun j => blk_frozen hblk2 j) | (at_make; refine wpList_make_full _ rfl (.tmp 40) (.tmp 40) 24 rfl (w.heap.size + 2) 103 ic (.agg #[.int .i64 0, .int .i64 0, .int .i64 0, .int .i64 0]) 4 Try.underlying24 hic hc0 hc1 _ _ _ _ (p.code.length + 1) rfl rfl (by omega) (by omega) (by rw [hc2]; omega) (by unfold maxLen; omega) (by rw [sz_set, sz_set, sz_set]; exact s2.sz) ?_; intro w3 hown3 hgrow3; rw [sz_set, sz_set, sz_set] at hown3; rw [made4] at hown3; have t2 := ((s2.set (g := x1.heap.size) s1.sz (p.rules.length * 3) (.int .i64 0)).set (g := x1.heap.size) s1.sz (p.rules.length * 3 + 1) (.int .i64 0)).set (g := x1.heap.size) s1.sz (p.rules.length * 3 + 2) (.int .i64 (-5)); obtain ⟨x3, hcp3, hblk3, hgr3⟩ := mk_copy (c := cc) Try.underlying24 Try.size103 hown3 hgrow3 (by simp) (by rw [insCells_length]) (one_ins p.code) ((HC.out.below t2.bel).src rfl); have k4 := blk_cell (j := 2) (t2.grown hgrow3).box rfl; have s3 := t2.grown hgr3; have ne1 : w.heap.size + 1 + 1 ≠ x1.heap.size := (by have := blk_lt hblk1; omega); have e3 := blk_grown (blk_other (blk_other (blk_other e2 ne1 (p.rules.length * 3) (.int .i64 0)) ne1 (p.rules.length * 3 + 1) (.int .i64 0)) ne1 (p.rules.length * 3 + 2) (.int .i64 (-5))) hgr3 (by simp); have r3 := blk_grown (blk_set (blk_set (blk_set hblk2 (p.rules.length * 3) (.int .i64 0)) (p.rules.length * 3 + 1) (.int .i64 0)) (p.rules.length * 3 + 2) (.int .i64 (-5))) hgr3 (by simp); clear hown3 hgrow3 hgr3 t2; have c3 : x3.cell? ⟨x2.heap.size, p.code.length * 4, none⟩ = some (.int .i64 0) := blk_cell hblk3 (tail_get (j := 0) (insCells_length _) (by omega)); have c3' := blk_cell (u := .int .i64 0) hblk3 (tail_get (j := 1) (insCells_length _) (by omega)); have c3'' := blk_cell (u := .int .i64 0) hblk3 (tail_get (j := 2) (insCells_length _) (by omega)); have c3''' := blk_cell (u := .int .i64 0) hblk3 (tail_get (j := 3) (insCells_length _) (by omega)); have z3 := fun j => blk_frozen hblk3 j))
  have t3 := (((s3.set (g := x2.heap.size) s2.sz (p.code.length * 4) (.int .i64 (-5))).set (g := x2.heap.size) s2.sz (p.code.length * 4 + 1) (.int .i64 0)).set (g := x2.heap.size) s2.sz (p.code.length * 4 + 2) (.int .i64 0)).set (g := x2.heap.size) s2.sz (p.code.length * 4 + 3) (.int .i64 0)
  have ne2 : w.heap.size + 1 + 1 ≠ x2.heap.size := by have := blk_lt e2; omega
  have ne3 : x1.heap.size ≠ x2.heap.size := by have := blk_lt hblk2; omega
  have e4 := blk_other (blk_other (blk_other (blk_other e3 ne2 (p.code.length * 4) (.int .i64 (-5))) ne2 (p.code.length * 4 + 1) (.int .i64 0)) ne2 (p.code.length * 4 + 2) (.int .i64 0)) ne2 (p.code.length * 4 + 3) (.int .i64 0)
  have r4 := blk_other (blk_other (blk_other (blk_other r3 ne3 (p.code.length * 4) (.int .i64 (-5))) ne3 (p.code.length * 4 + 1) (.int .i64 0)) ne3 (p.code.length * 4 + 2) (.int .i64 0)) ne3 (p.code.length * 4 + 3) (.int .i64 0)
  have q4 := blk_set (blk_set (blk_set (blk_set hblk3 (p.code.length * 4) (.int .i64 (-5))) (p.code.length * 4 + 1) (.int .i64 0)) (p.code.length * 4 + 2) (.int .i64 0)) (p.code.length * 4 + 3) (.int .i64 0)
  have se : ((intCells p.ents ++ List.replicate 1 (Value.int .i64 0)).set p.ents.length (.int .i64 (-5))) = intCells p.ents ++ [.int .i64 (-5)] := set_tail (j := 0) (intCells_length _)
  have sr : ((((ruleCells p.rules ++ List.replicate 3 (Value.int .i64 0)).set (p.rules.length * 3) (.int .i64 0)).set (p.rules.length * 3 + 1) (.int .i64 0)).set (p.rules.length * 3 + 2) (.int .i64 (-5))) = ruleCells p.rules ++ [.int .i64 0, .int .i64 0, .int .i64 (-5)] := by
    rw [show (ruleCells p.rules ++ List.replicate 3 (Value.int .i64 0)).set (p.rules.length * 3) (.int .i64 0) = ruleCells p.rules ++ (List.replicate 3 (Value.int .i64 0)).set 0 (.int .i64 0) from set_tail (j := 0) (ruleCells_length _), set_tail (ruleCells_length _), set_tail (ruleCells_length _)]; rfl
  have sc : (((((insCells p.code ++ List.replicate 4 (Value.int .i64 0)).set (p.code.length * 4) (.int .i64 (-5))).set (p.code.length * 4 + 1) (.int .i64 0)).set (p.code.length * 4 + 2) (.int .i64 0)).set (p.code.length * 4 + 3) (.int .i64 0)) = insCells p.code ++ [.int .i64 (-5), .int .i64 0, .int .i64 0, .int .i64 0] := by
    rw [show (insCells p.code ++ List.replicate 4 (Value.int .i64 0)).set (p.code.length * 4) (.int .i64 (-5)) = insCells p.code ++ (List.replicate 4 (Value.int .i64 0)).set 0 (.int .i64 (-5)) from set_tail (j := 0) (insCells_length _), set_tail (insCells_length _), set_tail (insCells_length _), set_tail (insCells_length _)]; rfl
  rw [se] at e4
  rw [sr] at r4
  rw [sc] at q4
  have hx1 : w.heap.size + 1 + 1 < x1.heap.size := blk_lt hblk1
  have hx2 : x1.heap.size < x2.heap.size := blk_lt hblk2
  generalize (((x3.setCell ⟨x2.heap.size, p.code.length * 4, none⟩ (.int .i64 (-5))).setCell ⟨x2.heap.size, p.code.length * 4 + 1, none⟩ (.int .i64 0)).setCell ⟨x2.heap.size, p.code.length * 4 + 2, none⟩ (.int .i64 0)).setCell ⟨x2.heap.size, p.code.length * 4 + 3, none⟩ (.int .i64 0) = x4 at *
  generalize x2.heap.size = gc at *
  generalize x1.heap.size = gr at *
  clear se sr sc e3 r3 hblk3 hblk2 hblk1 e2 s1 s2 s3 k0 k1 k2 k3 k4 c1 c2 c2' c2'' c3 c3' c3'' c3''' z1 z2 z3 hcp1 hcp2 hcp3 S0 HE HR HC ne1 ne2 ne3
  have o0 := blk_cell (j := 0) t3.out rfl
  have o1 := blk_cell (j := 1) t3.out rfl
  have o2 := blk_cell (j := 2) t3.out rfl
  have f0 := blk_frozen t3.out 0
  have f1 := blk_frozen t3.out 1
  have f2 := blk_frozen t3.out 2
  have T3 := hide t3
  have E4 := hide e4
  have R4 := hide r4
  have Q4 := hide q4
  clear t3 e4 r4 q4
  go_region
  go_wp2
  refine bodyPost_ret (v := .agg #[.slice (some ⟨w.heap.size + 1 + 1, 0, none⟩) p.ents.length (p.ents.length + 1), .slice (some ⟨gr, 0, none⟩) p.rules.length (p.rules.length + 1), .slice (some ⟨gc, 0, none⟩) p.code.length (p.code.length + 1)]) (by simp [results, Try.results44, go_sem, o0, o1, o2]) rfl ⟨_, _, _, rfl, ?_⟩
  have hs := T3.out.sz
  refine ⟨?_, ?_, ?_, ?_, by omega, by omega, by omega, by omega, by omega, by omega⟩
  · exact blk_other (blk_other (blk_other E4.out (by omega) _ _) (by omega) _ _) (by omega) _ _
  · exact blk_other (blk_other (blk_other R4.out (by omega) _ _) (by omega) _ _) (by omega) _ _
  · exact blk_other (blk_other (blk_other Q4.out (by omega) _ _) (by omega) _ _) (by omega) _ _
  · exact (((T3.out.bel.setCell (by show w.heap.size ≤ w.heap.size + 1; omega) _).setCell (by show w.heap.size ≤ w.heap.size + 1; omega) _).setCell (by show w.heap.size ≤ w.heap.size + 1; omega) _).drew

end Go.Proofs.Ytmccnmgaoppogaa

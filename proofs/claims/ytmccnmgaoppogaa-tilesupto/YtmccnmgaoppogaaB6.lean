/-
  The walks: copied. (weirkeep)
-/
import Derived.Test.YtmccnmgaoppogaaB4
import Derived.Test.YtmccnmgaoppogaaW13
namespace Go.Proofs.Ytmccnmgaoppogaa
open Go.RowKit

/-- the three blocks that a call begins with: what came in, what goes out, what it makes -/
structure Trio (w W : World) (X Y Z : List Value) : Prop where
  box : Blk W w.heap.size 26 X
  out : Blk W (w.heap.size + 1) 26 Y
  own : Blk W (w.heap.size + 1 + 1) 26 Z
  bel : Below w.heap.size w W
  sz : w.heap.size + 3 ≤ W.heap.size

theorem Trio.grown {w W W' : World} {X Y Z : List Value} {row : Option Nat} (s : Trio w W X Y Z) (hg : W.grownBy W' row) (hr : ∀ k, row = some k → w.heap.size + 3 ≤ k) : Trio w W' X Y Z := by
  have h1 := hg.size
  have h2 := s.sz
  have ne : ∀ g, g < w.heap.size + 3 → some g ≠ row := fun g hlt e => by have := hr g e.symm; omega
  exact ⟨blk_grown s.box hg (ne _ (by omega)), blk_grown s.out hg (ne _ (by omega)), blk_grown s.own hg (ne _ (by omega)), s.bel.grown hg (by omega) (fun k hk => by have := hr k hk; omega), by omega⟩
theorem Trio.below {w W W' : World} {X Y Z : List Value} (s : Trio w W X Y Z) (hb : Below (w.heap.size + 3) W W') : Trio w W' X Y Z := by
  have h1 := hb.size
  exact ⟨blk_below s.box hb (by omega), blk_below s.out hb (by omega), blk_below s.own hb (by omega), s.bel.trans (hb.mono (by omega)), by have := s.sz; omega⟩
theorem Trio.alloc {w W : World} {X Y Z : List Value} (s : Trio w W X Y Z) (o : Obj) : Trio w (W.alloc o) X Y Z :=
  ⟨blk_alloc s.box o, blk_alloc s.out o, blk_alloc s.own o, s.bel.alloc (by have := s.sz; omega) o, by have := s.sz; simp; omega⟩
theorem Trio.set {w W : World} {X Y Z : List Value} (s : Trio w W X Y Z) (j : Nat) (u : Value) : Trio w (W.setCell ⟨w.heap.size + 1 + 1, j, none⟩ u) X Y (Z.set j u) := by
  refine ⟨blk_other s.box (by omega) j u, blk_other s.out (by omega) j u, blk_set s.own j u, s.bel.setCell (by show w.heap.size ≤ w.heap.size + 1 + 1; omega) u, ?_⟩
  have := s.sz
  simpa [World.setCell] using this
theorem Trio.far {w W : World} {X Y Z : List Value} (s : Trio w W X Y Z) {g : Nat} (hg : w.heap.size + 3 ≤ g) (j : Nat) (u : Value) : Trio w (W.setCell ⟨g, j, none⟩ u) X Y Z := by
  refine ⟨blk_other s.box (by omega) j u, blk_other s.out (by omega) j u, blk_other s.own (by omega) j u, s.bel.setCell (by show w.heap.size ≤ g; omega) u, ?_⟩
  have := s.sz
  simpa [World.setCell] using this
theorem Trio.drew {w W : World} {X Y Z : List Value} (s : Trio w W X Y Z) : Trio w W.drew X Y Z := ⟨s.box, s.out, s.own, s.bel.drew, s.sz⟩

theorem own_grown {w w' : World} {base e size n : Nat} {v : Value} {xs : List Value} (h : w.ownsRow base e size v n xs) (hg : w.grownBy w' none) : w'.ownsRow base e size v n xs := by
  refine ⟨h.1, ?_⟩
  rcases h.2 with hn | ⟨g, cap, cur, rfl, hb', hgg, rest⟩
  · exact .inl hn
  · refine .inr ⟨g, cap, cur, rfl, hb', ?_, rest⟩
    rw [hg.block g (Array.getElem?_eq_some_iff.1 hgg).1 (by simp)]
    exact hgg

theorem own_out {W : World} {B base e size n j : Nat} {v : Value} {xs : List Value} (h : W.ownsRow (B + 3) e size v n xs) (u0 u1 u2 u3 : Value) (hb : base ≤ B := by exact Nat.le_refl _) :
    ((((W.setCell ⟨B + 1 + 1, j, none⟩ u0).setCell ⟨B + 1, 0, none⟩ u1).setCell ⟨B + 1, 1, none⟩ u2).setCell ⟨B + 1, 2, none⟩ u3).ownsRow base e size v n xs :=
  own_mono (ownsRow_setCell_below (ownsRow_setCell_below (ownsRow_setCell_below (ownsRow_setCell_below h (by show B + 1 + 1 < B + 3; omega) _) (by show B + 1 < B + 3; omega) _) (by show B + 1 < B + 3; omega) _) (by show B + 1 < B + 3; omega) _) (by omega)

theorem Trio.start (w : World) (X : List Value) (z : List Value) : Trio w (((w.alloc (.cells X.toArray 26)).alloc (.cells z.toArray 26)).alloc (.cells z.toArray 26)) X z z := by
  refine ⟨?_, ?_, ?_, ?_, by simp⟩
  · exact blk_alloc (blk_alloc (heap_alloc_new _ _) _) _
  · have : Blk ((w.alloc (.cells X.toArray 26)).alloc (.cells z.toArray 26)) (w.alloc (.cells X.toArray 26)).heap.size 26 z := heap_alloc_new _ _
    rw [World.size_alloc] at this
    exact blk_alloc this _
  · have : Blk (((w.alloc (.cells X.toArray 26)).alloc (.cells z.toArray 26)).alloc (.cells z.toArray 26)) ((w.alloc (.cells X.toArray 26)).alloc (.cells z.toArray 26)).heap.size 26 z := heap_alloc_new _ _
    rw [World.size_alloc, World.size_alloc] at this
    exact this
  · exact (((Below.refl _ _).alloc (Nat.le_refl _) _).alloc (by simp) _).alloc (by simp; omega) _

/-- three lists in rows of the call's own come back -/
def RetProg (p : Pure.Prg) (w : World) (e : Ending) (w' : World) : Prop := ∃ ve vr vc, e = .returned (.agg #[ve, vr, vc]) ∧ Below w.heap.size w w' ∧ w'.ownsRow w.heap.size 3 1 ve p.ents.length (intCells p.ents) ∧ w'.ownsRow w.heap.size 66 3 vr p.rules.length (ruleCells p.rules) ∧ w'.ownsRow w.heap.size 103 4 vc p.code.length (insCells p.code)

set_option maxRecDepth 100000 in
set_option maxHeartbeats 2000000 in
theorem copied_any (ve vr vc : Value) (p : Pure.Prg) (w : World) (hE : Ints w ve p.ents) (hR : Rules w vr p.rules) (hC : Code w vc p.code)
    (hm : 1 ≤ p.ents.length ∧ p.ents.length ≤ 4) (hk : 1 ≤ p.rules.length ∧ p.rules.length ≤ 16) (hn : 1 ≤ p.code.length ∧ p.code.length ≤ 50000) :
    Calls Try.prog 16 #[.agg #[ve, vr, vc]] w (RetProg p w) := by
  obtain ⟨i3, hi3, h30, h31, h32⟩ := info_parts Try.inf3
  obtain ⟨ir, hir, hr0, hr1, hr2⟩ := info_parts Try.info66
  obtain ⟨ic, hic, hc0, hc1, hc2⟩ := info_parts Try.info103
  obtain ⟨ae, ce, rfl, he1, he2, -⟩ := hE.read
  obtain ⟨ar, cr, rfl, hr1', hr2', -⟩ := hR.read
  obtain ⟨ac, cc, rfl, hc1', hc2', -⟩ := hC.read
  obtain ⟨ade, rfl, -⟩ := hE.src rfl (by omega)
  obtain ⟨adr, rfl, -⟩ := hR.src rfl (by omega)
  obtain ⟨adc, rfl, -⟩ := hC.src rfl (by omega)
  have SE : Hid (∀ W, Below w.heap.size w W → ∀ j u, (intCells p.ents)[j]? = some u → W.cell? (ade.add j) = some u) := fun W hb => by
    obtain ⟨ad, e, h⟩ := (hE.below hb).src rfl (by omega)
    cases e; exact h
  have SR : Hid (∀ W, Below w.heap.size w W → ∀ j u, (ruleCells p.rules)[j]? = some u → W.cell? (adr.add j) = some u) := fun W hb => by
    obtain ⟨ad, e, h⟩ := (hR.below hb).src rfl (by omega)
    cases e; exact h
  have SC : Hid (∀ W, Below w.heap.size w W → ∀ j u, (insCells p.code)[j]? = some u → W.cell? (adc.add j) = some u) := fun W hb => by
    obtain ⟨ad, e, h⟩ := (hC.below hb).src rfl (by omega)
    cases e; exact h
  clear hE hR hC
  have s0 := Trio.start w [.slice (some ade) p.ents.length ce, .slice (some adr) p.rules.length cr, .slice (some adc) p.code.length cc] [.slice none 0 0, .slice none 0 0, .slice none 0 0]
  have S0 := hide s0
  clear s0
  go_enter Try.func16, Try.ntmps16
  go_wp2_with (first
    | (at_builtin; refine wpList_append_own _ rfl (.tmp 5) (.tmp 7) 22 rfl (w.heap.size + 3) 3 i3 (.int .i64 0) 1 8 Try.underlying22 hi3 h30 h31 h32 rfl (by decide) (.slice none 0 0) 0 [] rfl (own_nil _ _ _ _) ade p.ents.length ce (intCells p.ents) rfl (by rw [intCells_length, Nat.mul_one]) (SE.out _ S0.out.bel) (one_ints _) (by unfold maxLen; omega) (by omega) S0.out.sz ?_; intro v1 w1 hown1 hgrow1 _; rw [Nat.zero_add, List.nil_append] at hown1; obtain ⟨g1, c1, rfl, -, -⟩ := own_some hown1 (by omega); have t1 := S0.out.grown hgrow1 (fun k hk => by cases hk); have z10 := blk_cell (j := 0) t1.own rfl; have y10 := blk_frozen t1.own 0; have z11 := blk_cell (j := 1) t1.own rfl; have x11 := blk_cell (j := 1) t1.box rfl; have O1 := hide (And.intro t1 hown1); clear t1 hown1 hgrow1)
    | (at_builtin; refine wpList_append_own _ rfl (.tmp 11) (.tmp 13) 23 rfl (w.heap.size + 3) 66 ir (.agg #[.int .i64 0, .int .i64 0, .int .i64 0]) 3 24 Try.underlying23 hir hr0 hr1 hr2 rfl (by decide) (.slice none 0 0) 0 [] rfl (own_nil _ _ _ _) adr p.rules.length cr (ruleCells p.rules) rfl (by rw [ruleCells_length]) (SR.out _ (O1.out.1.set 0 (.slice (some ⟨g1, 0, none⟩) p.ents.length c1)).bel) (one_rules _) (by unfold maxLen; omega) (by omega) (O1.out.1.set 0 (.slice (some ⟨g1, 0, none⟩) p.ents.length c1)).sz ?_; intro v2 w2 hown2 hgrow2 _; rw [Nat.zero_add, List.nil_append] at hown2; obtain ⟨g2, c2, rfl, -, -⟩ := own_some hown2 (by omega); have t2 := (O1.out.1.set 0 (.slice (some ⟨g1, 0, none⟩) p.ents.length c1)).grown hgrow2 (fun k hk => by cases hk); have o12 := own_grown (ownsRow_setCell_below O1.out.2 (a := ⟨w.heap.size + 1 + 1, 0, none⟩) (by show w.heap.size + 1 + 1 < w.heap.size + 3; omega) (.slice (some ⟨g1, 0, none⟩) p.ents.length c1)) hgrow2; clear z10 y10 z11 x11 O1; have z20 := blk_cell (j := 1) t2.own rfl; have y20 := blk_frozen t2.own 1; have z21 := blk_cell (j := 2) t2.own rfl; have x21 := blk_cell (j := 2) t2.box rfl; have O2 := hide (And.intro t2 (And.intro o12 hown2)); clear t2 hown2 hgrow2 o12)
    | (at_builtin; refine wpList_append_own _ rfl (.tmp 17) (.tmp 19) 24 rfl (w.heap.size + 3) 103 ic (.agg #[.int .i64 0, .int .i64 0, .int .i64 0, .int .i64 0]) 4 32 Try.underlying24 hic hc0 hc1 hc2 rfl (by decide) (.slice none 0 0) 0 [] rfl (own_nil _ _ _ _) adc p.code.length cc (insCells p.code) rfl (by rw [insCells_length]) (SC.out _ (O2.out.1.set 1 (.slice (some ⟨g2, 0, none⟩) p.rules.length c2)).bel) (one_ins _) (by unfold maxLen; omega) (by omega) (O2.out.1.set 1 (.slice (some ⟨g2, 0, none⟩) p.rules.length c2)).sz ?_; intro v3 w3 hown3 hgrow3 _; rw [Nat.zero_add, List.nil_append] at hown3; obtain ⟨g3, c3, rfl, -, -⟩ := own_some hown3 (by omega); have t3 := (O2.out.1.set 1 (.slice (some ⟨g2, 0, none⟩) p.rules.length c2)).grown hgrow3 (fun k hk => by cases hk); have o13 := own_grown (ownsRow_setCell_below O2.out.2.1 (a := ⟨w.heap.size + 1 + 1, 1, none⟩) (by show w.heap.size + 1 + 1 < w.heap.size + 3; omega) (.slice (some ⟨g2, 0, none⟩) p.rules.length c2)) hgrow3; have o23 := own_grown (ownsRow_setCell_below O2.out.2.2 (a := ⟨w.heap.size + 1 + 1, 1, none⟩) (by show w.heap.size + 1 + 1 < w.heap.size + 3; omega) (.slice (some ⟨g2, 0, none⟩) p.rules.length c2)) hgrow3; clear z20 y20 z21 x21 O2; have z30 := blk_cell (j := 0) t3.own rfl; have z31 := blk_cell (j := 1) t3.own rfl; have z32 := blk_cell (j := 2) t3.own rfl; have y32 := blk_frozen t3.own 2; have u30 := blk_cell (j := 0) t3.out rfl; have u31 := blk_cell (j := 1) t3.out rfl; have u32 := blk_cell (j := 2) t3.out rfl; have s30 := blk_frozen t3.out 0; have s31 := blk_frozen t3.out 1; have s32 := blk_frozen t3.out 2; have O3 := hide (And.intro t3 (And.intro o13 (And.intro o23 hown3))); clear t3 hown3 hgrow3 o13 o23))
  refine bodyPost_ret (v := .agg #[.slice (some ⟨g1, 0, none⟩) p.ents.length c1, .slice (some ⟨g2, 0, none⟩) p.rules.length c2, .slice (some ⟨g3, 0, none⟩) p.code.length c3]) (by simp [results, Try.results16, go_sem, u30, u31, u32]) rfl ⟨_, _, _, rfl, ?_, ?_, ?_, ?_⟩
  · exact (((O3.out.1.bel.setCell (by show w.heap.size ≤ w.heap.size + 1 + 1; omega) _).setCell (by show w.heap.size ≤ w.heap.size + 1; omega) _).setCell (by show w.heap.size ≤ w.heap.size + 1; omega) _).setCell (by show w.heap.size ≤ w.heap.size + 1; omega) _
  · exact own_out O3.out.2.1 _ _ _ _
  · exact own_out O3.out.2.2.1 _ _ _ _
  · exact own_out O3.out.2.2.2 _ _ _ _

end Go.Proofs.Ytmccnmgaoppogaa

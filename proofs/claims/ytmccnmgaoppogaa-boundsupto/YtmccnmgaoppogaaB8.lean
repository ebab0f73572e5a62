/-
  The walks: spoilt. (weirkeep)
-/
import Derived.Test.YtmccnmgaoppogaaB6
namespace Go.Proofs.Ytmccnmgaoppogaa
open Go.RowKit

/-- a program that is not right comes back -/
def RetBad (w : World) (e : Ending) (w' : World) : Prop := ∃ p ve vr vc, ¬ Pure.RightP p ∧ e = .returned (.agg #[ve, vr, vc]) ∧ Below w.heap.size w w' ∧ Ints w' ve p.ents ∧ Rules w' vr p.rules ∧ Code w' vc p.code

theorem bad_fin {w W : World} {ve vr vc : Value} {p : Pure.Prg} (hbel : Below w.heap.size w W) (oE : W.ownsRow (w.heap.size + 2) 3 1 ve p.ents.length (intCells p.ents)) (oR : W.ownsRow (w.heap.size + 2) 66 3 vr p.rules.length (ruleCells p.rules)) (oC : W.ownsRow (w.heap.size + 2) 103 4 vc p.code.length (insCells p.code)) (hb : ¬ Pure.RightP p) :
    RetBad w (.returned (.agg #[ve, vr, vc])) (((W.setCell ⟨w.heap.size + 1, 0, none⟩ ve).setCell ⟨w.heap.size + 1, 1, none⟩ vr).setCell ⟨w.heap.size + 1, 2, none⟩ vc) := by
  have lt : w.heap.size + 1 < w.heap.size + 2 := by omega
  refine ⟨p, ve, vr, vc, hb, rfl, ?_, ?_, ?_, ?_⟩
  · exact ((hbel.setCell (by show w.heap.size ≤ w.heap.size + 1; omega) _).setCell (by show w.heap.size ≤ w.heap.size + 1; omega) _).setCell (by show w.heap.size ≤ w.heap.size + 1; omega) _
  · exact own_ints (ownsRow_setCell_below (ownsRow_setCell_below (ownsRow_setCell_below oE lt _) lt _) lt _) rfl
  · exact own_rules (ownsRow_setCell_below (ownsRow_setCell_below (ownsRow_setCell_below oR lt _) lt _) lt _) rfl
  · exact own_code (ownsRow_setCell_below (ownsRow_setCell_below (ownsRow_setCell_below oC lt _) lt _) lt _) rfl

theorem intCells_set0 (l : List Int) (x : Int) : (intCells l).set 0 (.int .i64 x) = intCells (l.set 0 x) := by
  cases l <;> simp [intCells]
theorem ruleCells_set0 (l : List Pure.Rule) (x : Int) : (ruleCells l).set 0 (.int .i64 x) = ruleCells (l.set 0 ⟨x, (Pure.rg l 0).act, (Pure.rg l 0).mode⟩) := by
  cases l <;> simp [ruleCells, Pure.rg]
theorem ruleCells_set3 (l : List Pure.Rule) (x y z : Int) : (((ruleCells l).set 0 (.int .i64 x)).set 1 (.int .i64 y)).set 2 (.int .i64 z) = ruleCells (l.set 0 ⟨x, y, z⟩) := by
  cases l <;> simp [ruleCells]

set_option maxRecDepth 100000 in
set_option maxHeartbeats 4000000 in
theorem spoilt_any (ve vr vc : Value) (p : Pure.Prg) (which : Int) (w : World) (hE : Ints w ve p.ents) (hR : Rules w vr p.rules) (hC : Code w vc p.code) (hw : Rng which)
    (hm : 1 ≤ p.ents.length ∧ p.ents.length ≤ 4) (hk : 1 ≤ p.rules.length ∧ p.rules.length ≤ 16) (hn : 1 ≤ p.code.length ∧ p.code.length ≤ 50000) (hlast : Pure.cg p.code (p.code.length - 1) = ⟨5, 0, 0, 0⟩) :
    Calls Try.prog 19 #[.agg #[ve, vr, vc], .int .i64 which] w (RetBad w) := by
  obtain ⟨ae, ce, rfl, he1, he2, -⟩ := hE.read
  obtain ⟨ar, cr, rfl, hr1', hr2', -⟩ := hR.read
  obtain ⟨ac, cc, rfl, hc1', hc2', -⟩ := hC.read
  have HE := hide hE
  have HR := hide hR
  have HC := hide hC
  have HM := hide hm
  have HK := hide hk
  have HN := hide hn
  have HLAST := hide hlast
  have P1 := hide (fun w => pick_any which 8 w hw.1 hw.2 (by omega) (by omega))
  have hz := Pure.pk_bd which (n := 8) (by omega)
  generalize Pure.pk which 8 = z at *
  clear hE hR hC hw hlast
  have s0 : Stg w ((w.alloc (.cells #[.slice ae p.ents.length ce, .slice ar p.rules.length cr, .slice ac p.code.length cc] 26)).alloc (.cells #[.slice none 0 0, .slice none 0 0, .slice none 0 0] 26)) [.slice ae p.ents.length ce, .slice ar p.rules.length cr, .slice ac p.code.length cc] [.slice none 0 0, .slice none 0 0, .slice none 0 0] := by
    refine ⟨blk_alloc (heap_alloc_new _ _) _, ?_, ((Below.refl _ _).alloc (Nat.le_refl _) _).alloc (by simp) _, by simp⟩
    have := heap_alloc_new (w.alloc (.cells #[.slice ae p.ents.length ce, .slice ar p.rules.length cr, .slice ac p.code.length cc] 26)) (.cells #[.slice none 0 0, .slice none 0 0, .slice none 0 0] 26)
    rw [World.size_alloc] at this
    exact this
  have Z0 : Hid (((w.alloc (.cells #[.slice ae p.ents.length ce, .slice ar p.rules.length cr, .slice ac p.code.length cc] 26)).alloc (.cells #[.slice none 0 0, .slice none 0 0, .slice none 0 0] 26)).heap.size = w.heap.size + 2) := by show _ = _; simp
  have S0 := hide s0
  clear s0
  go_enter Try.func19, Try.ntmps19
  go_wp2_with fail
  refine (copied_any _ _ _ p _ (HE.out.below S0.out.bel) (HR.out.below S0.out.bel) (HC.out.below S0.out.bel) HM.out HK.out HN.out).mono ?_
  rintro e w1 ⟨ve1, vr1, vc1, rfl, hB1, oE, oR, oC⟩
  rw [Z0.out] at oE oR oC hB1
  obtain ⟨gE, cE, rfl, hE1, hE2⟩ := own_some oE (by omega)
  obtain ⟨gR, cR, rfl, hR1, hR2⟩ := own_some oR (by omega)
  obtain ⟨gC, cC, rfl, hC1, hC2⟩ := own_some oC (by omega)
  have bE := own_base oE
  have bR := own_base oR
  have bC := own_base oC
  have tO := blk_below S0.out.out hB1 (by omega)
  have bel1 : Below w.heap.size w w1 := S0.out.bel.trans (hB1.mono (by omega))
  have sz1 := hB1.size
  have HOE := hide (World.ownsRow.alloc oE (.cells #[.slice (some ⟨gE, 0, none⟩) p.ents.length cE, .slice (some ⟨gR, 0, none⟩) p.rules.length cR, .slice (some ⟨gC, 0, none⟩) p.code.length cC] 26))
  have HOR := hide (World.ownsRow.alloc oR (.cells #[.slice (some ⟨gE, 0, none⟩) p.ents.length cE, .slice (some ⟨gR, 0, none⟩) p.rules.length cR, .slice (some ⟨gC, 0, none⟩) p.code.length cC] 26))
  have HOC := hide (World.ownsRow.alloc oC (.cells #[.slice (some ⟨gE, 0, none⟩) p.ents.length cE, .slice (some ⟨gR, 0, none⟩) p.rules.length cR, .slice (some ⟨gC, 0, none⟩) p.code.length cC] 26))
  have TO := hide (blk_alloc tO (.cells #[.slice (some ⟨gE, 0, none⟩) p.ents.length cE, .slice (some ⟨gR, 0, none⟩) p.rules.length cR, .slice (some ⟨gC, 0, none⟩) p.code.length cC] 26))
  have TQ : Hid (Blk (w1.alloc (.cells #[.slice (some ⟨gE, 0, none⟩) p.ents.length cE, .slice (some ⟨gR, 0, none⟩) p.rules.length cR, .slice (some ⟨gC, 0, none⟩) p.code.length cC] 26)) w1.heap.size 26 [.slice (some ⟨gE, 0, none⟩) p.ents.length cE, .slice (some ⟨gR, 0, none⟩) p.rules.length cR, .slice (some ⟨gC, 0, none⟩) p.code.length cC]) := heap_alloc_new _ _
  have BEL := hide (bel1.alloc (by omega) (.cells #[.slice (some ⟨gE, 0, none⟩) p.ents.length cE, .slice (some ⟨gR, 0, none⟩) p.rules.length cR, .slice (some ⟨gC, 0, none⟩) p.code.length cC] 26))
  clear oE oR oC tO bel1 hB1 S0
  go_wp2_with fail
  refine (P1.out _).mono ?_
  rintro e w2 ⟨rfl, rfl⟩
  have nEq : gE ≠ w1.heap.size := by omega
  have nRq : gR ≠ w1.heap.size := by omega
  have nCq : gC ≠ w1.heap.size := by omega
  have nqo : w1.heap.size ≠ w.heap.size + 1 := by omega
  have eb : Hid (w.heap.size ≤ gE ∧ w.heap.size ≤ gR ∧ w.heap.size ≤ gC ∧ w.heap.size ≤ w1.heap.size) := ⟨by omega, by omega, by omega, by omega⟩
  generalize w1.alloc (.cells #[.slice (some ⟨gE, 0, none⟩) p.ents.length cE, .slice (some ⟨gR, 0, none⟩) p.rules.length cR, .slice (some ⟨gC, 0, none⟩) p.code.length cC] 26) = W at *
  generalize w1.heap.size = gq at *
  have q0 := blk_cell (j := 0) TQ.out rfl
  have q1 := blk_cell (j := 1) TQ.out rfl
  have q2 := blk_cell (j := 2) TQ.out rfl
  have qf := blk_frozen TQ.out 0
  have o0 := blk_cell (j := 0) TO.out rfl
  have o1 := blk_cell (j := 1) TO.out rfl
  have o2 := blk_cell (j := 2) TO.out rfl
  have f0 := blk_frozen TO.out 0
  have f1 := blk_frozen TO.out 1
  have f2 := blk_frozen TO.out 2
  have nEo : gE ≠ w.heap.size + 1 := by omega
  have nRo : gR ≠ w.heap.size + 1 := by omega
  have nCo : gC ≠ w.heap.size + 1 := by omega
  have nER := hide (own_ne HOE.out HOR.out (by decide))
  have nEC := hide (own_ne HOE.out HOC.out (by decide))
  have nRC := hide (own_ne HOR.out HOC.out (by decide))
  obtain ⟨N, hN⟩ : ∃ x, p.code.length = x + 1 := ⟨p.code.length - 1, by omega⟩
  have HNN := hide hN
  have wN : IntKind.i64.wrap ((p.code.length : Int) - 1) = (N : Int) := by rw [hN, wrap_in _ (by omega) (by omega)]; omega
  have lN : (N : Int) < (p.code.length : Int) := by omega
  have lN0 : (0 : Int) < (p.code.length : Int) := by omega
  have lE0 : (0 : Int) < (p.ents.length : Int) := by omega
  have lR0 : (0 : Int) < (p.rules.length : Int) := by omega
  have LST : Hid (Pure.cg p.code N = ⟨5, 0, 0, 0⟩) := by
    have := HLAST.out
    rw [hN, Nat.add_sub_cancel] at this
    exact this
  clear hN bE bR bC
  have hz8 : z = 0 ∨ z = 1 ∨ z = 2 ∨ z = 3 ∨ z = 4 ∨ z = 5 ∨ z = 6 ∨ z = 7 := by omega
  clear hz
  rcases hz8 with rfl | rfl | rfl | rfl | rfl | rfl | rfl | rfl
  · have c0 := own_cell HOE.out (j := 0) (intCells_get p.ents 0 (by omega))
    have c0f := own_frozen HOE.out 0
    go_wp2
    refine bodyPost_ret (v := .agg #[.slice (some ⟨gE, 0, none⟩) p.ents.length cE, .slice (some ⟨gR, 0, none⟩) p.rules.length cR, .slice (some ⟨gC, 0, none⟩) p.code.length cC]) (by simp [results, Try.results19, go_sem, o0, o1, o2]) rfl ?_
    refine bad_fin (p := ⟨p.ents.set 0 p.code.length, p.rules, p.code⟩) (BEL.out.setCell (by show w.heap.size ≤ gE; exact eb.out.1) _) ?_ (ownsRow_setCell_other HOR.out (a := ⟨gE, 0, none⟩) (by simp [Value.ownBlock]; exact fun h => nER.out h.symm) _) (ownsRow_setCell_other HOC.out (a := ⟨gE, 0, none⟩) (by simp [Value.ownBlock]; exact fun h => nEC.out h.symm) _) (Pure.bad_ent (by omega) _ rfl)
    simp only [List.length_set]
    rw [← intCells_set0]
    exact own_set HOE.out
  · obtain ⟨c0, c1, c2⟩ := ruleCells_get p.rules 0 (by omega)
    replace c0 := own_cell HOR.out (j := 0) c0
    replace c1 := own_cell HOR.out (j := 1) c1
    replace c2 := own_cell HOR.out (j := 2) c2
    have d0 := own_frozen HOR.out 0
    have d1 := own_frozen HOR.out 1
    have d2 := own_frozen HOR.out 2
    go_wp2
    refine bodyPost_ret (v := .agg #[.slice (some ⟨gE, 0, none⟩) p.ents.length cE, .slice (some ⟨gR, 0, none⟩) p.rules.length cR, .slice (some ⟨gC, 0, none⟩) p.code.length cC]) (by simp [results, Try.results19, go_sem, o0, o1, o2]) rfl ?_
    refine bad_fin (p := ⟨p.ents, p.rules.set 0 ⟨2, (Pure.rg p.rules 0).act, (Pure.rg p.rules 0).mode⟩, p.code⟩) (BEL.out.setCell (by show w.heap.size ≤ gR; exact eb.out.2.1) _) (ownsRow_setCell_other HOE.out (a := ⟨gR, 0, none⟩) (by simp [Value.ownBlock]; exact nER.out) _) ?_ (ownsRow_setCell_other HOC.out (a := ⟨gR, 0, none⟩) (by simp [Value.ownBlock]; exact fun h => nRC.out h.symm) _) (Pure.bad_rule (by omega) _ (fun h => by have := h.1; simp at this))
    simp only [List.length_set]
    rw [← ruleCells_set0]
    exact own_set HOR.out
  · obtain ⟨c0, c1, c2, c3⟩ := own_ins HOC.out (i := N) (by omega)
    have d0 := own_frozen HOC.out (N * 4)
    have d1 := own_frozen HOC.out (N * 4 + 1)
    have d2 := own_frozen HOC.out (N * 4 + 2)
    have d3 := own_frozen HOC.out (N * 4 + 3)
    go_wp2
    refine bodyPost_ret (v := .agg #[.slice (some ⟨gE, 0, none⟩) p.ents.length cE, .slice (some ⟨gR, 0, none⟩) p.rules.length cR, .slice (some ⟨gC, 0, none⟩) p.code.length cC]) (by simp [results, Try.results19, go_sem, o0, o1, o2]) rfl ?_
    refine bad_fin (p := ⟨p.ents, p.rules, p.code.set N ⟨2, 0, 0, 0⟩⟩) ((((BEL.out.setCell (by show w.heap.size ≤ gC; exact eb.out.2.2.1) _).setCell (by show w.heap.size ≤ gC; exact eb.out.2.2.1) _).setCell (by show w.heap.size ≤ gC; exact eb.out.2.2.1) _).setCell (by show w.heap.size ≤ gC; exact eb.out.2.2.1) _) (ownsRow_setCell_other (ownsRow_setCell_other (ownsRow_setCell_other (ownsRow_setCell_other HOE.out (a := ⟨gC, N * 4, none⟩) (by simp [Value.ownBlock]; exact nEC.out) _) (a := ⟨gC, N * 4 + 1, none⟩) (by simp [Value.ownBlock]; exact nEC.out) _) (a := ⟨gC, N * 4 + 2, none⟩) (by simp [Value.ownBlock]; exact nEC.out) _) (a := ⟨gC, N * 4 + 3, none⟩) (by simp [Value.ownBlock]; exact nEC.out) _) (ownsRow_setCell_other (ownsRow_setCell_other (ownsRow_setCell_other (ownsRow_setCell_other HOR.out (a := ⟨gC, N * 4, none⟩) (by simp [Value.ownBlock]; exact nRC.out) _) (a := ⟨gC, N * 4 + 1, none⟩) (by simp [Value.ownBlock]; exact nRC.out) _) (a := ⟨gC, N * 4 + 2, none⟩) (by simp [Value.ownBlock]; exact nRC.out) _) (a := ⟨gC, N * 4 + 3, none⟩) (by simp [Value.ownBlock]; exact nRC.out) _) ?_ ?_
    · simp only [List.length_set]
      have hs := (insCells_set p.code N (by omega) ⟨2, 0, 0, 0⟩).2.2.2
      rw [← hs]
      exact (own_set (own_set (own_set (own_set HOC.out))))
    · have e := HNN.out
      have hi : N = p.code.length - 1 := by omega
      rw [hi]
      exact Pure.bad_last (by omega) _ ⟨by simp, by simp⟩
  · obtain ⟨c0, c1, c2, c3⟩ := own_ins HOC.out (i := N) (by omega)
    have d0 := own_frozen HOC.out (N * 4)
    have d1 := own_frozen HOC.out (N * 4 + 1)
    have d2 := own_frozen HOC.out (N * 4 + 2)
    have d3 := own_frozen HOC.out (N * 4 + 3)
    go_wp2
    refine bodyPost_ret (v := .agg #[.slice (some ⟨gE, 0, none⟩) p.ents.length cE, .slice (some ⟨gR, 0, none⟩) p.rules.length cR, .slice (some ⟨gC, 0, none⟩) p.code.length cC]) (by simp [results, Try.results19, go_sem, o0, o1, o2]) rfl ?_
    refine bad_fin (p := ⟨p.ents, p.rules, p.code.set N ⟨4, 0, 0, (N : Int)⟩⟩) ((((BEL.out.setCell (by show w.heap.size ≤ gC; exact eb.out.2.2.1) _).setCell (by show w.heap.size ≤ gC; exact eb.out.2.2.1) _).setCell (by show w.heap.size ≤ gC; exact eb.out.2.2.1) _).setCell (by show w.heap.size ≤ gC; exact eb.out.2.2.1) _) (ownsRow_setCell_other (ownsRow_setCell_other (ownsRow_setCell_other (ownsRow_setCell_other HOE.out (a := ⟨gC, N * 4, none⟩) (by simp [Value.ownBlock]; exact nEC.out) _) (a := ⟨gC, N * 4 + 1, none⟩) (by simp [Value.ownBlock]; exact nEC.out) _) (a := ⟨gC, N * 4 + 2, none⟩) (by simp [Value.ownBlock]; exact nEC.out) _) (a := ⟨gC, N * 4 + 3, none⟩) (by simp [Value.ownBlock]; exact nEC.out) _) (ownsRow_setCell_other (ownsRow_setCell_other (ownsRow_setCell_other (ownsRow_setCell_other HOR.out (a := ⟨gC, N * 4, none⟩) (by simp [Value.ownBlock]; exact nRC.out) _) (a := ⟨gC, N * 4 + 1, none⟩) (by simp [Value.ownBlock]; exact nRC.out) _) (a := ⟨gC, N * 4 + 2, none⟩) (by simp [Value.ownBlock]; exact nRC.out) _) (a := ⟨gC, N * 4 + 3, none⟩) (by simp [Value.ownBlock]; exact nRC.out) _) ?_ ?_
    · simp only [List.length_set]
      have hs := (insCells_set p.code N (by omega) ⟨4, 0, 0, (N : Int)⟩).2.2.2
      rw [← hs]
      exact (own_set (own_set (own_set (own_set HOC.out))))
    · have e := HNN.out
      have hi : N = p.code.length - 1 := by omega
      rw [hi]
      exact Pure.bad_loop (by omega) _ (by omega)
  · obtain ⟨c0, c1, c2, c3⟩ := own_ins HOC.out (i := N) (by omega)
    have d0 := own_frozen HOC.out (N * 4)
    have d1 := own_frozen HOC.out (N * 4 + 1)
    have d2 := own_frozen HOC.out (N * 4 + 2)
    have d3 := own_frozen HOC.out (N * 4 + 3)
    go_wp2
    refine bodyPost_ret (v := .agg #[.slice (some ⟨gE, 0, none⟩) p.ents.length cE, .slice (some ⟨gR, 0, none⟩) p.rules.length cR, .slice (some ⟨gC, 0, none⟩) p.code.length cC]) (by simp [results, Try.results19, go_sem, o0, o1, o2]) rfl ?_
    refine bad_fin (p := ⟨p.ents, p.rules, p.code.set N ⟨5, 0, 0, 1⟩⟩) (BEL.out.setCell (by show w.heap.size ≤ gC; exact eb.out.2.2.1) _) (ownsRow_setCell_other HOE.out (a := ⟨gC, N * 4 + 3, none⟩) (by simp [Value.ownBlock]; exact nEC.out) _) (ownsRow_setCell_other HOR.out (a := ⟨gC, N * 4 + 3, none⟩) (by simp [Value.ownBlock]; exact nRC.out) _) ?_ (Pure.bad_ins N (by omega) _ (fun h => by unfold Pure.InsOK at h; simp at h))
    simp only [List.length_set]
    have hs := (insCells_set p.code N (by omega) ⟨5, 0, 0, 1⟩).2.2.1 (by rw [LST.out]) (by rw [LST.out]) (by rw [LST.out])
    rw [← hs]
    exact own_set HOC.out
  · go_wp2
    refine bodyPost_ret (v := .agg #[.slice none 0 0, .slice (some ⟨gR, 0, none⟩) p.rules.length cR, .slice (some ⟨gC, 0, none⟩) p.code.length cC]) (by simp [results, Try.results19, go_sem, o0, o1, o2]) rfl ?_
    refine bad_fin (p := ⟨[], p.rules, p.code⟩) (BEL.out.setCell (by show w.heap.size ≤ gq; exact eb.out.2.2.2) _) (own_nil _ _ _ _) ?_ ?_ Pure.bad_nil
    · exact ownsRow_setCell_other HOR.out (a := ⟨gq, 0, none⟩) (by simp [Value.ownBlock]; exact nRq) _
    · exact ownsRow_setCell_other HOC.out (a := ⟨gq, 0, none⟩) (by simp [Value.ownBlock]; exact nCq) _
  · obtain ⟨c0, c1, c2⟩ := ruleCells_get p.rules 0 (by omega)
    replace c0 := own_cell HOR.out (j := 0) c0
    replace c1 := own_cell HOR.out (j := 1) c1
    replace c2 := own_cell HOR.out (j := 2) c2
    have d0 := own_frozen HOR.out 0
    have d1 := own_frozen HOR.out 1
    have d2 := own_frozen HOR.out 2
    go_wp2
    refine bodyPost_ret (v := .agg #[.slice (some ⟨gE, 0, none⟩) p.ents.length cE, .slice (some ⟨gR, 0, none⟩) p.rules.length cR, .slice (some ⟨gC, 0, none⟩) p.code.length cC]) (by simp [results, Try.results19, go_sem, o0, o1, o2]) rfl ?_
    refine bad_fin (p := ⟨p.ents, p.rules.set 0 ⟨0, 1, p.ents.length⟩, p.code⟩) (((BEL.out.setCell (by show w.heap.size ≤ gR; exact eb.out.2.1) _).setCell (by show w.heap.size ≤ gR; exact eb.out.2.1) _).setCell (by show w.heap.size ≤ gR; exact eb.out.2.1) _) (ownsRow_setCell_other (ownsRow_setCell_other (ownsRow_setCell_other HOE.out (a := ⟨gR, 0, none⟩) (by simp [Value.ownBlock]; exact nER.out) _) (a := ⟨gR, 1, none⟩) (by simp [Value.ownBlock]; exact nER.out) _) (a := ⟨gR, 2, none⟩) (by simp [Value.ownBlock]; exact nER.out) _) ?_ (ownsRow_setCell_other (ownsRow_setCell_other (ownsRow_setCell_other HOC.out (a := ⟨gR, 0, none⟩) (by simp [Value.ownBlock]; exact fun h => nRC.out h.symm) _) (a := ⟨gR, 1, none⟩) (by simp [Value.ownBlock]; exact fun h => nRC.out h.symm) _) (a := ⟨gR, 2, none⟩) (by simp [Value.ownBlock]; exact fun h => nRC.out h.symm) _) (Pure.bad_rule (by omega) _ (fun h => by have := h.2.2.1.2; simp at this))
    simp only [List.length_set]
    rw [← ruleCells_set3]
    exact (own_set (own_set (own_set HOR.out)))
  · obtain ⟨c0, c1, c2, c3⟩ := own_ins HOC.out (i := 0) (by omega)
    rw [Nat.zero_mul] at c0 c1 c2 c3
    rw [Nat.zero_add] at c1 c2 c3
    have d0 := own_frozen HOC.out 0
    have d1 := own_frozen HOC.out 1
    have d2 := own_frozen HOC.out 2
    have d3 := own_frozen HOC.out 3
    go_wp2
    refine bodyPost_ret (v := .agg #[.slice (some ⟨gE, 0, none⟩) p.ents.length cE, .slice (some ⟨gR, 0, none⟩) p.rules.length cR, .slice (some ⟨gC, 0, none⟩) p.code.length cC]) (by simp [results, Try.results19, go_sem, o0, o1, o2]) rfl ?_
    refine bad_fin (p := ⟨p.ents, p.rules, p.code.set 0 ⟨3, 7, 6, (N : Int)⟩⟩) ((((BEL.out.setCell (by show w.heap.size ≤ gC; exact eb.out.2.2.1) _).setCell (by show w.heap.size ≤ gC; exact eb.out.2.2.1) _).setCell (by show w.heap.size ≤ gC; exact eb.out.2.2.1) _).setCell (by show w.heap.size ≤ gC; exact eb.out.2.2.1) _) (ownsRow_setCell_other (ownsRow_setCell_other (ownsRow_setCell_other (ownsRow_setCell_other HOE.out (a := ⟨gC, 0, none⟩) (by simp [Value.ownBlock]; exact nEC.out) _) (a := ⟨gC, 1, none⟩) (by simp [Value.ownBlock]; exact nEC.out) _) (a := ⟨gC, 2, none⟩) (by simp [Value.ownBlock]; exact nEC.out) _) (a := ⟨gC, 3, none⟩) (by simp [Value.ownBlock]; exact nEC.out) _) (ownsRow_setCell_other (ownsRow_setCell_other (ownsRow_setCell_other (ownsRow_setCell_other HOR.out (a := ⟨gC, 0, none⟩) (by simp [Value.ownBlock]; exact nRC.out) _) (a := ⟨gC, 1, none⟩) (by simp [Value.ownBlock]; exact nRC.out) _) (a := ⟨gC, 2, none⟩) (by simp [Value.ownBlock]; exact nRC.out) _) (a := ⟨gC, 3, none⟩) (by simp [Value.ownBlock]; exact nRC.out) _) ?_ ?_
    · simp only [List.length_set]
      have hs := (insCells_set p.code 0 (by omega) ⟨3, 7, 6, (N : Int)⟩).2.2.2
      simp only [Nat.zero_mul, Nat.zero_add] at hs
      rw [← hs]
      exact (own_set (own_set (own_set (own_set HOC.out))))
    · exact Pure.bad_ins 0 (by omega) _ (fun h => by unfold Pure.InsOK at h; simp at h)

end Go.Proofs.Ytmccnmgaoppogaa

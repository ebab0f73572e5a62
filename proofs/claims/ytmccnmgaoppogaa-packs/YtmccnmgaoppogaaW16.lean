/-
  The walks: what was handed in reads as it did. (weirlaw)
-/
import Derived.Test.YtmccnmgaoppogaaW14
import Derived.Test.YtmccnmgaoppogaaW15
namespace Go.Proofs.Ytmccnmgaoppogaa
open Go.RowKit

theorem app_get {xs ys : List Value} {j : Nat} {u : Value} (h : xs[j]? = some u) : (xs ++ ys)[j]? = some u := by
  have := (List.getElem?_eq_some_iff.1 h).1
  rw [List.getElem?_append_left this]; exact h

theorem blk_ints {w : World} {g c : Nat} {l : List Int} {ys : List Value} (h : Blk w g 3 (intCells l ++ ys)) (hc : l.length ≤ c) (hm : c ≤ 9223372036854775807) : Ints w (.slice (some ⟨g, 0, none⟩) l.length c) l := by
  refine ⟨_, c, rfl, hc, hm, fun i hi => ⟨g, 0, rfl, blk_lt h, ?_⟩⟩
  rw [Nat.zero_add]
  exact blk_cell h (app_get (intCells_get l i hi))
theorem blk_rules {w : World} {g c : Nat} {l : List Pure.Rule} {ys : List Value} (h : Blk w g 66 (ruleCells l ++ ys)) (hc : l.length ≤ c) (hm : c ≤ 9223372036854775807) : Rules w (.slice (some ⟨g, 0, none⟩) l.length c) l := by
  refine ⟨_, c, rfl, hc, hm, fun i hi => ⟨g, 0, rfl, blk_lt h, ?_⟩⟩
  have q := ruleCells_get l i hi
  rw [Nat.mul_comm] at q
  rw [Nat.zero_add]
  exact ⟨blk_cell h (app_get q.1), blk_cell h (app_get q.2.1), blk_cell h (app_get q.2.2)⟩
theorem blk_code {w : World} {g c : Nat} {l : List Pure.Ins} {ys : List Value} (h : Blk w g 103 (insCells l ++ ys)) (hc : l.length ≤ c) (hm : c ≤ 9223372036854775807) : Code w (.slice (some ⟨g, 0, none⟩) l.length c) l := by
  refine ⟨_, c, rfl, hc, hm, fun i hi => ⟨g, 0, rfl, blk_lt h, ?_⟩⟩
  have q := insCells_get l i hi
  rw [Nat.mul_comm] at q
  rw [Nat.zero_add]
  exact ⟨blk_cell h (app_get q.1), blk_cell h (app_get q.2.1), blk_cell h (app_get q.2.2.1), blk_cell h (app_get q.2.2.2)⟩

theorem last_get {xs ys : List Value} {n j : Nat} {u : Value} (hn : xs.length = n) (h : ys[j]? = some u) : (xs ++ ys)[n + j]? = some u := by
  subst hn
  rw [List.getElem?_append_right (by omega)]
  simpa using h

set_option maxRecDepth 100000 in
set_option maxHeartbeats 2000000 in
theorem still_any (ge gr gc : Nat) (ue ur uc : Value) (p : Pure.Prg) (w : World) (be : Blk w ge 3 (intCells p.ents ++ [.int .i64 (-5)])) (br : Blk w gr 66 (ruleCells p.rules ++ [.int .i64 0, .int .i64 0, .int .i64 (-5)])) (bc : Blk w gc 103 (insCells p.code ++ [.int .i64 (-5), .int .i64 0, .int .i64 0, .int .i64 0]))
    (kE : Ints w ue p.ents) (kR : Rules w ur p.rules) (kC : Code w uc p.code) (hm : p.ents.length ≤ 1000000000000000) (hk : p.rules.length ≤ 1000000000000000) (hn : p.code.length ≤ 1000000000000000) :
    Calls Try.prog 45 #[.agg #[.slice (some ⟨ge, 0, none⟩) p.ents.length (p.ents.length + 1), .slice (some ⟨gr, 0, none⟩) p.rules.length (p.rules.length + 1), .slice (some ⟨gc, 0, none⟩) p.code.length (p.code.length + 1)], .agg #[ue, ur, uc]] w (RetT w) := by
  obtain ⟨de, ce, rfl, ie1, ie2⟩ := kE.form
  obtain ⟨dr, cr, rfl, ir1, ir2⟩ := kR.form
  obtain ⟨dc, cc, rfl, ic1, ic2⟩ := kC.form
  have H := hide (And.intro (blk_ints (c := p.ents.length + 1) be (by omega) (by omega)) (And.intro (blk_rules (c := p.rules.length + 1) br (by omega) (by omega)) (And.intro (blk_code (c := p.code.length + 1) bc (by omega) (by omega)) (And.intro kE (And.intro kR kC)))))
  have HBK := hide (And.intro be (And.intro br bc))
  clear be br bc kE kR kC
  have HB0 := hide (((Below.refl w.heap.size w).alloc (Nat.le_refl _) (.cells #[.slice (some ⟨ge, 0, none⟩) p.ents.length (p.ents.length + 1), .slice (some ⟨gr, 0, none⟩) p.rules.length (p.rules.length + 1), .slice (some ⟨gc, 0, none⟩) p.code.length (p.code.length + 1)] 26)).alloc (by simp) (.cells #[.slice de p.ents.length ce, .slice dr p.rules.length cr, .slice dc p.code.length cc] 26))
  go_enter Try.func45, Try.ntmps45
  go_wp2_with fail
  refine (sameProgram_eq _ _ _ _ _ _ p _ (H.out.1.below HB0.out) (H.out.2.1.below HB0.out) (H.out.2.2.1.below HB0.out) (H.out.2.2.2.1.below HB0.out) (H.out.2.2.2.2.1.below HB0.out) (H.out.2.2.2.2.2.below HB0.out)).mono ?_
  rintro e w1 ⟨rfl, hB1⟩
  have hbel1 : Below w.heap.size w w1 := HB0.out.trans (hB1.mono (by simp; omega))
  have hc1' := (bcell hB1).1
  have be1 := blk_below HBK.out.1 hbel1 (blk_lt HBK.out.1)
  have br1 := blk_below HBK.out.2.1 hbel1 (blk_lt HBK.out.2.1)
  have bc1 := blk_below HBK.out.2.2 hbel1 (blk_lt HBK.out.2.2)
  have le : w1.cell? ⟨ge, p.ents.length, none⟩ = some (.int .i64 (-5)) := blk_cell be1 (last_get (j := 0) (intCells_length _) rfl)
  have lr : w1.cell? ⟨gr, p.rules.length * 3 + 2, none⟩ = some (.int .i64 (-5)) := blk_cell br1 (last_get (j := 2) (ruleCells_length _) rfl)
  have lc : w1.cell? ⟨gc, p.code.length * 4, none⟩ = some (.int .i64 (-5)) := blk_cell bc1 (last_get (j := 0) (insCells_length _) rfl)
  clear be1 br1 bc1 hB1
  go_wp2
  go_ret
  exact ⟨rfl, hbel1⟩

end Go.Proofs.Ytmccnmgaoppogaa

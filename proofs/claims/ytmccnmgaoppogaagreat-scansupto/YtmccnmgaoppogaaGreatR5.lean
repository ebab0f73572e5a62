/-
  The walks: Unpack. (weir)
-/
import Derived.Test.YtmccnmgaoppogaaGreatR4
import Derived.Test.YtmccnmgaoppogaaGreatW5a
namespace Go.Proofs.YtmccnmgaoppogaaGreat
open Go.RowKit

/-- what Unpack gives -/
def RetUnp (code : Int) (s : ByteArray) (w : World) (e : Ending) (w' : World) : Prop :=
  (Form s ∧ Pure.RightP (prgOf s) ∧ ∃ ve vr vc, e = .returned (.tuple #[.agg #[ve, vr, vc], .int .i64 0]) ∧ Below w.heap.size w w' ∧ w'.ownsRow w.heap.size 3 1 ve (nE s) (intCells (prgOf s).ents) ∧ w'.ownsRow w.heap.size 59 3 vr (nR s) (ruleCells (prgOf s).rules) ∧ w'.ownsRow w.heap.size 61 4 vc (nC s) (insCells (prgOf s).code)) ∨
  (¬ (Form s ∧ Pure.RightP (prgOf s)) ∧ e = .returned (.tuple #[.agg #[.slice none 0 0, .slice none 0 0, .slice none 0 0], .int .i64 code]) ∧ Below w.heap.size w w')

set_option maxRecDepth 100000 in
set_option maxHeartbeats 2000000 in
theorem unpack_any (s : ByteArray) (w : World) (hs : s.size ≤ 9223372036854775807) :
    Calls Tryz.prog 47 #[.string s] w (RetUnp 2 s w) := by
  have HB0 := hide ((Below.refl w.heap.size w).alloc (Nat.le_refl _) (.cells #[.slice none 0 0, .slice none 0 0, .slice none 0 0] 43))
  have kX : Blk (w.alloc (.cells #[.slice none 0 0, .slice none 0 0, .slice none 0 0] 43)) w.heap.size 43 [.slice none 0 0, .slice none 0 0, .slice none 0 0] := heap_alloc_new _ _
  have sX : (w.alloc (.cells #[.slice none 0 0, .slice none 0 0, .slice none 0 0] 43)).heap.size = w.heap.size + 1 := by simp
  have HKX := hide kX
  have SX := hide sX
  clear kX sX
  go_enter Tryz.func47, Tryz.ntmps47
  go_wp2_with fail
  refine (read_any s _ hs).mono ?_
  rintro e w1 (⟨hF, ve, vr, vc, rfl, hB1, he, hr, hc⟩ | ⟨hF, rfl, hB1⟩)
  · have k1 := blk_below HKX.out hB1 (blk_lt HKX.out)
    have bel1 : Below w.heap.size w w1 := HB0.out.trans (hB1.mono (by rw [SX.out]; omega))
    rw [SX.out] at he hr hc
    have HO := hide (And.intro he (And.intro hr hc))
    obtain ⟨ae, ce, rfl, -, -, -⟩ := own_read he
    obtain ⟨ar, cr, rfl, -, -, -⟩ := own_read hr
    obtain ⟨ac, cc, rfl, -, -, -⟩ := own_read hc
    have o0 := blk_cell (j := 0) k1 rfl
    have hsz1 : w.heap.size < w1.heap.size := blk_lt k1
    clear o0 he hr hc hB1
    have HF := hide hF
    clear hF
    go_wp2_with fail
    have HK1 := hide (blk_alloc k1 (.cells #[.slice ae (nE s) ce, .slice ar (nR s) cr, .slice ac (nC s) cc] 43))
    have HP1 : Hid (Blk (w1.alloc (.cells #[.slice ae (nE s) ce, .slice ar (nR s) cr, .slice ac (nC s) cc] 43)) w1.heap.size 43 [.slice ae (nE s) ce, .slice ar (nR s) cr, .slice ac (nC s) cc]) := heap_alloc_new _ _
    have HBA := hide (bel1.alloc (by omega) (.cells #[.slice ae (nE s) ce, .slice ar (nR s) cr, .slice ac (nC s) cc] 43))
    clear k1
    refine (right_any _ _ _ (prgOf s) _ (own_ints (World.ownsRow.alloc HO.out.1 _) (entsOf_len _ _ _).symm) (own_rules (World.ownsRow.alloc HO.out.2.1 _) (rulesOf_len _ _ _).symm) (own_code (World.ownsRow.alloc HO.out.2.2 _) (codeOf_len _ _ _).symm)).mono ?_
    rintro e w2 ⟨bb, rfl, hbb, hB2⟩
    have k2 := blk_below HK1.out hB2 (blk_lt HK1.out)
    have p2 := blk_below HP1.out hB2 (blk_lt HP1.out)
    have bel2 : Below w.heap.size w w2 := HBA.out.trans (hB2.mono (by simp; omega))
    have HO2 := hide (And.intro (own_below (World.ownsRow.alloc HO.out.1 (.cells #[.slice ae (nE s) ce, .slice ar (nR s) cr, .slice ac (nC s) cc] 43)) hB2 (Nat.le_refl _)) (And.intro (own_below (World.ownsRow.alloc HO.out.2.1 (.cells #[.slice ae (nE s) ce, .slice ar (nR s) cr, .slice ac (nC s) cc] 43)) hB2 (Nat.le_refl _)) (own_below (World.ownsRow.alloc HO.out.2.2 (.cells #[.slice ae (nE s) ce, .slice ar (nR s) cr, .slice ac (nC s) cc] 43)) hB2 (Nat.le_refl _))))
    have o0 := blk_cell (j := 0) k2 rfl
    have o1 := blk_cell (j := 1) k2 rfl
    have o2 := blk_cell (j := 2) k2 rfl
    have f0 := blk_frozen k2 0
    have f1 := blk_frozen k2 1
    have f2 := blk_frozen k2 2
    have q0 := blk_cell (j := 0) p2 rfl
    have q1 := blk_cell (j := 1) p2 rfl
    have q2 := blk_cell (j := 2) p2 rfl
    clear k2 p2 HK1 HP1 HBA HO hB2
    have hne : w1.heap.size ≠ w.heap.size := by omega
    cases bb
    · have HN : Hid (¬ (Form s ∧ Pure.RightP (prgOf s))) := fun h => Bool.noConfusion (hbb.2 h.2)
      clear hbb
      go_wp2
      refine bodyPost_ret (v := .tuple #[.agg #[.slice none 0 0, .slice none 0 0, .slice none 0 0], .int .i64 2]) (by simp [results, Tryz.results47, go_sem, o0, o1, o2]) rfl (.inr ⟨HN.out, rfl, ?_⟩)
      exact ((bel2.setCell (Nat.le_refl _) _).setCell (Nat.le_refl _) _).setCell (Nat.le_refl _) _
    · have HN := hide (hbb.1 rfl)
      clear hbb
      go_wp2
      refine bodyPost_ret (v := .tuple #[.agg #[.slice ae (nE s) ce, .slice ar (nR s) cr, .slice ac (nC s) cc], .int .i64 0]) (by simp [results, Tryz.results47, go_sem, o0, o1, o2]) rfl (.inl ⟨HF.out, HN.out, _, _, _, rfl, ?_, ?_, ?_, ?_⟩)
      · exact ((bel2.setCell (Nat.le_refl _) _).setCell (Nat.le_refl _) _).setCell (Nat.le_refl _) _
      · exact own_mono (ownsRow_setCell_below (ownsRow_setCell_below (ownsRow_setCell_below HO2.out.1 (Nat.lt_succ_self _) _) (Nat.lt_succ_self _) _) (Nat.lt_succ_self _) _) (Nat.le_succ _)
      · exact own_mono (ownsRow_setCell_below (ownsRow_setCell_below (ownsRow_setCell_below HO2.out.2.1 (Nat.lt_succ_self _) _) (Nat.lt_succ_self _) _) (Nat.lt_succ_self _) _) (Nat.le_succ _)
      · exact own_mono (ownsRow_setCell_below (ownsRow_setCell_below (ownsRow_setCell_below HO2.out.2.2 (Nat.lt_succ_self _) _) (Nat.lt_succ_self _) _) (Nat.lt_succ_self _) _) (Nat.le_succ _)
  · have k1 := blk_below HKX.out hB1 (blk_lt HKX.out)
    have bel1 : Below w.heap.size w w1 := HB0.out.trans (hB1.mono (by rw [SX.out]; omega))
    have HN : Hid (¬ (Form s ∧ Pure.RightP (prgOf s))) := fun h => hF h.1
    have hsz1 : w.heap.size < w1.heap.size := blk_lt k1
    have hne : w1.heap.size ≠ w.heap.size := by omega
    have o0 := blk_cell (j := 0) k1 rfl
    have o1 := blk_cell (j := 1) k1 rfl
    have o2 := blk_cell (j := 2) k1 rfl
    have f0 := blk_frozen k1 0
    have f1 := blk_frozen k1 1
    have f2 := blk_frozen k1 2
    clear hF hB1 k1
    go_wp2
    refine bodyPost_ret (v := .tuple #[.agg #[.slice none 0 0, .slice none 0 0, .slice none 0 0], .int .i64 2]) (by simp [results, Tryz.results47, go_sem, o0, o1, o2, hsz1]) rfl (.inr ⟨HN.out, rfl, ?_⟩)
    exact (((bel1.setCell (Nat.le_refl _) _).setCell (Nat.le_refl _) _).setCell (Nat.le_refl _) _).alloc (by simp; omega) _

end Go.Proofs.YtmccnmgaoppogaaGreat

/-
  The walks: rules and instructions that are read. (images)
-/
import Derived.Test.YtmccnmgaoppogaaGreatR1
namespace Go.Proofs.YtmccnmgaoppogaaGreat
open Go.RowKit

set_option maxRecDepth 100000 in
set_option maxHeartbeats 2000000 in
theorem readRules_any (s : ByteArray) (w : World) (hs : s.size ≤ 1000000) :
    Calls Tryz.prog 112 #[.string s] w (RetRow 59 3 (s.size / 3) (ruleCells (rulesOf s 0 (s.size / 3))) w) := by
  obtain ⟨i0, hi, hz0, hz1, hz2⟩ := info_parts Tryz.info59
  go_enter Tryz.func112, Tryz.ntmps112
  go_wp2_with (at_make; refine wpList_make_own _ rfl _ _ 40 rfl w.heap.size 59 i0 (.agg #[.int .i64 0, .int .i64 0, .int .i64 0]) 3 Tryz.underlying40 hi hz0 hz1 _ _ _ (s.size / 3) rfl rfl (by omega) (by rw [hz2]; omega) (by unfold maxLen; omega) (Nat.le_refl _) ?_; intro w1 hown1 hgrow1)
  have hbel1 : Below w.heap.size w w1 := (Below.refl _ _).grown hgrow1 (Nat.le_refl _) (fun k h => by cases h)
  have HO := hide hown1
  clear hown1 hgrow1
  go_loopw [3, 4] (fun f i wr => ∃ (k : Nat) (f' : Value), k ≤ s.size / 3 ∧ i = .int .i64 ((3 * k : Nat) : Int) ∧ f' = f ∧ Below w.heap.size w wr ∧ wr.ownsRow w.heap.size 59 3 f' k (ruleCells (rulesOf s 0 k))) (fun _ i _ => s.size + 3 - (intOf i).toNat)
  case atStart => exact ⟨0, _, Nat.zero_le _, rfl, rfl, hbel1, HO.out⟩
  case round =>
    clear HO hbel1
    obtain ⟨k, f, hk, rfl, rfl, hbel, hown⟩ := hrel
    by_cases hlt : 3 * k + 3 ≤ s.size
    · have hk1 : k + 1 ≤ s.size / 3 := by omega
      have hst := rules_step s 0 k
      have HST := hide hst
      clear hst
      rw [Nat.zero_add] at HST
      generalize ha : 3 * k = a at *
      have HA := hide ha
      clear ha
      have x0 := fun w => idx_str s (a : Int) a rfl (by omega) w
      have b0 := bt_bd s a
      have x1 := fun w => idx_str s ((a : Int) + 1) (a + 1) (by omega) (by omega) w
      have b1 := bt_bd s (a + 1)
      have x2 := fun w => idx_str s ((a : Int) + 2) (a + 2) (by omega) (by omega) w
      have b2 := bt_bd s (a + 2)
      generalize bt s a = p0 at *
      generalize bt s (a + 1) = p1 at *
      generalize bt s (a + 2) = p2 at *
      have j0 : (0 : Int) ≤ (a : Int) := by omega
      have k0 : (a : Int) < (s.size : Int) := by omega
      have j1 : (0 : Int) ≤ (a : Int) + 1 := by omega
      have k1 : (a : Int) + 1 < (s.size : Int) := by omega
      have wr1 : IntKind.i64.wrap ((a : Int) + 1) = (a : Int) + 1 := wrap_in _ (by omega) (by omega)
      have j2 : (0 : Int) ≤ (a : Int) + 2 := by omega
      have k2 : (a : Int) + 2 < (s.size : Int) := by omega
      have wr2 : IntKind.i64.wrap ((a : Int) + 2) = (a : Int) + 2 := wrap_in _ (by omega) (by omega)
      have HO := hide hown
      clear hown
      have hszr := hbel.size
      go_wp2_with fail
      go_region
      go_wp2_with (at_builtin; refine wpList_append_own _ rfl (.tmp 32) (.tmp 34) 40 rfl w.heap.size 59 i0 (.agg #[.int .i64 0, .int .i64 0, .int .i64 0]) 3 24 Tryz.underlying40 hi hz0 hz1 hz2 rfl (by decide) f k (ruleCells (rulesOf s 0 k)) rfl (World.ownsRow.alloc (World.ownsRow.drew (World.ownsRow.alloc HO.out (.cells #[.int .i64 p0, .int .i64 p1, .int .i64 p2] 59))) _) ⟨wr.heap.size + 1, 0, none⟩ 1 1 [.int .i64 p0, .int .i64 p1, .int .i64 p2] rfl rfl (cell_list3 (by simp)) (by intro u hu; simp at hu; rcases hu with rfl | rfl | rfl <;> rfl) (by unfold maxLen; omega) (by omega) (by simp; omega) ?_; intro v2 w2 hown2 hgrow2 _)
      have hbel2 : Below w.heap.size w w2 := (((hbel.alloc hszr _).drew).alloc (by show w.heap.size ≤ (wr.alloc _).heap.size; simp; omega) _).grown hgrow2 (by simp; omega) (fun k' h => (World.ownsRow.lt HO.out k' h).1)
      rw [← HST.out] at hown2
      clear hgrow2 x0 x1 x2
      go_roundw
      case rel => exact ⟨k + 1, _, hk1, by have := HA.out; go_num, rfl, hbel2, hown2⟩
      case measure => simp [intOf]; omega
    · have hke : k = s.size / 3 := by omega
      subst hke
      go_wp2
      go_ret
      exact ⟨_, rfl, hbel, hown⟩

end Go.Proofs.YtmccnmgaoppogaaGreat

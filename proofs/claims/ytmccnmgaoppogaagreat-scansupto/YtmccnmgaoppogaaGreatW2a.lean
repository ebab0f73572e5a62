/-
  The walks: is a rule, is an instruction right?
-/
import Derived.Test.YtmccnmgaoppogaaGreatW1
namespace Go.Proofs.YtmccnmgaoppogaaGreat
open Go.RowKit

set_option maxHeartbeats 1000000 in
theorem rightRule_any (r : Pure.Rule) (m : Nat) (w : World) (_hm1 : 1 ≤ m) (_hm : m ≤ 4) :
    Calls Tryz.prog 67 #[.agg #[.int .i64 r.emit, .int .i64 r.act, .int .i64 r.mode], .int .i64 m] w (RetB (Pure.RuleOK m r) w) := by
  obtain ⟨emit, act, mode⟩ := r
  have fin : ∀ emit act mode : Int, Below w.heap.size w (w.alloc (.cells #[.int .i64 emit, .int .i64 act, .int .i64 mode] 59)) := fun _ _ _ => (Below.refl _ _).alloc (Nat.le_refl _) _
  go_enter Tryz.func67, Tryz.ntmps67
  go_wp2
  all_goals go_ret
  all_goals refine retB ?_ (fin _ _ _)
  all_goals unfold Pure.RuleOK
  all_goals simp only [beq_iff_eq, Bool.or_eq_true, Bool.false_eq_true, false_iff, true_iff] at *
  all_goals first | omega | skip
  go_ways

end Go.Proofs.YtmccnmgaoppogaaGreat

/-
  The walks: is a rule, is an instruction right?
-/
import Derived.Test.YtmccnmgaoppogaaGreatW1
namespace Go.Proofs.YtmccnmgaoppogaaGreat
open Go.RowKit

set_option maxHeartbeats 2000000 in
theorem insRight_any (x : Pure.Ins) (k n : Nat) (w : World) (_hk : k ≤ 16) (_hn : n ≤ 50000) :
    Calls Tryz.prog 135 #[.agg #[.int .i64 x.op, .int .i64 x.a, .int .i64 x.b, .int .i64 x.to], .int .i64 k, .int .i64 n] w (RetB (Pure.InsOK k n x) w) := by
  obtain ⟨op, a, b, to⟩ := x
  have fin : ∀ op a b to : Int, Below w.heap.size w (w.alloc (.cells #[.int .i64 op, .int .i64 a, .int .i64 b, .int .i64 to] 61)) := fun _ _ _ _ => (Below.refl _ _).alloc (Nat.le_refl _) _
  go_enter Tryz.func135, Tryz.ntmps135
  go_wp2
  all_goals go_ret
  all_goals refine retB ?_ (fin _ _ _ _)
  all_goals unfold Pure.InsOK
  all_goals simp only [beq_iff_eq, ne_eq, beq_eq_false_iff_ne, decide_eq_true_eq, Bool.false_eq_true, false_iff] at *
  all_goals first | omega | skip
  go_ways

end Go.Proofs.YtmccnmgaoppogaaGreat

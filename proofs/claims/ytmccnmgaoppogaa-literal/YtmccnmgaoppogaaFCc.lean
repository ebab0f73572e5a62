/-
  The walks: Check. (weir)
-/
import Derived.Test.YtmccnmgaoppogaaFC
namespace Go.Proofs.Ytmccnmgaoppogaa
open Go.RowKit

set_option maxRecDepth 100000 in
set_option maxHeartbeats 4000000 in
/-- Check answers so -/
theorem check_any (s : ByteArray) (w : World) : Calls Try.prog 42 #[.string s] w (fun e w' => ∃ en no, e = .returned (.tuple #[.int .i64 en, .int .i64 no]) ∧ Below w.heap.size w w' ∧ Pure.PCheck s en no) := by
  go_enter Try.func42, Try.ntmps42
  go_wp2_with fail
  refine (read_anyR s w).mono ?_
  rintro e w1 ⟨a, b, c, fv, en, no, rfl, hb, hp, hn, hy⟩
  have PC := hide hp
  have one : ∃ x a1 n1 c1 a2 n2 c2, a = .int .i64 x ∧ b = .slice a1 n1 c1 ∧ c = .slice a2 n2 c2 := by
    by_cases e : en = 0
    · obtain ⟨all, al, nl, cl, ap, np, cp, _, _, _, _, rfl, rfl, rfl, _⟩ := hy e
      exact ⟨_, _, _, _, _, _, _, rfl, rfl, rfl⟩
    · obtain ⟨h1, _⟩ := hn e
      cases h1
      exact ⟨_, _, _, _, _, _, _, rfl, rfl, rfl⟩
  obtain ⟨x, a1, n1, c1, a2, n2, c2, rfl, rfl, rfl⟩ := one
  have hb2 := hide (hb.alloc hb.size (.cells #[.int .i64 x, .slice a1 n1 c1, .slice a2 n2 c2] 119))
  clear hb hp hn hy
  go_wp2
  go_ret2
  exact ⟨_, _, rfl, hb2.out, PC.out⟩

end Go.Proofs.Ytmccnmgaoppogaa

/-
  The walks: small functions.
-/
import Derived.Test.YtmccnmgaoppogaaRows
import Derived.Test.YtmccnmgaoppogaaPure2
import Derived.WalkKit
import Derived.WalkSpells
import Derived.WalkLawsBesides
namespace Go.Proofs.Ytmccnmgaoppogaa
open Go.RowKit

def insV (x : Pure.Ins) : Value := .agg #[.int .i64 x.op, .int .i64 x.a, .int .i64 x.b, .int .i64 x.to]
def ruleV (x : Pure.Rule) : Value := .agg #[.int .i64 x.emit, .int .i64 x.act, .int .i64 x.mode]

theorem ret_bool {a b : Bool} (h : a = b) : Ending.returned (.bool a) = .returned (.bool b) := by rw [h]
theorem ret_int {k : IntKind} {a b : Int} (h : a = b) : Ending.returned (.int k a) = .returned (.int k b) := by rw [h]

set_option maxHeartbeats 400000 in
theorem below_any (a b : Int) (w : World) :
    Calls Try.prog 113 #[.int .i64 a, .int .i64 b] w fun e w' => e = .returned (.bool (Pure.bel a b)) ∧ w = w' := by
  by_cases h1 : 0 ≤ a
  · by_cases h2 : a < b
    · go_enter Try.func113, Try.ntmps113
      go_wp2
      go_ret
      exact ⟨ret_bool (Pure.bel_true ⟨h1, h2⟩).symm, rfl⟩
    · have hd : decide (a < b) = false := by simpa using h2
      go_enter Try.func113, Try.ntmps113
      go_wp2
      go_ret
      exact ⟨ret_bool (Pure.bel_false (by omega)).symm, rfl⟩
  · have hd : decide (0 ≤ a) = false := by simpa using h1
    go_enter Try.func113, Try.ntmps113
    go_wp2
    go_ret
    exact ⟨ret_bool (Pure.bel_false (by omega)).symm, rfl⟩

set_option maxHeartbeats 400000 in
theorem followers_any (x : Pure.Ins) (i : Int) (w : World) (hi : 0 ≤ i) (hi2 : i ≤ 50000) :
    Calls Try.prog 118 #[.agg #[.int .i64 x.op, .int .i64 x.a, .int .i64 x.b, .int .i64 x.to], .int .i64 i] w fun e w' =>
      e = .returned (.agg #[.int .i64 (Pure.fa x i), .int .i64 (Pure.fb x)]) ∧ Below w.heap.size w w' := by
  obtain ⟨op, a, b, to⟩ := x
  have fin : ∀ op x y : Int, Below w.heap.size w ((w.alloc (.cells #[.int .i64 op, .int .i64 a, .int .i64 b, .int .i64 to] 103)).alloc (.cells #[.int .i64 x, .int .i64 y] 212)) :=
    fun op x y => ((Below.refl _ _).alloc (Nat.le_refl _) _).alloc (by simp) _
  by_cases h1 : op = 1
  · have ea : Pure.fa ⟨op, a, b, to⟩ i = i + 1 := by simp [Pure.fa, h1]
    have eb : Pure.fb ⟨op, a, b, to⟩ = -1 := by simp [Pure.fb, h1]
    rw [ea, eb]; clear ea eb
    go_enter Try.func118, Try.ntmps118
    go_wp2
    exact bodyPost_ret (v := .agg #[.int .i64 (i + 1), .int .i64 (-1)]) (by simp [results, Try.results118, go_sem]) rfl ⟨rfl, fin _ _ _⟩
  by_cases h3 : op = 3
  · have ea : Pure.fa ⟨op, a, b, to⟩ i = i + 1 := by simp [Pure.fa, h3]
    have eb : Pure.fb ⟨op, a, b, to⟩ = to := by simp [Pure.fb, h3]
    rw [ea, eb]; clear ea eb
    go_enter Try.func118, Try.ntmps118
    go_wp2
    exact bodyPost_ret (v := .agg #[.int .i64 (i + 1), .int .i64 to]) (by simp [results, Try.results118, go_sem]) rfl ⟨rfl, fin _ _ _⟩
  by_cases h4 : op = 4
  · have ea : Pure.fa ⟨op, a, b, to⟩ i = -1 := by simp [Pure.fa, h4]
    have eb : Pure.fb ⟨op, a, b, to⟩ = to := by simp [Pure.fb, h4]
    rw [ea, eb]; clear ea eb
    go_enter Try.func118, Try.ntmps118
    go_wp2
    exact bodyPost_ret (v := .agg #[.int .i64 (-1), .int .i64 to]) (by simp [results, Try.results118, go_sem]) rfl ⟨rfl, fin _ _ _⟩
  · have ea : Pure.fa ⟨op, a, b, to⟩ i = -1 := by simp [Pure.fa, h1, h3]
    have eb : Pure.fb ⟨op, a, b, to⟩ = -1 := by simp [Pure.fb, h3, h4]
    rw [ea, eb]; clear ea eb
    go_enter Try.func118, Try.ntmps118
    go_wp2
    exact bodyPost_ret (v := .agg #[.int .i64 (-1), .int .i64 (-1)]) (by simp [results, Try.results118, go_sem]) rfl ⟨rfl, fin _ _ _⟩


/-- what a call that answers a bool leaves: the bool tells P; nothing old has turned -/
def RetB (P : Prop) (w : World) (e : Ending) (w' : World) : Prop := ∃ b, e = .returned (.bool b) ∧ (b = true ↔ P) ∧ Below w.heap.size w w'
theorem retB {P : Prop} {w w' : World} {b : Bool} (h : b = true ↔ P) (hb : Below w.heap.size w w') : RetB P w (.returned (.bool b)) w' := ⟨b, rfl, h, hb⟩

set_option maxHeartbeats 1000000 in
theorem ruleRight_any (r : Pure.Rule) (m : Nat) (w : World) (hm1 : 1 ≤ m) (hm : m ≤ 4) :
    Calls Try.prog 114 #[.agg #[.int .i64 r.emit, .int .i64 r.act, .int .i64 r.mode], .int .i64 m] w (RetB (Pure.RuleOK m r) w) := by
  obtain ⟨emit, act, mode⟩ := r
  have fin : ∀ emit act mode : Int, Below w.heap.size w (w.alloc (.cells #[.int .i64 emit, .int .i64 act, .int .i64 mode] 66)) := fun _ _ _ => (Below.refl _ _).alloc (Nat.le_refl _) _
  go_enter Try.func114, Try.ntmps114
  go_wp2
  all_goals go_ret
  all_goals refine retB ?_ (fin _ _ _)
  all_goals unfold Pure.RuleOK
  all_goals simp only [beq_iff_eq, bne_iff_ne, ne_eq, bne_eq_false_iff_eq, beq_eq_false_iff_ne, decide_eq_true_eq, Bool.false_eq_true, false_iff] at *
  all_goals first | omega | skip
  go_ways

end Go.Proofs.Ytmccnmgaoppogaa

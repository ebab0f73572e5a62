/-
  Rows of a call's own that are written over, instruction by instruction.
-/
import Derived.Test.YtmccnmgaoppogaaB3
import Derived.Test.YtmccnmgaoppogaaW12
namespace Go.Proofs.Ytmccnmgaoppogaa
open Go.RowKit

theorem pick_at (c : Int) (n : Nat) (w : World) (hc : Rng c) (hn : 0 < n) (hn2 : n ≤ 1000000) :
    Calls Try.prog 50 #[.int .i64 c, .int .i64 n] w fun e w' => e = .returned (.int .i64 (Pure.pk c n)) ∧ w' = w := pick_nat c n w hc hn hn2

/-- the operations that the raw ones speak of -/
def opsOf (r : List Pure.Ins) (k : Nat) : List Pure.Ins := (List.range k).map (fun j => ⟨1 + Pure.pk (Pure.cg r j).op 5, 0, 0, 0⟩)
theorem opsOf_len (r : List Pure.Ins) (k : Nat) : (opsOf r k).length = k := by simp [opsOf]
theorem ops_step (r : List Pure.Ins) (k : Nat) : insCells (opsOf r (k + 1)) = insCells (opsOf r k) ++ [.int .i64 (1 + Pure.pk (Pure.cg r k).op 5), .int .i64 0, .int .i64 0, .int .i64 0] := by
  unfold opsOf insCells
  rw [List.range_succ, List.map_append, List.flatMap_append]
  simp
theorem ops_last (r : List Pure.Ins) (k : Nat) : insCells (opsOf r k ++ [⟨5, 0, 0, 0⟩]) = insCells (opsOf r k) ++ [.int .i64 5, .int .i64 0, .int .i64 0, .int .i64 0] := by
  simp [insCells]

theorem ops_made (m : Nat) (r : List Pure.Ins) (k : Nat) (hk : k ≤ 49999) : Pure.Made m (opsOf r k ++ [⟨5, 0, 0, 0⟩]) 0 := by
  have hl : (opsOf r k ++ [(⟨5, 0, 0, 0⟩ : Pure.Ins)]).length = k + 1 := by simp [opsOf_len]
  have hg : Pure.cg (opsOf r k ++ [⟨5, 0, 0, 0⟩]) k = ⟨5, 0, 0, 0⟩ := by
    unfold Pure.cg
    rw [List.getD_eq_getElem?_getD, List.getElem?_append_right (by rw [opsOf_len]; omega), opsOf_len]
    simp
  refine ⟨by omega, by omega, by omega, by rw [hl]; exact hg, fun j hj => by omega, fun j _ hj => ?_⟩
  rw [hl] at hj
  by_cases e : j = k
  · subst e; rw [hg]; simp
  · have : Pure.cg (opsOf r k ++ [⟨5, 0, 0, 0⟩]) j = ⟨1 + Pure.pk (Pure.cg r j).op 5, 0, 0, 0⟩ := by
      unfold Pure.cg
      rw [List.getD_eq_getElem?_getD, List.getElem?_append_left (by rw [opsOf_len]; omega)]
      have hjk : j < k := by omega
      simp [opsOf, hjk, Pure.cg]
    rw [this]
    have := Pure.pk_bd (Pure.cg r j).op (n := 5) (by omega)
    exact ⟨⟨by show 1 ≤ 1 + _; omega, by show 1 + _ ≤ 5; omega⟩, rfl, rfl, rfl⟩

end Go.Proofs.Ytmccnmgaoppogaa

/-
  From data to memory: strings that came in, and how many bytes they have.
-/
import Derived.Test.YtmccnmgaoppogaaQA
import Derived.Test.YtmccnmgaoppogaaB11
import Derived.JoinedCond
namespace Go.Proofs.Ytmccnmgaoppogaa
open Go.ChangeShapes Go.WideShapes Go.ChangeAt Go.RowKit Go.Deep Go.Joins

theorem bulk_append {H : Type} (l r : List (DataW H)) : Rows.uptoBulkAll (l ++ r) = Rows.uptoBulkAll l + Rows.uptoBulkAll r := by
  induction l with
  | nil => simp [Rows.uptoBulkAll]
  | cons x l ih => simp only [List.cons_append, Rows.uptoBulkAll, ih]; omega
theorem bulk_part {H : Type} {d : DataW H} {l : List (DataW H)} (h : d ∈ l) : Rows.uptoBulk d ≤ Rows.uptoBulkAll l := by
  induction l with
  | nil => cases h
  | cons x r ih =>
    simp only [Rows.uptoBulkAll]
    cases List.mem_cons.1 h with
    | inl e => subst e; omega
    | inr e => have := ih e; omega
theorem bulk_small {H : Type} {l : List (DataW H)} (hk : Rows.uptoSmall H l = true) : Rows.uptoBulkAll l ≤ 1048576 := of_decide_eq_true hk

theorem Try.cells9 : Try.prog.cellsOf 9 = 1 := by kernel_rfl

section
variable {H : Type} {enc : TypeId × Value → H} {W : World} {spare : Nat → Bool} {held : Bool}

theorem strs_in {fuel : Nat} {v : Value} {x : DataW H × List MemPlace} (h : DataW.trod enc Try.prog W 0 spare held fuel 57 [v] = some x) :
    ∃ l, Strs W v l ∧ sumN l l.length ≤ Rows.uptoBulk x.1 := by
  rcases open_strs Try.underlying57 Try.underlying9 Try.cells9 h with ⟨hcs, hx⟩ | ⟨a, len, cap, m, Sx, hcs, _, hl, hm, hmm, hx, hcell⟩
  · simp only [List.cons.injEq, and_true] at hcs
    subst hcs
    exact ⟨[], ⟨none, 0, rfl, Nat.le_refl _, by omega, fun i hi => by simp at hi⟩, by simp [sumN]⟩
  · simp only [List.cons.injEq, and_true] at hcs
    subst hcs
    have hlm : len ≤ m := by rw [hmm]; split <;> omega
    unfold maxLen at hm
    have hg : ∀ i, i < len → sg ((List.range len).map Sx) i = Sx i := fun i hi => by simp [sg, List.getD_eq_getElem?_getD, hi]
    refine ⟨(List.range len).map Sx, ⟨some a, cap, by simp, by simpa using hl, hm, fun i hi => ?_⟩, ?_⟩
    · rw [List.length_map, List.length_range] at hi
      rw [hg i hi]
      obtain ⟨b, off, spot⟩ := a
      have c0 := (hcell i (by omega)).1
      have hspot : spot = none := by
        have := World.cell?_spot (hcell 0 (by omega)).1
        simpa [Addr.add] using this
      subst hspot
      rw [add_eq] at c0
      exact ⟨b, off, rfl, World.block_lt_of_cell? W _ c0, c0⟩
    · rw [List.length_map, List.length_range, hx]
      have key : ∀ k, k ≤ len → sumN ((List.range len).map Sx) k ≤ Rows.uptoBulkAll ((List.range k).map fun i => (DataW.lit (.string (Sx i).data.toList) : DataW H)) := by
        intro k
        induction k with
        | zero => intro _; simp [sumN]
        | succ k ih =>
          intro hk
          have ih' := ih (by omega)
          rw [List.range_succ, List.map_append, bulk_append, sumN, hg k (by omega)]
          have e1 : Rows.uptoBulkAll ([k].map fun i => (DataW.lit (.string (Sx i).data.toList) : DataW H)) = (Sx k).size + 1 := by
            simp [Rows.uptoBulkAll, Rows.uptoBulk]
          rw [e1]
          omega
      have := key len (Nat.le_refl _)
      simp only [Rows.uptoBulk]
      omega
end

end Go.Proofs.Ytmccnmgaoppogaa

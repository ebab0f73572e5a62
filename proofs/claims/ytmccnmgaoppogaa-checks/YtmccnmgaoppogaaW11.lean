/-
  Copying rows of whatever width.
-/
import Derived.Test.YtmccnmgaoppogaaMem
import Derived.Laws.CopyOwn
namespace Go.Proofs.Ytmccnmgaoppogaa
open Go.RowKit

theorem Try.info66 : (Try.prog.info? 66).map (fun i => (i.zero, i.size, i.bytes)) = some (some (.agg #[.int .i64 0, .int .i64 0, .int .i64 0]), 3, 24) := by kernel_rfl
theorem Try.info103 : (Try.prog.info? 103).map (fun i => (i.zero, i.size, i.bytes)) = some (some (.agg #[.int .i64 0, .int .i64 0, .int .i64 0, .int .i64 0]), 4, 32) := by kernel_rfl

/-- a block is this row -/
def Blk (w : World) (g : Nat) (t : TypeId) (xs : List Value) : Prop := w.heap[g]? = some (.cells xs.toArray t (0, 0))

theorem blk_of_own {w : World} {B e size g n : Nat} {xs : List Value} (h : w.ownsRow B e size (.slice (some ⟨g, 0, none⟩) n n) n xs) : Blk w g e xs := by
  rcases h.2 with ⟨h', _⟩ | ⟨g', cap, cur, h', _, hg, _, _, hcs, htake⟩
  · simp at h'
  · simp only [Value.slice.injEq, Option.some.injEq, Addr.mk.injEq, and_true, true_and] at h'
    obtain ⟨rfl, rfl⟩ := h'
    have : cur.toList = xs := by rw [← htake, List.take_of_length_le (by simp [hcs])]
    unfold Blk
    rw [← this]
    simpa using hg

theorem copy_row (w : World) (t e size g m c : Nat) (ao : Option Addr) (xs cs : List Value) (ht : Try.prog.underlying t = some (.slice e)) (hs : (Try.prog.info? e).map (·.size) = some size)
    (hg : Blk w g e xs) (hcs : cs.length = m * size) (hfit : cs.length ≤ xs.length) (hsrc : 0 < m → ∃ ad, ao = some ad ∧ ∀ j v, cs[j]? = some v → w.cell? (ad.add j) = some v) (h1 : ∀ v ∈ cs, v.oneCell' = true) :
    ∃ w', (∀ ty, (Builtin.copy_ #[t, t] ty #[.slice (some ⟨g, 0, none⟩) (m + 1) (m + 1), .slice ao m c]).run Try.prog w = .ok (goInt m) w') ∧ Blk w' g e (cs ++ xs.drop cs.length) ∧ w.grownBy w' (some g) := by
  cases hq : Try.prog.info? e with
  | none => simp [hq] at hs
  | some i =>
    have hi : i.size = size := by simpa [hq] using hs
    have hst := run_storeCells_at Try.prog g 0 e cs 0 xs.toArray w hg (by simpa using hfit) h1
    have hblk : Blk (w.setRow g (cs ++ xs.drop cs.length).toArray) g e (cs ++ xs.drop cs.length) := setRow_heap w g xs.toArray _ e _ hg
    have hgr : w.grownBy (w.setRow g (cs ++ xs.drop cs.length).toArray) (some g) := by
      refine ⟨rfl, rfl, rfl, by simp, fun k hk hne => ?_⟩
      simp only [World.setRow, Array.getElem?_modify]
      rw [if_neg (fun h => hne (by rw [h]))]
    refine ⟨w.setRow g (cs ++ xs.drop cs.length).toArray, fun ty => ?_, hblk, hgr⟩
    by_cases hm : 0 < m
    · obtain ⟨ad, rfl, hsrc'⟩ := hsrc hm
      have hl := run_loadCells_list (P := Try.prog) w ad cs hsrc'
      simp [Builtin.copy_, run_underlying ht, Builtin.lenOf, Builtin.firstCells, sizeOf, typeInfo, hq, hi, ← hcs, hl, hst]
    · have hm0 : m = 0 := by omega
      subst hm0
      have hc0 : cs = [] := List.eq_nil_of_length_eq_zero (by omega)
      subst hc0
      have hself := setRow_self w g xs.toArray e _ hg
      cases ao with
      | none => simp [Builtin.copy_, run_underlying ht, Builtin.lenOf, Builtin.firstCells, sizeOf, typeInfo, hq, storeCells, hself]
      | some ad =>
        have hl := run_loadCells_list (P := Try.prog) w ad [] (fun j v h => by simp at h)
        simp only [List.length_nil] at hl
        simp [Builtin.copy_, run_underlying ht, Builtin.lenOf, Builtin.firstCells, sizeOf, typeInfo, hq, storeCells, hl, hself]

theorem made1 (n : Nat) : (madeCells (Value.int .i64 0).cells (n * 1)).toList = List.replicate (n * 1) (.int .i64 0) := by
  simp only [madeCells, Value.cells]
  rw [List.eq_replicate_iff]
  simp [Nat.mod_one]
theorem made3 (n : Nat) : (madeCells (Value.agg #[.int .i64 0, .int .i64 0, .int .i64 0]).cells (n * 3)).toList = List.replicate (n * 3) (.int .i64 0) := by
  simp only [madeCells, Value.cells]
  rw [List.eq_replicate_iff]
  refine ⟨by simp, fun b hb => ?_⟩
  simp only [Array.toList_map, Array.toList_range, List.mem_map] at hb
  obtain ⟨i, _, rfl⟩ := hb
  have : i % 3 = 0 ∨ i % 3 = 1 ∨ i % 3 = 2 := by omega
  rcases this with h | h | h <;> simp [h]
theorem made4 (n : Nat) : (madeCells (Value.agg #[.int .i64 0, .int .i64 0, .int .i64 0, .int .i64 0]).cells (n * 4)).toList = List.replicate (n * 4) (.int .i64 0) := by
  simp only [madeCells, Value.cells]
  rw [List.eq_replicate_iff]
  refine ⟨by simp, fun b hb => ?_⟩
  simp only [Array.toList_map, Array.toList_range, List.mem_map] at hb
  obtain ⟨i, _, rfl⟩ := hb
  have : i % 4 = 0 ∨ i % 4 = 1 ∨ i % 4 = 2 ∨ i % 4 = 3 := by omega
  rcases this with h | h | h | h <;> simp [h]

theorem blk_cell {w : World} {g : Nat} {t : TypeId} {xs : List Value} (h : Blk w g t xs) {j : Nat} {u : Value} (hj : xs[j]? = some u) : w.cell? ⟨g, j, none⟩ = some u := by
  unfold Blk at h
  simp [World.cell?, h, hj]
theorem blk_frozen {w : World} {g : Nat} {t : TypeId} {xs : List Value} (h : Blk w g t xs) (j : Nat) : w.frozen? ⟨g, j, none⟩ = false := by
  unfold Blk at h
  simp [World.frozen?, h]
theorem blk_lt {w : World} {g : Nat} {t : TypeId} {xs : List Value} (h : Blk w g t xs) : g < w.heap.size := (Array.getElem?_eq_some_iff.1 h).1
theorem blk_set {w : World} {g : Nat} {t : TypeId} {xs : List Value} (h : Blk w g t xs) (j : Nat) (u : Value) : Blk (w.setCell ⟨g, j, none⟩ u) g t (xs.set j u) := by
  have := heap_setCell_same w g j xs.toArray t u h
  unfold Blk
  rw [this]
  simp
theorem blk_other {w : World} {g g' : Nat} {t : TypeId} {xs : List Value} (h : Blk w g t xs) (hne : g ≠ g') (j : Nat) (u : Value) : Blk (w.setCell ⟨g', j, none⟩ u) g t xs := by
  unfold Blk at h ⊢
  rw [Below.heap_setCell _ _ _ _ hne]
  exact h
theorem blk_alloc {w : World} {g : Nat} {t : TypeId} {xs : List Value} (h : Blk w g t xs) (o : Obj) : Blk (w.alloc o) g t xs := by
  unfold Blk
  rw [heap_alloc_old w o (blk_lt h)]
  exact h
theorem blk_grown {w w' : World} {g : Nat} {row : Option Nat} {t : TypeId} {xs : List Value} (h : Blk w g t xs) (hg : w.grownBy w' row) (hne : some g ≠ row) : Blk w' g t xs := by
  unfold Blk
  rw [hg.block g (blk_lt h) hne]
  exact h
theorem blk_below {B : Nat} {w w' : World} {g : Nat} {t : TypeId} {xs : List Value} (h : Blk w g t xs) (hb : Below B w w') (hg : g < B) : Blk w' g t xs := by
  unfold Blk
  rw [hb.block g hg]
  exact h

end Go.Proofs.Ytmccnmgaoppogaa

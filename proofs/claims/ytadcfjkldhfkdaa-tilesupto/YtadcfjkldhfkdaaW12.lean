/-
  A program that came in, copied into rows of the call's own.
-/
import Derived.Test.YtadcfjkldhfkdaaW11
namespace Go.Proofs.Ytadcfjkldhfkdaa
open Go.RowKit

theorem add_eq (b off j : Nat) : (⟨b, off, none⟩ : Addr).add j = ⟨b, off + j, none⟩ := by
  unfold Addr.add; split <;> simp_all

theorem Ints.src {W : World} {v : Value} {l : List Int} {ao : Option Addr} {n c : Nat} (h : Ints W v l) (hv : v = .slice ao n c) : 0 < l.length → ∃ ad, ao = some ad ∧ ∀ j u, (intCells l)[j]? = some u → W.cell? (ad.add j) = some u := by
  intro hl
  obtain ⟨ao', cap, h1, _, _, h4⟩ := h
  rw [hv] at h1
  simp only [Value.slice.injEq] at h1
  obtain ⟨rfl, _, _⟩ := h1
  obtain ⟨b, off, rfl, _, _⟩ := h4 0 hl
  refine ⟨_, rfl, fun j u hu => ?_⟩
  have hj : j < l.length := by
    have := (List.getElem?_eq_some_iff.1 hu).1; rw [intCells_length] at this; exact this
  obtain ⟨b', off', e, _, hc⟩ := h4 j hj
  simp only [Option.some.injEq, Addr.mk.injEq, and_true] at e
  obtain ⟨rfl, rfl⟩ := e
  rw [intCells_get l j hj] at hu
  rw [add_eq, hc]
  exact hu

theorem Rules.src {W : World} {v : Value} {l : List Pure.Rule} {ao : Option Addr} {n c : Nat} (h : Rules W v l) (hv : v = .slice ao n c) : 0 < l.length → ∃ ad, ao = some ad ∧ ∀ j u, (ruleCells l)[j]? = some u → W.cell? (ad.add j) = some u := by
  intro hl
  obtain ⟨ao', cap, h1, _, _, h4⟩ := h
  rw [hv] at h1
  simp only [Value.slice.injEq] at h1
  obtain ⟨rfl, _, _⟩ := h1
  obtain ⟨b, off, rfl, _, _⟩ := h4 0 hl
  refine ⟨_, rfl, fun j u hu => ?_⟩
  have hj : j / 3 < l.length := by
    have := (List.getElem?_eq_some_iff.1 hu).1; rw [ruleCells_length] at this; omega
  obtain ⟨b', off', e, _, hc0, hc1, hc2⟩ := h4 (j / 3) hj
  simp only [Option.some.injEq, Addr.mk.injEq, and_true] at e
  obtain ⟨rfl, rfl⟩ := e
  have g := ruleCells_get l (j / 3) hj
  rw [add_eq]
  have hm : j % 3 = 0 ∨ j % 3 = 1 ∨ j % 3 = 2 := by omega
  rcases hm with hm | hm | hm
  · have e : j = 3 * (j / 3) := by omega
    rw [e, g.1] at hu
    rw [show off + j = off + j / 3 * 3 from by omega, hc0]; exact hu
  · have e : j = 3 * (j / 3) + 1 := by omega
    rw [e, g.2.1] at hu
    rw [show off + j = off + j / 3 * 3 + 1 from by omega, hc1]; exact hu
  · have e : j = 3 * (j / 3) + 2 := by omega
    rw [e, g.2.2] at hu
    rw [show off + j = off + j / 3 * 3 + 2 from by omega, hc2]; exact hu

theorem Code.src {W : World} {v : Value} {l : List Pure.Ins} {ao : Option Addr} {n c : Nat} (h : Code W v l) (hv : v = .slice ao n c) : 0 < l.length → ∃ ad, ao = some ad ∧ ∀ j u, (insCells l)[j]? = some u → W.cell? (ad.add j) = some u := by
  intro hl
  obtain ⟨ao', cap, h1, _, _, h4⟩ := h
  rw [hv] at h1
  simp only [Value.slice.injEq] at h1
  obtain ⟨rfl, _, _⟩ := h1
  obtain ⟨b, off, rfl, _, _⟩ := h4 0 hl
  refine ⟨_, rfl, fun j u hu => ?_⟩
  have hj : j / 4 < l.length := by
    have := (List.getElem?_eq_some_iff.1 hu).1; rw [insCells_length] at this; omega
  obtain ⟨b', off', e, _, hc0, hc1, hc2, hc3⟩ := h4 (j / 4) hj
  simp only [Option.some.injEq, Addr.mk.injEq, and_true] at e
  obtain ⟨rfl, rfl⟩ := e
  have g := insCells_get l (j / 4) hj
  rw [add_eq]
  have hm : j % 4 = 0 ∨ j % 4 = 1 ∨ j % 4 = 2 ∨ j % 4 = 3 := by omega
  rcases hm with hm | hm | hm | hm
  · have e : j = 4 * (j / 4) := by omega
    rw [e, g.1] at hu
    rw [show off + j = off + j / 4 * 4 from by omega, hc0]; exact hu
  · have e : j = 4 * (j / 4) + 1 := by omega
    rw [e, g.2.1] at hu
    rw [show off + j = off + j / 4 * 4 + 1 from by omega, hc1]; exact hu
  · have e : j = 4 * (j / 4) + 2 := by omega
    rw [e, g.2.2.1] at hu
    rw [show off + j = off + j / 4 * 4 + 2 from by omega, hc2]; exact hu
  · have e : j = 4 * (j / 4) + 3 := by omega
    rw [e, g.2.2.2] at hu
    rw [show off + j = off + j / 4 * 4 + 3 from by omega, hc3]; exact hu

theorem one_ints (l : List Int) : ∀ v ∈ intCells l, v.oneCell' = true := by
  intro v hv; simp only [intCells, List.mem_map] at hv; obtain ⟨_, _, rfl⟩ := hv; rfl
theorem one_rules (l : List Pure.Rule) : ∀ v ∈ ruleCells l, v.oneCell' = true := by
  intro v hv; simp only [ruleCells, List.mem_flatMap, List.mem_cons, List.not_mem_nil, or_false] at hv; obtain ⟨_, _, rfl | rfl | rfl⟩ := hv <;> rfl
theorem one_ins (l : List Pure.Ins) : ∀ v ∈ insCells l, v.oneCell' = true := by
  intro v hv; simp only [insCells, List.mem_flatMap, List.mem_cons, List.not_mem_nil, or_false] at hv; obtain ⟨_, _, rfl | rfl | rfl | rfl⟩ := hv <;> rfl

theorem mk_copy {W w1 : World} {B t e size g m c : Nat} {ao : Option Addr} {cs : List Value} {z : Value} (ht : Try.prog.underlying t = some (.slice e)) (hs : (Try.prog.info? e).map (·.size) = some size)
    (hown : w1.ownsRow B e size (.slice (some ⟨g, 0, none⟩) (m + 1) (m + 1)) (m + 1) (List.replicate ((m + 1) * size) z)) (hgrow : W.grownBy w1 none) (hg : g = W.heap.size)
    (hcs : cs.length = m * size) (h1 : ∀ v ∈ cs, v.oneCell' = true) (hsrc : 0 < m → ∃ ad, ao = some ad ∧ ∀ j v, cs[j]? = some v → W.cell? (ad.add j) = some v) :
    ∃ w', (∀ ty, (Builtin.copy_ #[t, t] ty #[.slice (some ⟨g, 0, none⟩) (m + 1) (m + 1), .slice ao m c]).run Try.prog w1 = .ok (goInt m) w') ∧ Blk w' g e (cs ++ List.replicate size z) ∧ W.grownBy w' none := by
  obtain ⟨w', h2, h3, h4⟩ := copy_row w1 t e size g m c ao _ cs ht hs (blk_of_own hown) hcs (by rw [hcs, List.length_replicate, Nat.succ_mul]; omega) (fun hm => by
    obtain ⟨ad, e1, e2⟩ := hsrc hm
    refine ⟨ad, e1, fun j v hv => ?_⟩
    exact hgrow.cell (e2 j v hv) (by simp)) h1
  refine ⟨w', h2, ?_, ?_⟩
  · rw [List.drop_replicate, hcs, Nat.succ_mul, Nat.add_sub_cancel_left] at h3
    exact h3
  · have hsz := hgrow.size
    have hsz' := h4.size
    refine ⟨h4.os.trans hgrow.os, h4.tape.trans hgrow.tape, h4.output.trans hgrow.output, by omega, fun k hk _ => ?_⟩
    rw [h4.block k (by omega) (by simp; omega), hgrow.block k hk (by simp)]

end Go.Proofs.Ytadcfjkldhfkdaa

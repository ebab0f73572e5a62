/-
  A program that came in, copied into rows of the call's own.
-/
import Derived.Test.YtmccnmgaoppogaaW11
namespace Go.Proofs.Ytmccnmgaoppogaa
open Go.RowKit

theorem add_eq (b off j : Nat) : (⟨b, off, none⟩ : Addr).add j = ⟨b, off + j, none⟩ := by
  unfold Addr.add; split <;> simp_all

theorem Ints.src {W : World} {v : Value} {l : List Int} {ao : Option Addr} {n c : Nat} (h : Ints W v l) (hv : v = .slice ao n c) : 0 < l.length → ∃ ad, ao = some ad ∧ ∀ j u, (intCells l)[j]? = some u → W.cell? (ad.add j) = some u := by
  intro hl
  obtain ⟨ao', cap, h1, _, _, h4⟩ := h
  rw [hv] at h1
  simp only [Value.slice.injEq] at h1
  obtain ⟨rfl, _, _⟩ := h1
  obtain ⟨b, off, rfl, _, _⟩ := h4 0 hl
  refine ⟨_, rfl, fun j u hu => ?_⟩
  have hj : j < l.length := by
    have := (List.getElem?_eq_some_iff.1 hu).1; rw [intCells_length] at this; exact this
  obtain ⟨b', off', e, _, hc⟩ := h4 j hj
  simp only [Option.some.injEq, Addr.mk.injEq, and_true] at e
  obtain ⟨rfl, rfl⟩ := e
  rw [intCells_get l j hj] at hu
  rw [add_eq, hc]
  exact hu

theorem Rules.src {W : World} {v : Value} {l : List Pure.Rule} {ao : Option Addr} {n c : Nat} (h : Rules W v l) (hv : v = .slice ao n c) : 0 < l.length → ∃ ad, ao = some ad ∧ ∀ j u, (ruleCells l)[j]? = some u → W.cell? (ad.add j) = some u := by
  intro hl
  obtain ⟨ao', cap, h1, _, _, h4⟩ := h
  rw [hv] at h1
  simp only [Value.slice.injEq] at h1
  obtain ⟨rfl, _, _⟩ := h1
  obtain ⟨b, off, rfl, _, _⟩ := h4 0 hl
  refine ⟨_, rfl, fun j u hu => ?_⟩
  have hj : j / 3 < l.length := by
    have := (List.getElem?_eq_some_iff.1 hu).1; rw [ruleCells_length] at this; omega
  obtain ⟨b', off', e, _, hc0, hc1, hc2⟩ := h4 (j / 3) hj
  simp only [Option.some.injEq, Addr.mk.injEq, and_true] at e
  obtain ⟨rfl, rfl⟩ := e
  have g := ruleCells_get l (j / 3) hj
  rw [add_eq]
  have hm : j % 3 = 0 ∨ j % 3 = 1 ∨ j % 3 = 2 := by omega
  rcases hm with hm | hm | hm
  · have e : j = 3 * (j / 3) := by omega
    rw [e, g.1] at hu
    rw [show off + j = off + j / 3 * 3 from by omega, hc0]; exact hu
  · have e : j = 3 * (j / 3) + 1 := by omega
    rw [e, g.2.1] at hu
    rw [show off + j = off + j / 3 * 3 + 1 from by omega, hc1]; exact hu
  · have e : j = 3 * (j / 3) + 2 := by omega
    rw [e, g.2.2] at hu
    rw [show off + j = off + j / 3 * 3 + 2 from by omega, hc2]; exact hu

theorem Code.src {W : World} {v : Value} {l : List Pure.Ins} {ao : Option Addr} {n c : Nat} (h : Code W v l) (hv : v = .slice ao n c) : 0 < l.length → ∃ ad, ao = some ad ∧ ∀ j u, (insCells l)[j]? = some u → W.cell? (ad.add j) = some u := by
  intro hl
  obtain ⟨ao', cap, h1, _, _, h4⟩ := h
  rw [hv] at h1
  simp only [Value.slice.injEq] at h1
  obtain ⟨rfl, _, _⟩ := h1
  obtain ⟨b, off, rfl, _, _⟩ := h4 0 hl
  refine ⟨_, rfl, fun j u hu => ?_⟩
  have hj : j / 4 < l.length := by
    have := (List.getElem?_eq_some_iff.1 hu).1; rw [insCells_length] at this; omega
  obtain ⟨b', off', e, _, hc0, hc1, hc2, hc3⟩ := h4 (j / 4) hj
  simp only [Option.some.injEq, Addr.mk.injEq, and_true] at e
  obtain ⟨rfl, rfl⟩ := e
  have g := insCells_get l (j / 4) hj
  rw [add_eq]
  have hm : j % 4 = 0 ∨ j % 4 = 1 ∨ j % 4 = 2 ∨ j % 4 = 3 := by omega
  rcases hm with hm | hm | hm | hm
  · have e : j = 4 * (j / 4) := by omega
    rw [e, g.1] at hu
    rw [show off + j = off + j / 4 * 4 from by omega, hc0]; exact hu
  · have e : j = 4 * (j / 4) + 1 := by omega
    rw [e, g.2.1] at hu
    rw [show off + j = off + j / 4 * 4 + 1 from by omega, hc1]; exact hu
  · have e : j = 4 * (j / 4) + 2 := by omega
    rw [e, g.2.2.1] at hu
    rw [show off + j = off + j / 4 * 4 + 2 from by omega, hc2]; exact hu
  · have e : j = 4 * (j / 4) + 3 := by omega
    rw [e, g.2.2.2] at hu
    rw [show off + j = off + j / 4 * 4 + 3 from by omega, hc3]; exact hu

theorem one_ints (l : List Int) : ∀ v ∈ intCells l, v.oneCell' = true := by
  intro v hv; simp only [intCells, List.mem_map] at hv; obtain ⟨_, _, rfl⟩ := hv; rfl
theorem one_rules (l : List Pure.Rule) : ∀ v ∈ ruleCells l, v.oneCell' = true := by
  intro v hv; simp only [ruleCells, List.mem_flatMap, List.mem_cons, List.not_mem_nil, or_false] at hv; obtain ⟨_, _, rfl | rfl | rfl⟩ := hv <;> rfl
theorem one_ins (l : List Pure.Ins) : ∀ v ∈ insCells l, v.oneCell' = true := by
  intro v hv; simp only [insCells, List.mem_flatMap, List.mem_cons, List.not_mem_nil, or_false] at hv; obtain ⟨_, _, rfl | rfl | rfl | rfl⟩ := hv <;> rfl

theorem mk_copy {W w1 : World} {B t e size g m c : Nat} {ao : Option Addr} {cs : List Value} {z : Value} (ht : Try.prog.underlying t = some (.slice e)) (hs : (Try.prog.info? e).map (·.size) = some size)
    (hown : w1.ownsRow B e size (.slice (some ⟨g, 0, none⟩) (m + 1) (m + 1)) (m + 1) (List.replicate ((m + 1) * size) z)) (hgrow : W.grownBy w1 none) (hg : g = W.heap.size)
    (hcs : cs.length = m * size) (h1 : ∀ v ∈ cs, v.oneCell' = true) (hsrc : 0 < m → ∃ ad, ao = some ad ∧ ∀ j v, cs[j]? = some v → W.cell? (ad.add j) = some v) :
    ∃ w', (∀ ty, (Builtin.copy_ #[t, t] ty #[.slice (some ⟨g, 0, none⟩) (m + 1) (m + 1), .slice ao m c]).run Try.prog w1 = .ok (goInt m) w') ∧ Blk w' g e (cs ++ List.replicate size z) ∧ W.grownBy w' none := by
  obtain ⟨w', h2, h3, h4⟩ := copy_row w1 t e size g m c ao _ cs ht hs (blk_of_own hown) hcs (by rw [hcs, List.length_replicate, Nat.succ_mul]; omega) (fun hm => by
    obtain ⟨ad, e1, e2⟩ := hsrc hm
    refine ⟨ad, e1, fun j v hv => ?_⟩
    exact hgrow.cell (e2 j v hv) (by simp)) h1
  refine ⟨w', h2, ?_, ?_⟩
  · rw [List.drop_replicate, hcs, Nat.succ_mul, Nat.add_sub_cancel_left] at h3
    exact h3
  · have hsz := hgrow.size
    have hsz' := h4.size
    refine ⟨h4.os.trans hgrow.os, h4.tape.trans hgrow.tape, h4.output.trans hgrow.output, by omega, fun k hk _ => ?_⟩
    rw [h4.block k (by omega) (by simp; omega), hgrow.block k hk (by simp)]

theorem own_set {w : World} {base e size n g cap j : Nat} {xs : List Value} {u : Value} (h : w.ownsRow base e size (.slice (some ⟨g, 0, none⟩) n cap) n xs) : (w.setCell ⟨g, j, none⟩ u).ownsRow base e size (.slice (some ⟨g, 0, none⟩) n cap) n (xs.set j u) := by
  refine ⟨by rw [List.length_set]; exact h.1, ?_⟩
  rcases h.2 with ⟨h', _⟩ | ⟨g', cap', cur, h', hb, hg, hn, hm, hcs, htake⟩
  · simp at h'
  · simp only [Value.slice.injEq, Option.some.injEq, Addr.mk.injEq, and_true, true_and] at h'
    obtain ⟨rfl, rfl⟩ := h'
    refine .inr ⟨g, cap, _, rfl, hb, heap_setCell_same w g j cur e u hg, hn, hm, by simpa using hcs, ?_⟩
    rw [← htake]
    simp [List.take_set]
theorem own_frozen {w : World} {base e size n g cap : Nat} {xs : List Value} (h : w.ownsRow base e size (.slice (some ⟨g, 0, none⟩) n cap) n xs) (j : Nat) : w.frozen? ⟨g, j, none⟩ = false := by
  rcases h.2 with ⟨h', _⟩ | ⟨g', cap', cur, h', hb, hg, hn, hm, hcs, htake⟩
  · simp at h'
  · simp only [Value.slice.injEq, Option.some.injEq, Addr.mk.injEq, and_true, true_and] at h'
    obtain ⟨rfl, rfl⟩ := h'
    simp [World.frozen?, hg]
theorem own_base {w : World} {base e size n g cap : Nat} {xs : List Value} (h : w.ownsRow base e size (.slice (some ⟨g, 0, none⟩) n cap) n xs) : base ≤ g ∧ g < w.heap.size := by
  rcases h.2 with ⟨h', _⟩ | ⟨g', cap', cur, h', hb, hg, hn, hm, hcs, htake⟩
  · simp at h'
  · simp only [Value.slice.injEq, Option.some.injEq, Addr.mk.injEq, and_true, true_and] at h'
    obtain ⟨rfl, rfl⟩ := h'
    exact ⟨hb, (Array.getElem?_eq_some_iff.1 hg).1⟩
theorem own_some {w : World} {base e size n : Nat} {v : Value} {xs : List Value} (h : w.ownsRow base e size v n xs) (hn : 0 < n) : ∃ g cap, v = .slice (some ⟨g, 0, none⟩) n cap ∧ n ≤ cap ∧ cap ≤ 9223372036854775807 := by
  rcases h.2 with ⟨h', h0⟩ | ⟨g', cap', cur, h', hb, hg, hn', hm, hcs, htake⟩
  · omega
  · unfold maxLen at hm
    exact ⟨g', cap', h', hn', hm⟩
theorem own_nil (w : World) (base e size : Nat) : w.ownsRow base e size (.slice none 0 0) 0 [] := ⟨by simp, .inl ⟨rfl, rfl⟩⟩

theorem insCells_set (l : List Pure.Ins) : ∀ (i : Nat), i < l.length → ∀ y : Pure.Ins,
    (y.op = (Pure.cg l i).op → y.b = (Pure.cg l i).b → y.to = (Pure.cg l i).to → (insCells l).set (i * 4 + 1) (.int .i64 y.a) = insCells (l.set i y)) ∧
    (y.op = (Pure.cg l i).op → y.a = (Pure.cg l i).a → y.to = (Pure.cg l i).to → (insCells l).set (i * 4 + 2) (.int .i64 y.b) = insCells (l.set i y)) ∧
    (y.op = (Pure.cg l i).op → y.a = (Pure.cg l i).a → y.b = (Pure.cg l i).b → (insCells l).set (i * 4 + 3) (.int .i64 y.to) = insCells (l.set i y)) ∧
    ((((insCells l).set (i * 4) (.int .i64 y.op)).set (i * 4 + 1) (.int .i64 y.a)).set (i * 4 + 2) (.int .i64 y.b)).set (i * 4 + 3) (.int .i64 y.to) = insCells (l.set i y) := by
  induction l with
  | nil => intro i hi; simp at hi
  | cons x r ih =>
    intro i hi y
    cases i with
    | zero =>
      simp only [insCells, List.flatMap_cons, Pure.cg, List.getD_cons_zero, List.set_cons_zero]
      refine ⟨fun h1 h2 h3 => ?_, fun h1 h2 h3 => ?_, fun h1 h2 h3 => ?_, ?_⟩
      · simp [h1, h2, h3]
      · simp [h1, h2, h3]
      · simp [h1, h2, h3]
      · simp
    | succ i =>
      have h := ih i (by simpa using hi) y
      have e : ∀ j, (i + 1) * 4 + j = (i * 4 + j) + 1 + 1 + 1 + 1 := fun j => by omega
      have e' : (i + 1) * 4 = (i * 4) + 1 + 1 + 1 + 1 := by omega
      have g : Pure.cg (x :: r) (i + 1) = Pure.cg r i := by simp [Pure.cg]
      have c : ∀ l' : List Pure.Ins, insCells (x :: l') = .int .i64 x.op :: .int .i64 x.a :: .int .i64 x.b :: .int .i64 x.to :: insCells l' := fun l' => by simp [insCells]
      rw [g, List.set_cons_succ, c, c, e, e, e, e']
      simp only [List.set_cons_succ]
      refine ⟨fun h1 h2 h3 => ?_, fun h1 h2 h3 => ?_, fun h1 h2 h3 => ?_, ?_⟩
      · rw [h.1 h1 h2 h3]
      · rw [h.2.1 h1 h2 h3]
      · rw [h.2.2.1 h1 h2 h3]
      · rw [h.2.2.2]

theorem own_ins {w : World} {base n g cap : Nat} {l : List Pure.Ins} (h : w.ownsRow base 103 4 (.slice (some ⟨g, 0, none⟩) n cap) n (insCells l)) {i : Nat} (hi : i < l.length) :
    w.cell? ⟨g, i * 4, none⟩ = some (.int .i64 (Pure.cg l i).op) ∧ w.cell? ⟨g, i * 4 + 1, none⟩ = some (.int .i64 (Pure.cg l i).a) ∧ w.cell? ⟨g, i * 4 + 2, none⟩ = some (.int .i64 (Pure.cg l i).b) ∧ w.cell? ⟨g, i * 4 + 3, none⟩ = some (.int .i64 (Pure.cg l i).to) := by
  have q := insCells_get l i hi
  rw [Nat.mul_comm] at q
  have c : ∀ j u, (insCells l)[j]? = some u → w.cell? ⟨g, j, none⟩ = some u := by
    intro j u hu
    have := h.cells (g := g) rfl j u hu
    rw [add_eq, Nat.zero_add] at this
    exact this
  exact ⟨c _ _ q.1, c _ _ q.2.1, c _ _ q.2.2.1, c _ _ q.2.2.2⟩

/-- raw numbers, in range -/
def Rng (x : Int) : Prop := -9223372036854775808 ≤ x ∧ x ≤ 9223372036854775807
def InsR (l : List Pure.Ins) : Prop := ∀ i, i < l.length → Rng (Pure.cg l i).op ∧ Rng (Pure.cg l i).a ∧ Rng (Pure.cg l i).b ∧ Rng (Pure.cg l i).to
def RulesR (l : List Pure.Rule) : Prop := ∀ i, i < l.length → Rng (Pure.rg l i).emit ∧ Rng (Pure.rg l i).act ∧ Rng (Pure.rg l i).mode
def IntsR (l : List Int) : Prop := ∀ i, i < l.length → Rng (Pure.ig l i)

theorem own_cell {w : World} {base e size n g cap : Nat} {xs : List Value} (h : w.ownsRow base e size (.slice (some ⟨g, 0, none⟩) n cap) n xs) {j : Nat} {u : Value} (hj : xs[j]? = some u) : w.cell? ⟨g, j, none⟩ = some u := by
  have := h.cells (g := g) rfl j u hj
  rw [add_eq, Nat.zero_add] at this
  exact this

theorem own_ne {w : World} {base e e' size size' n n' g g' cap cap' : Nat} {xs ys : List Value} (h : w.ownsRow base e size (.slice (some ⟨g, 0, none⟩) n cap) n xs) (h' : w.ownsRow base e' size' (.slice (some ⟨g', 0, none⟩) n' cap') n' ys) (he : e ≠ e') : g ≠ g' := by
  rcases h.2 with ⟨k, _⟩ | ⟨a, b, cur, k, _, hg, _⟩
  · simp at k
  rcases h'.2 with ⟨k', _⟩ | ⟨a', b', cur', k', _, hg', _⟩
  · simp at k'
  simp only [Value.slice.injEq, Option.some.injEq, Addr.mk.injEq, and_true, true_and] at k k'
  obtain ⟨rfl, rfl⟩ := k
  obtain ⟨rfl, rfl⟩ := k'
  intro e1
  subst e1
  rw [hg] at hg'
  simp at hg'
  exact he hg'.2

end Go.Proofs.Ytmccnmgaoppogaa

/-
  Rows of a call's own that are written over, instruction by instruction.
-/
import Derived.Test.YtadcfjkldhfkdaaB3
import Derived.Test.YtadcfjkldhfkdaaW12
namespace Go.Proofs.Ytadcfjkldhfkdaa
open Go.RowKit

theorem own_set {w : World} {base e size n g cap j : Nat} {xs : List Value} {u : Value} (h : w.ownsRow base e size (.slice (some ⟨g, 0, none⟩) n cap) n xs) : (w.setCell ⟨g, j, none⟩ u).ownsRow base e size (.slice (some ⟨g, 0, none⟩) n cap) n (xs.set j u) := by
  refine ⟨by rw [List.length_set]; exact h.1, ?_⟩
  rcases h.2 with ⟨h', _⟩ | ⟨g', cap', cur, h', hb, hg, hn, hm, hcs, htake⟩
  · simp at h'
  · simp only [Value.slice.injEq, Option.some.injEq, Addr.mk.injEq, and_true, true_and] at h'
    obtain ⟨rfl, rfl⟩ := h'
    refine .inr ⟨g, cap, _, rfl, hb, heap_setCell_same w g j cur e u hg, hn, hm, by simpa using hcs, ?_⟩
    rw [← htake]
    simp [List.take_set]
theorem own_frozen {w : World} {base e size n g cap : Nat} {xs : List Value} (h : w.ownsRow base e size (.slice (some ⟨g, 0, none⟩) n cap) n xs) (j : Nat) : w.frozen? ⟨g, j, none⟩ = false := by
  rcases h.2 with ⟨h', _⟩ | ⟨g', cap', cur, h', hb, hg, hn, hm, hcs, htake⟩
  · simp at h'
  · simp only [Value.slice.injEq, Option.some.injEq, Addr.mk.injEq, and_true, true_and] at h'
    obtain ⟨rfl, rfl⟩ := h'
    simp [World.frozen?, hg]
theorem own_base {w : World} {base e size n g cap : Nat} {xs : List Value} (h : w.ownsRow base e size (.slice (some ⟨g, 0, none⟩) n cap) n xs) : base ≤ g ∧ g < w.heap.size := by
  rcases h.2 with ⟨h', _⟩ | ⟨g', cap', cur, h', hb, hg, hn, hm, hcs, htake⟩
  · simp at h'
  · simp only [Value.slice.injEq, Option.some.injEq, Addr.mk.injEq, and_true, true_and] at h'
    obtain ⟨rfl, rfl⟩ := h'
    exact ⟨hb, (Array.getElem?_eq_some_iff.1 hg).1⟩
theorem own_some {w : World} {base e size n : Nat} {v : Value} {xs : List Value} (h : w.ownsRow base e size v n xs) (hn : 0 < n) : ∃ g cap, v = .slice (some ⟨g, 0, none⟩) n cap ∧ n ≤ cap ∧ cap ≤ 9223372036854775807 := by
  rcases h.2 with ⟨h', h0⟩ | ⟨g', cap', cur, h', hb, hg, hn', hm, hcs, htake⟩
  · omega
  · unfold maxLen at hm
    exact ⟨g', cap', h', hn', hm⟩
theorem own_nil (w : World) (base e size : Nat) : w.ownsRow base e size (.slice none 0 0) 0 [] := ⟨by simp, .inl ⟨rfl, rfl⟩⟩

theorem insCells_set (l : List Pure.Ins) : ∀ (i : Nat), i < l.length → ∀ y : Pure.Ins,
    (y.op = (Pure.cg l i).op → y.b = (Pure.cg l i).b → y.to = (Pure.cg l i).to → (insCells l).set (i * 4 + 1) (.int .i64 y.a) = insCells (l.set i y)) ∧
    (y.op = (Pure.cg l i).op → y.a = (Pure.cg l i).a → y.to = (Pure.cg l i).to → (insCells l).set (i * 4 + 2) (.int .i64 y.b) = insCells (l.set i y)) ∧
    (y.op = (Pure.cg l i).op → y.a = (Pure.cg l i).a → y.b = (Pure.cg l i).b → (insCells l).set (i * 4 + 3) (.int .i64 y.to) = insCells (l.set i y)) ∧
    ((((insCells l).set (i * 4) (.int .i64 y.op)).set (i * 4 + 1) (.int .i64 y.a)).set (i * 4 + 2) (.int .i64 y.b)).set (i * 4 + 3) (.int .i64 y.to) = insCells (l.set i y) := by
  induction l with
  | nil => intro i hi; simp at hi
  | cons x r ih =>
    intro i hi y
    cases i with
    | zero =>
      simp only [insCells, List.flatMap_cons, Pure.cg, List.getD_cons_zero, List.set_cons_zero]
      refine ⟨fun h1 h2 h3 => ?_, fun h1 h2 h3 => ?_, fun h1 h2 h3 => ?_, ?_⟩
      · simp [h1, h2, h3]
      · simp [h1, h2, h3]
      · simp [h1, h2, h3]
      · simp
    | succ i =>
      have h := ih i (by simpa using hi) y
      have e : ∀ j, (i + 1) * 4 + j = (i * 4 + j) + 1 + 1 + 1 + 1 := fun j => by omega
      have e' : (i + 1) * 4 = (i * 4) + 1 + 1 + 1 + 1 := by omega
      have g : Pure.cg (x :: r) (i + 1) = Pure.cg r i := by simp [Pure.cg]
      have c : ∀ l' : List Pure.Ins, insCells (x :: l') = .int .i64 x.op :: .int .i64 x.a :: .int .i64 x.b :: .int .i64 x.to :: insCells l' := fun l' => by simp [insCells]
      rw [g, List.set_cons_succ, c, c, e, e, e, e']
      simp only [List.set_cons_succ]
      refine ⟨fun h1 h2 h3 => ?_, fun h1 h2 h3 => ?_, fun h1 h2 h3 => ?_, ?_⟩
      · rw [h.1 h1 h2 h3]
      · rw [h.2.1 h1 h2 h3]
      · rw [h.2.2.1 h1 h2 h3]
      · rw [h.2.2.2]

theorem own_ins {w : World} {base n g cap : Nat} {l : List Pure.Ins} (h : w.ownsRow base 90 4 (.slice (some ⟨g, 0, none⟩) n cap) n (insCells l)) {i : Nat} (hi : i < l.length) :
    w.cell? ⟨g, i * 4, none⟩ = some (.int .i64 (Pure.cg l i).op) ∧ w.cell? ⟨g, i * 4 + 1, none⟩ = some (.int .i64 (Pure.cg l i).a) ∧ w.cell? ⟨g, i * 4 + 2, none⟩ = some (.int .i64 (Pure.cg l i).b) ∧ w.cell? ⟨g, i * 4 + 3, none⟩ = some (.int .i64 (Pure.cg l i).to) := by
  have q := insCells_get l i hi
  rw [Nat.mul_comm] at q
  have c : ∀ j u, (insCells l)[j]? = some u → w.cell? ⟨g, j, none⟩ = some u := by
    intro j u hu
    have := h.cells (g := g) rfl j u hu
    rw [add_eq, Nat.zero_add] at this
    exact this
  exact ⟨c _ _ q.1, c _ _ q.2.1, c _ _ q.2.2.1, c _ _ q.2.2.2⟩

/-- raw numbers, in range -/
def Rng (x : Int) : Prop := -9223372036854775808 ≤ x ∧ x ≤ 9223372036854775807
def InsR (l : List Pure.Ins) : Prop := ∀ i, i < l.length → Rng (Pure.cg l i).op ∧ Rng (Pure.cg l i).a ∧ Rng (Pure.cg l i).b ∧ Rng (Pure.cg l i).to
def RulesR (l : List Pure.Rule) : Prop := ∀ i, i < l.length → Rng (Pure.rg l i).emit ∧ Rng (Pure.rg l i).act ∧ Rng (Pure.rg l i).mode
def IntsR (l : List Int) : Prop := ∀ i, i < l.length → Rng (Pure.ig l i)

theorem pick_at (c : Int) (n : Nat) (w : World) (hc : Rng c) (hn : 0 < n) (hn2 : n ≤ 1000000) :
    Calls Try.prog 38 #[.int .i64 c, .int .i64 n] w fun e w' => e = .returned (.int .i64 (Pure.pk c n)) ∧ w' = w := pick_nat c n w hc hn hn2

/-- the operations that the raw ones speak of -/
def opsOf (r : List Pure.Ins) (k : Nat) : List Pure.Ins := (List.range k).map (fun j => ⟨1 + Pure.pk (Pure.cg r j).op 5, 0, 0, 0⟩)
theorem opsOf_len (r : List Pure.Ins) (k : Nat) : (opsOf r k).length = k := by simp [opsOf]
theorem ops_step (r : List Pure.Ins) (k : Nat) : insCells (opsOf r (k + 1)) = insCells (opsOf r k) ++ [.int .i64 (1 + Pure.pk (Pure.cg r k).op 5), .int .i64 0, .int .i64 0, .int .i64 0] := by
  unfold opsOf insCells
  rw [List.range_succ, List.map_append, List.flatMap_append]
  simp
theorem ops_last (r : List Pure.Ins) (k : Nat) : insCells (opsOf r k ++ [⟨5, 0, 0, 0⟩]) = insCells (opsOf r k) ++ [.int .i64 5, .int .i64 0, .int .i64 0, .int .i64 0] := by
  simp [insCells]

theorem ops_made (m : Nat) (r : List Pure.Ins) (k : Nat) (hk : k ≤ 49999) : Pure.Made m (opsOf r k ++ [⟨5, 0, 0, 0⟩]) 0 := by
  have hl : (opsOf r k ++ [(⟨5, 0, 0, 0⟩ : Pure.Ins)]).length = k + 1 := by simp [opsOf_len]
  have hg : Pure.cg (opsOf r k ++ [⟨5, 0, 0, 0⟩]) k = ⟨5, 0, 0, 0⟩ := by
    unfold Pure.cg
    rw [List.getD_eq_getElem?_getD, List.getElem?_append_right (by rw [opsOf_len]; omega), opsOf_len]
    simp
  refine ⟨by omega, by omega, by omega, by rw [hl]; exact hg, fun j hj => by omega, fun j _ hj => ?_⟩
  rw [hl] at hj
  by_cases e : j = k
  · subst e; rw [hg]; simp
  · have : Pure.cg (opsOf r k ++ [⟨5, 0, 0, 0⟩]) j = ⟨1 + Pure.pk (Pure.cg r j).op 5, 0, 0, 0⟩ := by
      unfold Pure.cg
      rw [List.getD_eq_getElem?_getD, List.getElem?_append_left (by rw [opsOf_len]; omega)]
      have hjk : j < k := by omega
      simp [opsOf, hjk, Pure.cg]
    rw [this]
    have := Pure.pk_bd (Pure.cg r j).op (n := 5) (by omega)
    exact ⟨⟨by show 1 ≤ 1 + _; omega, by show 1 + _ ≤ 5; omega⟩, rfl, rfl, rfl⟩

end Go.Proofs.Ytadcfjkldhfkdaa

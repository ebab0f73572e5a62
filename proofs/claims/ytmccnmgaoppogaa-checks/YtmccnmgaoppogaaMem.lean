/-
  Lists of numbers, rules and instructions in memory that a call has made.
-/
import Derived.Test.YtmccnmgaoppogaaW1
namespace Go.Proofs.Ytmccnmgaoppogaa
open Go.RowKit

theorem hide {p : Prop} (h : p) : Hid p := h

def intCells (l : List Int) : List Value := l.map (Value.int .i64)
def ruleCells (l : List Pure.Rule) : List Value := l.flatMap (fun r => [.int .i64 r.emit, .int .i64 r.act, .int .i64 r.mode])
def insCells (l : List Pure.Ins) : List Value := l.flatMap (fun x => [.int .i64 x.op, .int .i64 x.a, .int .i64 x.b, .int .i64 x.to])

theorem intCells_length (l : List Int) : (intCells l).length = l.length := by simp [intCells]
theorem ruleCells_length (l : List Pure.Rule) : (ruleCells l).length = l.length * 3 := by
  induction l with
  | nil => rfl
  | cons x r ih => unfold ruleCells at ih ⊢; rw [List.flatMap_cons, List.length_append, ih, List.length_cons]; simp; omega
theorem insCells_length (l : List Pure.Ins) : (insCells l).length = l.length * 4 := by
  induction l with
  | nil => rfl
  | cons x r ih => unfold insCells at ih ⊢; rw [List.flatMap_cons, List.length_append, ih, List.length_cons]; simp; omega

theorem intCells_get (l : List Int) (i : Nat) (h : i < l.length) : (intCells l)[i]? = some (.int .i64 (l.getD i 0)) := by
  simp [intCells, List.getElem?_eq_getElem h]
theorem ruleCells_get (l : List Pure.Rule) : ∀ (i : Nat), i < l.length → (ruleCells l)[3 * i]? = some (.int .i64 (l.getD i Pure.r0).emit) ∧ (ruleCells l)[3 * i + 1]? = some (.int .i64 (l.getD i Pure.r0).act) ∧ (ruleCells l)[3 * i + 2]? = some (.int .i64 (l.getD i Pure.r0).mode) := by
  induction l with
  | nil => intro i h; simp at h
  | cons x r ih =>
    intro i h
    cases i with
    | zero => simp [ruleCells]
    | succ i =>
      have := ih i (by simpa using h)
      simp only [ruleCells, List.flatMap_cons] at this ⊢
      have e : ∀ j, ([Value.int .i64 x.emit, .int .i64 x.act, .int .i64 x.mode] ++ List.flatMap (fun r : Pure.Rule => [Value.int .i64 r.emit, .int .i64 r.act, .int .i64 r.mode]) r)[3 * (i + 1) + j]? = (List.flatMap (fun r : Pure.Rule => [Value.int .i64 r.emit, .int .i64 r.act, .int .i64 r.mode]) r)[3 * i + j]? := by
        intro j
        rw [List.getElem?_append_right (by simp; omega)]
        congr 1
        simp; omega
      have e0 := e 0
      rw [Nat.add_zero, Nat.add_zero] at e0
      rw [e0, e 1, e 2]
      simpa using this
theorem insCells_get (l : List Pure.Ins) : ∀ (i : Nat), i < l.length → (insCells l)[4 * i]? = some (.int .i64 (l.getD i Pure.i0).op) ∧ (insCells l)[4 * i + 1]? = some (.int .i64 (l.getD i Pure.i0).a) ∧ (insCells l)[4 * i + 2]? = some (.int .i64 (l.getD i Pure.i0).b) ∧ (insCells l)[4 * i + 3]? = some (.int .i64 (l.getD i Pure.i0).to) := by
  induction l with
  | nil => intro i h; simp at h
  | cons x r ih =>
    intro i h
    cases i with
    | zero => simp [insCells]
    | succ i =>
      have := ih i (by simpa using h)
      simp only [insCells, List.flatMap_cons] at this ⊢
      have e : ∀ j, ([Value.int .i64 x.op, .int .i64 x.a, .int .i64 x.b, .int .i64 x.to] ++ List.flatMap (fun r : Pure.Ins => [Value.int .i64 r.op, .int .i64 r.a, .int .i64 r.b, .int .i64 r.to]) r)[4 * (i + 1) + j]? = (List.flatMap (fun r : Pure.Ins => [Value.int .i64 r.op, .int .i64 r.a, .int .i64 r.b, .int .i64 r.to]) r)[4 * i + j]? := by
        intro j
        rw [List.getElem?_append_right (by simp; omega)]
        congr 1
        simp; omega
      have e0 := e 0
      rw [Nat.add_zero, Nat.add_zero] at e0
      rw [e0, e 1, e 2, e 3]
      simpa using this

/-- the value's form; every cell of the list is there -/
theorem own_read {w : World} {base e size n : Nat} {v : Value} {xs : List Value} (h : w.ownsRow base e size v n xs) :
    ∃ ao cap, v = .slice ao n cap ∧ n ≤ cap ∧ cap ≤ maxLen ∧ ∀ i, i < n * size → ∃ b, ao = some ⟨b, 0, none⟩ ∧ b < w.heap.size ∧ base ≤ b ∧ ∀ j u, xs[j]? = some u → w.cell? ⟨b, j, none⟩ = some u := by
  rcases h.2 with ⟨rfl, rfl⟩ | ⟨g, cap, cur, rfl, hb, hg, hn, hm, _, _⟩
  · exact ⟨none, 0, rfl, Nat.le_refl _, Nat.zero_le _, fun i hi => by omega⟩
  · refine ⟨some ⟨g, 0, none⟩, cap, rfl, hn, hm, fun i _ => ⟨g, rfl, (Array.getElem?_eq_some_iff.1 hg).1, hb, fun j u hu => ?_⟩⟩
    have := h.cells (g := g) rfl j u hu
    by_cases hj : j = 0
    · subst hj; simpa [Addr.add] using this
    · simpa [Addr.add, hj] using this

theorem own_below {B : Nat} {w w' : World} {base e size n : Nat} {v : Value} {xs : List Value} (h : w.ownsRow base e size v n xs) (hb : Below B w w') (hB : w.heap.size ≤ B) : w'.ownsRow base e size v n xs := by
  refine ⟨h.1, ?_⟩
  rcases h.2 with hn | ⟨g, cap, cur, rfl, hb', hgg, rest⟩
  · exact .inl hn
  · refine .inr ⟨g, cap, cur, rfl, hb', ?_, rest⟩
    have := (Array.getElem?_eq_some_iff.1 hgg).1
    rw [hb.block g (by omega)]
    exact hgg

theorem own_mono {w : World} {base base' e size n : Nat} {v : Value} {xs : List Value} (h : w.ownsRow base e size v n xs) (hb : base' ≤ base) : w.ownsRow base' e size v n xs := by
  refine ⟨h.1, ?_⟩
  rcases h.2 with hn | ⟨g, cap, cur, rfl, hb', rest⟩
  · exact .inl hn
  · exact .inr ⟨g, cap, cur, rfl, by omega, rest⟩

/-- a list of numbers, of rules, of instructions lies there -/
def Ints (w : World) (v : Value) (l : List Int) : Prop := ∃ ao cap, v = .slice ao l.length cap ∧ l.length ≤ cap ∧ cap ≤ 9223372036854775807 ∧
    ∀ i, i < l.length → ∃ b off, ao = some ⟨b, off, none⟩ ∧ b < w.heap.size ∧ w.cell? ⟨b, off + i, none⟩ = some (.int .i64 (Pure.ig l i))
def Rules (w : World) (v : Value) (l : List Pure.Rule) : Prop := ∃ ao cap, v = .slice ao l.length cap ∧ l.length ≤ cap ∧ cap ≤ 9223372036854775807 ∧
    ∀ i, i < l.length → ∃ b off, ao = some ⟨b, off, none⟩ ∧ b < w.heap.size ∧ w.cell? ⟨b, off + i * 3, none⟩ = some (.int .i64 (Pure.rg l i).emit) ∧ w.cell? ⟨b, off + i * 3 + 1, none⟩ = some (.int .i64 (Pure.rg l i).act) ∧ w.cell? ⟨b, off + i * 3 + 2, none⟩ = some (.int .i64 (Pure.rg l i).mode)
def Code (w : World) (v : Value) (l : List Pure.Ins) : Prop := ∃ ao cap, v = .slice ao l.length cap ∧ l.length ≤ cap ∧ cap ≤ 9223372036854775807 ∧
    ∀ i, i < l.length → ∃ b off, ao = some ⟨b, off, none⟩ ∧ b < w.heap.size ∧ w.cell? ⟨b, off + i * 4, none⟩ = some (.int .i64 (Pure.cg l i).op) ∧ w.cell? ⟨b, off + i * 4 + 1, none⟩ = some (.int .i64 (Pure.cg l i).a) ∧ w.cell? ⟨b, off + i * 4 + 2, none⟩ = some (.int .i64 (Pure.cg l i).b) ∧ w.cell? ⟨b, off + i * 4 + 3, none⟩ = some (.int .i64 (Pure.cg l i).to)

theorem Ints.read {w : World} {v : Value} {l : List Int} (h : Ints w v l) : ∃ ao cap, v = .slice ao l.length cap ∧ l.length ≤ cap ∧ cap ≤ 9223372036854775807 ∧
    ∀ i, i < l.length → ∃ b off, ao = some ⟨b, off, none⟩ ∧ b < w.heap.size ∧ w.cell? ⟨b, off + i, none⟩ = some (.int .i64 (Pure.ig l i)) := h
theorem Rules.read {w : World} {v : Value} {l : List Pure.Rule} (h : Rules w v l) : ∃ ao cap, v = .slice ao l.length cap ∧ l.length ≤ cap ∧ cap ≤ 9223372036854775807 ∧
    ∀ i, i < l.length → ∃ b off, ao = some ⟨b, off, none⟩ ∧ b < w.heap.size ∧ w.cell? ⟨b, off + i * 3, none⟩ = some (.int .i64 (Pure.rg l i).emit) ∧ w.cell? ⟨b, off + i * 3 + 1, none⟩ = some (.int .i64 (Pure.rg l i).act) ∧ w.cell? ⟨b, off + i * 3 + 2, none⟩ = some (.int .i64 (Pure.rg l i).mode) := h
theorem Code.read {w : World} {v : Value} {l : List Pure.Ins} (h : Code w v l) : ∃ ao cap, v = .slice ao l.length cap ∧ l.length ≤ cap ∧ cap ≤ 9223372036854775807 ∧
    ∀ i, i < l.length → ∃ b off, ao = some ⟨b, off, none⟩ ∧ b < w.heap.size ∧ w.cell? ⟨b, off + i * 4, none⟩ = some (.int .i64 (Pure.cg l i).op) ∧ w.cell? ⟨b, off + i * 4 + 1, none⟩ = some (.int .i64 (Pure.cg l i).a) ∧ w.cell? ⟨b, off + i * 4 + 2, none⟩ = some (.int .i64 (Pure.cg l i).b) ∧ w.cell? ⟨b, off + i * 4 + 3, none⟩ = some (.int .i64 (Pure.cg l i).to) := h

theorem Ints.below {w w' : World} {v : Value} {l : List Int} (h : Ints w v l) (hb : Below w.heap.size w w') : Ints w' v l := by
  obtain ⟨ao, cap, h1, h2, h3, h4⟩ := h
  refine ⟨ao, cap, h1, h2, h3, fun i hi => ?_⟩
  obtain ⟨b, off, e, hl, hc⟩ := h4 i hi
  have hs := hb.size
  exact ⟨b, off, e, by omega, (hb.cell (p := ⟨b, off + i, none⟩) hl).trans hc⟩
theorem Rules.below {w w' : World} {v : Value} {l : List Pure.Rule} (h : Rules w v l) (hb : Below w.heap.size w w') : Rules w' v l := by
  obtain ⟨ao, cap, h1, h2, h3, h4⟩ := h
  refine ⟨ao, cap, h1, h2, h3, fun i hi => ?_⟩
  obtain ⟨b, off, e, hl, hc0, hc1, hc2⟩ := h4 i hi
  have hs := hb.size
  exact ⟨b, off, e, by omega, (hb.cell (p := ⟨b, _, none⟩) hl).trans hc0, (hb.cell (p := ⟨b, _, none⟩) hl).trans hc1, (hb.cell (p := ⟨b, _, none⟩) hl).trans hc2⟩
theorem Code.below {w w' : World} {v : Value} {l : List Pure.Ins} (h : Code w v l) (hb : Below w.heap.size w w') : Code w' v l := by
  obtain ⟨ao, cap, h1, h2, h3, h4⟩ := h
  refine ⟨ao, cap, h1, h2, h3, fun i hi => ?_⟩
  obtain ⟨b, off, e, hl, hc0, hc1, hc2, hc3⟩ := h4 i hi
  have hs := hb.size
  exact ⟨b, off, e, by omega, (hb.cell (p := ⟨b, _, none⟩) hl).trans hc0, (hb.cell (p := ⟨b, _, none⟩) hl).trans hc1, (hb.cell (p := ⟨b, _, none⟩) hl).trans hc2, (hb.cell (p := ⟨b, _, none⟩) hl).trans hc3⟩

theorem own_ints {w : World} {base n : Nat} {v : Value} {l : List Int} (h : w.ownsRow base 3 1 v n (intCells l)) (hn : n = l.length) : Ints w v l := by
  subst hn
  obtain ⟨ao, cap, h1, h2, h3, h4⟩ := own_read h
  unfold maxLen at h3
  refine ⟨ao, cap, h1, h2, h3, fun i hi => ?_⟩
  obtain ⟨b, hb, hl, _, hc⟩ := h4 i (by omega)
  refine ⟨b, 0, hb, hl, ?_⟩
  rw [Nat.zero_add]
  exact hc i _ (intCells_get l i hi)

theorem own_rules {w : World} {base n : Nat} {v : Value} {l : List Pure.Rule} (h : w.ownsRow base 66 3 v n (ruleCells l)) (hn : n = l.length) : Rules w v l := by
  subst hn
  obtain ⟨ao, cap, h1, h2, h3, h4⟩ := own_read h
  unfold maxLen at h3
  refine ⟨ao, cap, h1, h2, h3, fun i hi => ?_⟩
  obtain ⟨b, hb, hl, _, hc⟩ := h4 i (by omega)
  have g := ruleCells_get l i hi
  rw [Nat.mul_comm] at g
  refine ⟨b, 0, hb, hl, ?_⟩
  rw [Nat.zero_add]
  exact ⟨hc _ _ g.1, hc _ _ g.2.1, hc _ _ g.2.2⟩

theorem own_code {w : World} {base n : Nat} {v : Value} {l : List Pure.Ins} (h : w.ownsRow base 103 4 v n (insCells l)) (hn : n = l.length) : Code w v l := by
  subst hn
  obtain ⟨ao, cap, h1, h2, h3, h4⟩ := own_read h
  unfold maxLen at h3
  refine ⟨ao, cap, h1, h2, h3, fun i hi => ?_⟩
  obtain ⟨b, hb, hl, _, hc⟩ := h4 i (by omega)
  have g := insCells_get l i hi
  rw [Nat.mul_comm] at g
  refine ⟨b, 0, hb, hl, ?_⟩
  rw [Nat.zero_add]
  exact ⟨hc _ _ g.1, hc _ _ g.2.1, hc _ _ g.2.2.1, hc _ _ g.2.2.2⟩

theorem bel1 {w wr w1 : World} {o : Obj} (h : Below w.heap.size w wr) (h1 : Below (wr.alloc o).heap.size (wr.alloc o) w1) : Below w.heap.size w w1 := by
  have := h.size
  exact (h.alloc this o).trans (h1.mono (by simp; omega))

theorem bel0 {w wr w1 : World} (h : Below w.heap.size w wr) (h1 : Below wr.heap.size wr w1) : Below w.heap.size w w1 := h.trans (h1.mono h.size)

end Go.Proofs.Ytmccnmgaoppogaa

/-
  From data to memory: a program that came in, its numbers in range.
-/
import Derived.Test.YtmccnmgaoppogaaB10
import Derived.ProofKit
import Derived.SizedLaws
import Derived.Deep.Slices
import Derived.Deep.Strs
import Derived.Lib.SmallJoins
namespace Go.Proofs.Ytmccnmgaoppogaa
open Go.ChangeShapes Go.WideShapes Go.ChangeAt Go.RowKit Go.Deep Go.Joins

theorem Try.own : ownKnob Try.prog.godebug = none := by kernel_rfl
theorem Try.laidOut : laidOutB Try.prog = true := by kernel_rfl
theorem Try.cells3 : Try.prog.cellsOf 3 = 1 := by kernel_rfl
theorem Try.cells66 : Try.prog.cellsOf 66 = 3 := by kernel_rfl
theorem Try.cells103 : Try.prog.cellsOf 103 = 4 := by kernel_rfl
theorem Try.cells26 : Try.prog.cellsOf 26 = 3 := by kernel_rfl

theorem rng_wf {n : Int} (h : (Lit.int .i64 n).wf = true) : Rng n := by
  simp only [Lit.wf, Bool.and_eq_true, decide_eq_true_eq] at h
  exact h

section
variable {H : Type} {enc : TypeId × Value → H} {W : World} {spare : Nat → Bool} {held : Bool}

theorem ints_in {fuel : Nat} {v : Value} {x : DataW H × List MemPlace} (h : DataW.trod enc Try.prog W 0 spare held fuel 22 [v] = some x)  :
    ∃ l, Ints W v l ∧ IntsR l := by
  rcases open_ints Try.underlying22 Try.underlying3 Try.cells3 h with ⟨hcs, hx⟩ | ⟨a, len, cap, zs, hcs, _, hl, hm, hz, hx, hcell, hwz⟩
  · simp only [List.cons.injEq, and_true] at hcs
    subst hcs
    exact ⟨[], ⟨none, 0, rfl, Nat.le_refl _, by omega, fun i hi => by simp at hi⟩, fun i hi => by simp at hi⟩
  · simp only [List.cons.injEq, and_true] at hcs
    subst hcs
    have hzl : len ≤ zs.length := by rw [hz]; split <;> omega
    have htl : (zs.take len).length = len := by rw [List.length_take]; omega
    unfold maxLen at hm
    refine ⟨zs.take len, ⟨some a, cap, by rw [htl], by rw [htl]; exact hl, hm, fun i hi => ?_⟩, fun i hi => ?_⟩
    rotate_left
    · have hz' : Pure.ig (zs.take len) i ∈ zs.take len := by
        rw [Pure.ig, List.getD_eq_getElem?_getD, List.getElem?_eq_getElem hi]
        exact List.getElem_mem hi
      exact rng_wf (hwz _ (List.mem_of_mem_take hz'))
    rw [htl] at hi
    obtain ⟨b, off, rfl, hc⟩ := ints_at hcell (by omega)
    refine ⟨b, off, rfl, World.block_lt_of_cell? W ⟨b, off + i, none⟩ (hc i (by omega)), ?_⟩
    rw [hc i (by omega)]
    simp [Pure.ig, List.getD_eq_getElem?_getD, hi]

theorem len3 {α : Type} (l : List α) (h : l.length = 3) : ∃ a b c, l = [a, b, c] := by
  match l, h with
  | [a, b, c], _ => exact ⟨a, b, c, rfl⟩
theorem len4 {α : Type} (l : List α) (h : l.length = 4) : ∃ a b c d, l = [a, b, c, d] := by
  match l, h with
  | [a, b, c, d], _ => exact ⟨a, b, c, d, rfl⟩

theorem pick_lt {α : Type} {n : Nat} {p : Nat → α → Prop} (h : ∀ i, i < n → ∃ x, p i x) (d : α) : ∃ f : Nat → α, ∀ i, i < n → p i (f i) := by
  classical
  refine ⟨fun i => if hi : i < n then Classical.choose (h i hi) else d, fun i hi => ?_⟩
  simp only [dif_pos hi]
  exact Classical.choose_spec (h i hi)

theorem rules_in {fuel : Nat} {v : Value} {x : DataW H × List MemPlace} (h : DataW.trod enc Try.prog W 0 spare held fuel 23 [v] = some x)  :
    ∃ l, Rules W v l ∧ RulesR l := by
  rcases open_slice Try.underlying23 h with ⟨hcs, hx⟩ | ⟨a, len, cap, m, n, D, Pl, hcs, _, hl, hm, hmm, hx, hcell⟩
  · simp only [List.cons.injEq, and_true] at hcs
    subst hcs
    exact ⟨[], ⟨none, 0, rfl, Nat.le_refl _, by omega, fun i hi => by simp at hi⟩, fun i hi => by simp at hi⟩
  · simp only [List.cons.injEq, and_true] at hcs
    subst hcs
    have hlm : len ≤ m := by rw [hmm]; split <;> omega
    unfold maxLen at hm
    have each : ∀ i, i < len → ∃ r : Pure.Rule, W.cell? (a.add (i * 3)) = some (.int .i64 r.emit) ∧ W.cell? (a.add (i * 3 + 1)) = some (.int .i64 r.act) ∧ W.cell? (a.add (i * 3 + 2)) = some (.int .i64 r.mode) ∧ Rng r.emit ∧ Rng r.act ∧ Rng r.mode := by
      intro i hi
      obtain ⟨cs', h1, h2⟩ := hcell i (by omega)
      rw [Try.cells66] at h1
      obtain ⟨_, hlen, hc⟩ := World.cells?_some h1
      obtain ⟨xs, k, -, -, -, hxl, hf⟩ := DataW.trod_struct Try.underlying66 h2
      have hxl' : xs.length = 3 := hxl
      obtain ⟨y0, y1, y2, rfl⟩ := len3 xs hxl'
      obtain ⟨v0, v1, v2, rfl⟩ := len3 cs' hlen
      clear hxl hxl' hlen
      have hf0 : DataW.trod enc Try.prog W 0 spare held k 3 ((List.drop 0 [v0, v1, v2]).take (Try.prog.cellsOf 3)) = some y0 := hf 0 _ rfl
      rw [Try.cells3] at hf0
      have hf1 : DataW.trod enc Try.prog W 0 spare held k 3 ((List.drop 1 [v0, v1, v2]).take (Try.prog.cellsOf 3)) = some y1 := hf 1 _ rfl
      rw [Try.cells3] at hf1
      have hf2 : DataW.trod enc Try.prog W 0 spare held k 3 ((List.drop 2 [v0, v1, v2]).take (Try.prog.cellsOf 3)) = some y2 := hf 2 _ rfl
      rw [Try.cells3] at hf2
      obtain ⟨n0, c0, -, w0⟩ := DataW.trod_int Try.underlying3 (hf0 : DataW.trod enc Try.prog W 0 spare held k 3 [v0] = some y0)
      obtain ⟨n1, c1, -, w1⟩ := DataW.trod_int Try.underlying3 (hf1 : DataW.trod enc Try.prog W 0 spare held k 3 [v1] = some y1)
      obtain ⟨n2, c2, -, w2⟩ := DataW.trod_int Try.underlying3 (hf2 : DataW.trod enc Try.prog W 0 spare held k 3 [v2] = some y2)
      have qc0 := (List.cons.inj c0).1
      subst qc0
      have qc1 := (List.cons.inj c1).1
      subst qc1
      have qc2 := (List.cons.inj c2).1
      subst qc2
      have e0 := hc 0 (by omega)
      rw [add_add] at e0
      have e1 := hc 1 (by omega)
      rw [add_add] at e1
      have e2 := hc 2 (by omega)
      rw [add_add] at e2
      exact ⟨⟨n0, n1, n2⟩, e0, e1, e2, rng_wf w0, rng_wf w1, rng_wf w2⟩
    obtain ⟨f, hf⟩ := pick_lt each Pure.r0
    refine ⟨(List.range len).map f, ⟨some a, cap, by simp, by simpa using hl, hm, fun i hi => ?_⟩, fun i hi => ?_⟩
    rotate_left
    · rw [List.length_map, List.length_range] at hi
      have g := hf i hi
      have hr : Pure.rg ((List.range len).map f) i = f i := by simp [Pure.rg, List.getD_eq_getElem?_getD, hi]
      rw [hr]
      exact g.2.2.2
    rw [List.length_map, List.length_range] at hi
    have g := hf i hi
    have hr : Pure.rg ((List.range len).map f) i = f i := by simp [Pure.rg, List.getD_eq_getElem?_getD, hi]
    rw [hr]
    obtain ⟨b, off, spot⟩ := a
    have hspot : spot = none := by
      have := World.cell?_spot (hf 0 (by omega)).1
      simpa [Addr.add] using this
    subst hspot
    simp only [add_eq] at g
    exact ⟨b, off, rfl, World.block_lt_of_cell? W _ g.1, g.1, by rw [show off + i * 3 + 1 = off + (i * 3 + 1) from by omega]; exact g.2.1, by rw [show off + i * 3 + 2 = off + (i * 3 + 2) from by omega]; exact g.2.2.1⟩

theorem code_in {fuel : Nat} {v : Value} {x : DataW H × List MemPlace} (h : DataW.trod enc Try.prog W 0 spare held fuel 24 [v] = some x)  :
    ∃ l, Code W v l ∧ InsR l := by
  rcases open_slice Try.underlying24 h with ⟨hcs, hx⟩ | ⟨a, len, cap, m, n, D, Pl, hcs, _, hl, hm, hmm, hx, hcell⟩
  · simp only [List.cons.injEq, and_true] at hcs
    subst hcs
    exact ⟨[], ⟨none, 0, rfl, Nat.le_refl _, by omega, fun i hi => by simp at hi⟩, fun i hi => by simp at hi⟩
  · simp only [List.cons.injEq, and_true] at hcs
    subst hcs
    have hlm : len ≤ m := by rw [hmm]; split <;> omega
    unfold maxLen at hm
    have each : ∀ i, i < len → ∃ r : Pure.Ins, W.cell? (a.add (i * 4)) = some (.int .i64 r.op) ∧ W.cell? (a.add (i * 4 + 1)) = some (.int .i64 r.a) ∧ W.cell? (a.add (i * 4 + 2)) = some (.int .i64 r.b) ∧ W.cell? (a.add (i * 4 + 3)) = some (.int .i64 r.to) ∧ Rng r.op ∧ Rng r.a ∧ Rng r.b ∧ Rng r.to := by
      intro i hi
      obtain ⟨cs', h1, h2⟩ := hcell i (by omega)
      rw [Try.cells103] at h1
      obtain ⟨_, hlen, hc⟩ := World.cells?_some h1
      obtain ⟨xs, k, -, -, -, hxl, hf⟩ := DataW.trod_struct Try.underlying103 h2
      have hxl' : xs.length = 4 := hxl
      obtain ⟨y0, y1, y2, y3, rfl⟩ := len4 xs hxl'
      obtain ⟨v0, v1, v2, v3, rfl⟩ := len4 cs' hlen
      clear hxl hxl' hlen
      have hf0 : DataW.trod enc Try.prog W 0 spare held k 3 ((List.drop 0 [v0, v1, v2, v3]).take (Try.prog.cellsOf 3)) = some y0 := hf 0 _ rfl
      rw [Try.cells3] at hf0
      have hf1 : DataW.trod enc Try.prog W 0 spare held k 3 ((List.drop 1 [v0, v1, v2, v3]).take (Try.prog.cellsOf 3)) = some y1 := hf 1 _ rfl
      rw [Try.cells3] at hf1
      have hf2 : DataW.trod enc Try.prog W 0 spare held k 3 ((List.drop 2 [v0, v1, v2, v3]).take (Try.prog.cellsOf 3)) = some y2 := hf 2 _ rfl
      rw [Try.cells3] at hf2
      have hf3 : DataW.trod enc Try.prog W 0 spare held k 3 ((List.drop 3 [v0, v1, v2, v3]).take (Try.prog.cellsOf 3)) = some y3 := hf 3 _ rfl
      rw [Try.cells3] at hf3
      obtain ⟨n0, c0, -, w0⟩ := DataW.trod_int Try.underlying3 (hf0 : DataW.trod enc Try.prog W 0 spare held k 3 [v0] = some y0)
      obtain ⟨n1, c1, -, w1⟩ := DataW.trod_int Try.underlying3 (hf1 : DataW.trod enc Try.prog W 0 spare held k 3 [v1] = some y1)
      obtain ⟨n2, c2, -, w2⟩ := DataW.trod_int Try.underlying3 (hf2 : DataW.trod enc Try.prog W 0 spare held k 3 [v2] = some y2)
      obtain ⟨n3, c3, -, w3⟩ := DataW.trod_int Try.underlying3 (hf3 : DataW.trod enc Try.prog W 0 spare held k 3 [v3] = some y3)
      have qc0 := (List.cons.inj c0).1
      subst qc0
      have qc1 := (List.cons.inj c1).1
      subst qc1
      have qc2 := (List.cons.inj c2).1
      subst qc2
      have qc3 := (List.cons.inj c3).1
      subst qc3
      have e0 := hc 0 (by omega)
      rw [add_add] at e0
      have e1 := hc 1 (by omega)
      rw [add_add] at e1
      have e2 := hc 2 (by omega)
      rw [add_add] at e2
      have e3 := hc 3 (by omega)
      rw [add_add] at e3
      exact ⟨⟨n0, n1, n2, n3⟩, e0, e1, e2, e3, rng_wf w0, rng_wf w1, rng_wf w2, rng_wf w3⟩
    obtain ⟨f, hf⟩ := pick_lt each Pure.i0
    refine ⟨(List.range len).map f, ⟨some a, cap, by simp, by simpa using hl, hm, fun i hi => ?_⟩, fun i hi => ?_⟩
    rotate_left
    · rw [List.length_map, List.length_range] at hi
      have g := hf i hi
      have hr : Pure.cg ((List.range len).map f) i = f i := by simp [Pure.cg, List.getD_eq_getElem?_getD, hi]
      rw [hr]
      exact g.2.2.2.2
    rw [List.length_map, List.length_range] at hi
    have g := hf i hi
    have hr : Pure.cg ((List.range len).map f) i = f i := by simp [Pure.cg, List.getD_eq_getElem?_getD, hi]
    rw [hr]
    obtain ⟨b, off, spot⟩ := a
    have hspot : spot = none := by
      have := World.cell?_spot (hf 0 (by omega)).1
      simpa [Addr.add] using this
    subst hspot
    simp only [add_eq] at g
    exact ⟨b, off, rfl, World.block_lt_of_cell? W _ g.1, g.1, by rw [show off + i * 4 + 1 = off + (i * 4 + 1) from by omega]; exact g.2.1, by rw [show off + i * 4 + 2 = off + (i * 4 + 2) from by omega]; exact g.2.2.1, by rw [show off + i * 4 + 3 = off + (i * 4 + 3) from by omega]; exact g.2.2.2.1⟩

end

end Go.Proofs.Ytmccnmgaoppogaa

/-
  The walks: does an instruction end? Is there no way round? (weirref)
-/
import Derived.Test.YtmccnmgaoppogaaGreatMem
import Derived.Test.YtmccnmgaoppogaaGreatPure5
namespace Go.Proofs.YtmccnmgaoppogaaGreat
open Go.RowKit

theorem Tryz.info4 : (Tryz.prog.info? 4).map (fun i => (i.zero, i.size, i.bytes)) = some (some (.bool false), 1, 1) := by kernel_rfl

def boolCells (l : List Bool) : List Value := l.map Value.bool
theorem boolCells_length (l : List Bool) : (boolCells l).length = l.length := by simp [boolCells]
theorem boolCells_get (l : List Bool) (i : Nat) (h : i < l.length) : (boolCells l)[i]? = some (.bool (Pure.bg l i)) := by
  simp [boolCells, Pure.bg, List.getElem?_eq_getElem h]
theorem made_bools (n : Nat) : (madeCells (Value.bool false).cells (n * 1)).toList = boolCells (List.replicate n false) := by
  simp only [madeCells, boolCells, Value.cells, Nat.mul_one, List.map_replicate]
  rw [List.eq_replicate_iff]
  simp [Nat.mod_one]
theorem boolCells_set (L : List Bool) (v : Nat) (y : Bool) : (boolCells L).set v (.bool y) = boolCells (L.set v y) := by
  simp [boolCells, List.map_set]

def EndAt (B : Nat) (wr : World) (g n : Nat) (L : List Bool) : Prop := wr.ownsRow B 4 1 (.slice (some ⟨g, 0, none⟩) n n) n (boolCells L)

theorem EndAt.cell {B : Nat} {wr : World} {g n : Nat} {L : List Bool} (h : EndAt B wr g n L) {v : Nat} (hv : v < L.length) : wr.cell? ⟨g, v, none⟩ = some (.bool (Pure.bg L v)) := by
  have := h.cells (g := g) rfl v _ (boolCells_get L v hv)
  by_cases hj : v = 0
  · subst hj; simpa [Addr.add] using this
  · simpa [Addr.add, hj] using this
theorem EndAt.frozen {B : Nat} {wr : World} {g n : Nat} {L : List Bool} (h : EndAt B wr g n L) (v : Nat) : wr.frozen? ⟨g, v, none⟩ = false := World.ownsRow.frozenAt h v
theorem EndAt.store {B : Nat} {wr : World} {g n : Nat} {L : List Bool} (h : EndAt B wr g n L) (v : Nat) (y : Bool) : EndAt B (wr.setCell ⟨g, v, none⟩ (.bool y)) g n (L.set v y) := by
  have := (World.ownsRow.stored h v (.bool y)).1
  rw [boolCells_set] at this
  exact this

set_option maxHeartbeats 1000000 in
theorem ends_any (v : Value) (l : List Pure.Ins) (B g : Nat) (L : List Bool) (i : Int) (w : World) (hv : Code w v l) (hL : EndAt B w g l.length L) (hLl : L.length = l.length) (ht : Pure.Tight l) (_hn : l.length ≤ 50000) (hi0 : 0 ≤ i) (hi1 : i < l.length) :
    Calls Tryz.prog 102 #[v, .slice (some ⟨g, 0, none⟩) l.length l.length, .int .i64 i] w fun e w' => e = .returned (.bool (Pure.endsB l L i.toNat)) ∧ w = w' := by
  obtain ⟨k, rfl⟩ := Int.eq_ofNat_of_zero_le hi0
  rw [Int.toNat_natCast]
  have hk : k < l.length := by omega
  have hT := ht k hk
  obtain ⟨ao, cap, rfl, hc1, hc2, hread⟩ := hv.read
  obtain ⟨b, off, rfl, hb, g0, g1, g2, g3⟩ := hread k hk
  clear hread hv hb g1 g2
  by_cases h1 : (Pure.cg l k).op = 1
  · have hk1 : k + 1 < l.length := hT.1 (.inl h1)
    rw [Pure.ends1 h1]
    have hc := hL.cell (v := k + 1) (by omega)
    rw [h1] at g0
    clear hT hL ht h1 g3
    go_enter Tryz.func102, Tryz.ntmps102
    go_wp2
    go_ret
    exact ⟨rfl, rfl⟩
  by_cases h3 : (Pure.cg l k).op = 3
  · have hk1 : k + 1 < l.length := hT.1 (.inr h3)
    have hto := hT.2 (.inl h3)
    change 0 ≤ (Pure.cg l k).to ∧ (Pure.cg l k).to < l.length at hto
    rw [Pure.ends3 h3]
    have hc := hL.cell (v := k + 1) (by omega)
    have hd := hL.cell (v := (Pure.cg l k).to.toNat) (by omega)
    rw [h3] at g0
    generalize (Pure.cg l k).to = to at *
    clear hT hL ht h1 h3
    cases hq : Pure.bg L (k + 1)
    · rw [hq] at hc
      go_enter Tryz.func102, Tryz.ntmps102
      go_wp2
      go_ret
      exact ⟨ret_bool (by simp), rfl⟩
    · rw [hq] at hc
      go_enter Tryz.func102, Tryz.ntmps102
      go_wp2
      go_ret
      exact ⟨ret_bool (by simp), rfl⟩
  by_cases h4 : (Pure.cg l k).op = 4
  · have hto := hT.2 (.inr h4)
    change 0 ≤ (Pure.cg l k).to ∧ (Pure.cg l k).to < l.length at hto
    rw [Pure.ends4 h4]
    have hd := hL.cell (v := (Pure.cg l k).to.toNat) (by omega)
    rw [h4] at g0
    generalize (Pure.cg l k).to = to at *
    clear hT hL ht h1 h3 h4
    go_enter Tryz.func102, Tryz.ntmps102
    go_wp2
    go_ret
    exact ⟨rfl, rfl⟩
  · rw [Pure.ends0 h1 h3 h4]
    generalize (Pure.cg l k).op = op at *
    have e1 : (op == 1) = false := by simpa using h1
    have e3 : (op == 3) = false := by simpa using h3
    have e4 : (op == 4) = false := by simpa using h4
    clear hT hL ht g3 h1 h3 h4
    go_enter Tryz.func102, Tryz.ntmps102
    go_wp2
    go_ret
    exact ⟨rfl, rfl⟩

end Go.Proofs.YtmccnmgaoppogaaGreat

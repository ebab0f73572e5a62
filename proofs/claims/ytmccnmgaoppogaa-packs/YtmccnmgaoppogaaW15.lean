/-
  The walks: the caller writes over what it handed in. (weirlaw)
-/
import Derived.Test.YtmccnmgaoppogaaW13
import Derived.Test.YtmccnmgaoppogaaW10
namespace Go.Proofs.Ytmccnmgaoppogaa
open Go.RowKit

/-- three rows of the caller's own and a box that leads to them -/
structure Rows3 (B : Nat) (w W : World) (bx ge gr gc m k n : Nat) (X : List Value) : Prop where
  box : Blk W bx 26 X
  ents : ∃ xs, Blk W ge 3 xs ∧ xs.length = m + 1
  rules : ∃ xs, Blk W gr 66 xs ∧ xs.length = (k + 1) * 3
  code : ∃ xs, Blk W gc 103 xs ∧ xs.length = (n + 1) * 4
  bel : Below B w W
  e0 : B ≤ ge
  r0 : B ≤ gr
  c0 : B ≤ gc

theorem blk_ne {w : World} {g g' t t' : Nat} {xs ys : List Value} (h : Blk w g t xs) (h' : Blk w g' t' ys) (ht : t ≠ t') : g ≠ g' := by
  intro e; subst e
  unfold Blk at h h'
  rw [h] at h'
  simp at h'
  exact ht h'.2

theorem Rows3.setE {B : Nat} {w W : World} {bx ge gr gc m k n : Nat} {X : List Value} (h : Rows3 B w W bx ge gr gc m k n X) (j : Nat) (u : Value) : Rows3 B w (W.setCell ⟨ge, j, none⟩ u) bx ge gr gc m k n X := by
  obtain ⟨xe, be, le⟩ := h.ents
  obtain ⟨xr, br, lr⟩ := h.rules
  obtain ⟨xc, bc, lc⟩ := h.code
  exact ⟨blk_other h.box (blk_ne h.box be (by decide)) _ _, ⟨_, blk_set be j u, by simpa using le⟩, ⟨_, blk_other br (blk_ne br be (by decide)) _ _, lr⟩, ⟨_, blk_other bc (blk_ne bc be (by decide)) _ _, lc⟩, h.bel.setCell h.e0 u, h.e0, h.r0, h.c0⟩
theorem Rows3.setR {B : Nat} {w W : World} {bx ge gr gc m k n : Nat} {X : List Value} (h : Rows3 B w W bx ge gr gc m k n X) (j : Nat) (u : Value) : Rows3 B w (W.setCell ⟨gr, j, none⟩ u) bx ge gr gc m k n X := by
  obtain ⟨xe, be, le⟩ := h.ents
  obtain ⟨xr, br, lr⟩ := h.rules
  obtain ⟨xc, bc, lc⟩ := h.code
  exact ⟨blk_other h.box (blk_ne h.box br (by decide)) _ _, ⟨_, blk_other be (blk_ne be br (by decide)) _ _, le⟩, ⟨_, blk_set br j u, by simpa using lr⟩, ⟨_, blk_other bc (blk_ne bc br (by decide)) _ _, lc⟩, h.bel.setCell h.r0 u, h.e0, h.r0, h.c0⟩
theorem Rows3.setC {B : Nat} {w W : World} {bx ge gr gc m k n : Nat} {X : List Value} (h : Rows3 B w W bx ge gr gc m k n X) (j : Nat) (u : Value) : Rows3 B w (W.setCell ⟨gc, j, none⟩ u) bx ge gr gc m k n X := by
  obtain ⟨xe, be, le⟩ := h.ents
  obtain ⟨xr, br, lr⟩ := h.rules
  obtain ⟨xc, bc, lc⟩ := h.code
  exact ⟨blk_other h.box (blk_ne h.box bc (by decide)) _ _, ⟨_, blk_other be (blk_ne be bc (by decide)) _ _, le⟩, ⟨_, blk_other br (blk_ne br bc (by decide)) _ _, lr⟩, ⟨_, blk_set bc j u, by simpa using lc⟩, h.bel.setCell h.c0 u, h.e0, h.r0, h.c0⟩

theorem blk_some {w : World} {g t : Nat} {xs : List Value} (h : Blk w g t xs) {j : Nat} (hj : j < xs.length) : ∃ u, w.cell? ⟨g, j, none⟩ = some u := ⟨xs[j], blk_cell h (by simp [hj])⟩

def RetNone (B : Nat) (w : World) (e : Ending) (w' : World) : Prop := e = .returned (.tuple #[]) ∧ Below B w w'

set_option maxRecDepth 100000 in
set_option maxHeartbeats 2000000 in
theorem blotted_any (B ge gr gc m k n : Nat) (w : World) (xe xr xc : List Value) (be : Blk w ge 3 xe) (br : Blk w gr 66 xr) (bc : Blk w gc 103 xc) (le : xe.length = m + 1) (lr : xr.length = (k + 1) * 3) (lc : xc.length = (n + 1) * 4)
    (e0 : B ≤ ge) (r0 : B ≤ gr) (c0 : B ≤ gc) (hB : B ≤ w.heap.size) (hm : m ≤ 1000000000000000) (hk : k ≤ 1000000000000000) (hn : n ≤ 1000000000000000) :
    Calls Try.prog 46 #[.agg #[.slice (some ⟨ge, 0, none⟩) m (m + 1), .slice (some ⟨gr, 0, none⟩) k (k + 1), .slice (some ⟨gc, 0, none⟩) n (n + 1)]] w (RetNone B w) := by
  have hr : Rows3 B w (w.alloc (.cells #[.slice (some ⟨ge, 0, none⟩) m (m + 1), .slice (some ⟨gr, 0, none⟩) k (k + 1), .slice (some ⟨gc, 0, none⟩) n (n + 1)] 26)) w.heap.size ge gr gc m k n [.slice (some ⟨ge, 0, none⟩) m (m + 1), .slice (some ⟨gr, 0, none⟩) k (k + 1), .slice (some ⟨gc, 0, none⟩) n (n + 1)] :=
    ⟨heap_alloc_new _ _, ⟨_, blk_alloc be _, le⟩, ⟨_, blk_alloc br _, lr⟩, ⟨_, blk_alloc bc _, lc⟩, (Below.refl _ _).alloc hB _, e0, r0, c0⟩
  have HR := hide hr
  clear hr be br bc le lr lc e0 r0 c0 hB
  go_enter Try.func46, Try.ntmps46
  go_wp2_with fail
  go_loopw [3] (fun i wr => ∃ j : Nat, j ≤ m + 1 ∧ i = .int .i64 j ∧ Rows3 B w wr w.heap.size ge gr gc m k n [.slice (some ⟨ge, 0, none⟩) m (m + 1), .slice (some ⟨gr, 0, none⟩) k (k + 1), .slice (some ⟨gc, 0, none⟩) n (n + 1)]) (fun i _ => m + 1 - (intOf i).toNat)
  case atStart => exact ⟨0, Nat.zero_le _, rfl, HR.out⟩
  case round =>
    clear HR
    obtain ⟨j, hj, rfl, hr⟩ := hrel
    by_cases hlt : j < m + 1
    · obtain ⟨xs, bs, ls⟩ := hr.ents
      obtain ⟨u, hu⟩ := blk_some bs (j := j) (by omega)
      have hf := blk_frozen bs j
      have HR := hide hr
      clear hr bs ls
      go_wp2
      go_roundw
      case rel => exact ⟨j + 1, by omega, by go_num, HR.out.setE j _⟩
      case measure => simp [intOf]; omega
    · have k1 := blk_cell (j := 1) hr.box rfl
      have HR := hide hr
      clear hr
      go_wp2_with fail
      clear k1
      go_loopw [5] (fun i wr => ∃ j : Nat, j ≤ k + 1 ∧ i = .int .i64 j ∧ Rows3 B w wr w.heap.size ge gr gc m k n [.slice (some ⟨ge, 0, none⟩) m (m + 1), .slice (some ⟨gr, 0, none⟩) k (k + 1), .slice (some ⟨gc, 0, none⟩) n (n + 1)]) (fun i _ => k + 1 - (intOf i).toNat)
      case atStart => exact ⟨0, Nat.zero_le _, rfl, HR.out⟩
      case round =>
        clear HR hlt hj
        obtain ⟨j, hj, rfl, hr⟩ := hrel
        by_cases hlt : j < k + 1
        · obtain ⟨xs, bs, ls⟩ := hr.rules
          obtain ⟨u0, hu0⟩ := blk_some bs (j := j * 3) (by omega)
          obtain ⟨u1, hu1⟩ := blk_some bs (j := j * 3 + 1) (by omega)
          obtain ⟨u2, hu2⟩ := blk_some bs (j := j * 3 + 2) (by omega)
          have hf0 := blk_frozen bs (j * 3)
          have hf1 := blk_frozen bs (j * 3 + 1)
          have hf2 := blk_frozen bs (j * 3 + 2)
          have HR := hide hr
          clear hr bs ls
          go_wp2
          go_roundw
          case rel => exact ⟨j + 1, by omega, by go_num, ((HR.out.setR _ _).setR _ _).setR _ _⟩
          case measure => simp [intOf]; omega
        · have k2 := blk_cell (j := 2) hr.box rfl
          have HR := hide hr
          clear hr
          go_wp2_with fail
          clear k2
          go_loopw [7] (fun i wr => ∃ j : Nat, j ≤ n + 1 ∧ i = .int .i64 j ∧ Rows3 B w wr w.heap.size ge gr gc m k n [.slice (some ⟨ge, 0, none⟩) m (m + 1), .slice (some ⟨gr, 0, none⟩) k (k + 1), .slice (some ⟨gc, 0, none⟩) n (n + 1)]) (fun i _ => n + 1 - (intOf i).toNat)
          case atStart => exact ⟨0, Nat.zero_le _, rfl, HR.out⟩
          case round =>
            clear HR hlt hj
            obtain ⟨j, hj, rfl, hr⟩ := hrel
            by_cases hlt : j < n + 1
            · obtain ⟨xs, bs, ls⟩ := hr.code
              obtain ⟨u0, hu0⟩ := blk_some bs (j := j * 4) (by omega)
              obtain ⟨u1, hu1⟩ := blk_some bs (j := j * 4 + 1) (by omega)
              obtain ⟨u2, hu2⟩ := blk_some bs (j := j * 4 + 2) (by omega)
              obtain ⟨u3, hu3⟩ := blk_some bs (j := j * 4 + 3) (by omega)
              have hf0 := blk_frozen bs (j * 4)
              have hf1 := blk_frozen bs (j * 4 + 1)
              have hf2 := blk_frozen bs (j * 4 + 2)
              have hf3 := blk_frozen bs (j * 4 + 3)
              have HR := hide hr
              clear hr bs ls
              go_wp2
              go_roundw
              case rel => exact ⟨j + 1, by omega, by go_num, (((HR.out.setC _ _).setC _ _).setC _ _).setC _ _⟩
              case measure => simp [intOf]; omega
            · have hbel := hr.bel
              clear hr
              go_wp2
              go_end0
              exact ⟨rfl, hbel⟩

end Go.Proofs.Ytmccnmgaoppogaa

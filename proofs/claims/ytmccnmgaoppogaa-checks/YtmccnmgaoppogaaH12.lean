/-
  The walks: the document's modes; a line under way. (weirref)
-/
import Derived.Test.YtmccnmgaoppogaaHC
import Derived.Test.YtmccnmgaoppogaaE24
namespace Go.Proofs.Ytmccnmgaoppogaa
open Go.RowKit

namespace Pure
def dm1 (modes m : Int) : Int := if modes ≤ m then m + 1 else modes
end Pure

set_option maxRecDepth 100000 in
set_option maxHeartbeats 4000000 in
theorem named_any (g i : Nat) (s : ByteArray) (vn vl : Value) (modes down : Int) (w : World) (h : Db w g s i vn vl modes down) (hs : s.size ≤ 1000) (hL : Pure.Letter (Pure.pkb s i)) :
    Calls Try.prog 137 #[.pointer (some ⟨g, 0, none⟩)] w (RetDb (.int .i64 (Pure.pkb s i - 97)) g s (i + 1) vn vl (Pure.dm1 modes (Pure.pkb s i - 97)) down w) := by
  have i1 : i < s.size := Pure.pkb_lt (s := s) (i := i) (by unfold Pure.Letter at hL; omega)
  have x0 := fun w => idx_str s (i : Int) i rfl (by omega) w
  rw [← Pure.pkb_bt i1] at x0
  have j0 : (0 : Int) ≤ (i : Int) := by omega
  have j1 : (i : Int) < (s.size : Int) := by omega
  have wi : IntKind.i64.wrap ((i : Int) + 1) = (i : Int) + 1 := wrap_in _ (by omega) (by omega)
  unfold Pure.Letter at hL
  have c4 := blk_cell (j := 4) h rfl
  have c5 := blk_cell (j := 5) h rfl
  have H0 := hide h
  clear h
  generalize Pure.pkb s i = b at *
  obtain ⟨m, hm⟩ : ∃ m : Int, b = m + 97 := ⟨b - 97, by omega⟩
  subst hm
  have wu : IntKind.u8.wrap (m + 97 - 97) = m := by
    rw [show m + 97 - 97 = m by omega]
    unfold IntKind.wrap
    simp [IntKind.bits, IntKind.signed]
    omega
  have em : m + 97 - 97 = m := by omega
  rw [em]
  have wm : IntKind.i64.wrap (m + 1) = m + 1 := wrap_in _ (by omega) (by omega)
  have wm0 : IntKind.i64.wrap m = m := wrap_in _ (by omega) (by omega)
  go_enter Try.func137, Try.ntmps137
  go_wp2_with fail
  go_quiet (fail)
  have dn := below_drewN (Below.refl w.heap.size w) nq
  have H1 := hide (H0.out.below dn)
  have G1 := hide (grown_bel (some g) dn)
  clear dn c4 c5 H0 x0
  generalize w.drewN nq = W1 at *
  have c5 := blk_cell (j := 5) H1.out rfl
  have f5 := blk_frozen H1.out 5
  have H2 : Hid (Db (W1.setCell ⟨g, 5, none⟩ (.int .i64 ((i : Int) + 1))) g s (i + 1) vn vl modes down) := H1.out.at (i + 1)
  have G2 := hide (G1.out.trans (Lib.grownBy_setCell W1 g 5 (.int .i64 ((i : Int) + 1))))
  go_upto_region 3 with (fail)
  clear c5 f5 H1 G1
  generalize W1.setCell ⟨g, 5, none⟩ (.int .i64 ((i : Int) + 1)) = W2 at *
  have c0 := blk_cell (j := 0) H2.out rfl
  have f0 := blk_frozen H2.out 0
  by_cases hc : modes ≤ m
  · have d1 : decide (modes ≤ m) = true := decide_eq_true hc
    have R : Hid (Pure.dm1 modes m = m + 1) := by show _ = _; unfold Pure.dm1; rw [if_pos hc]
    have H3 := hide (H2.out.mode (m + 1))
    go_wp2
    go_ret
    exact ⟨rfl, G2.out.trans (Lib.grownBy_setCell _ g 0 _), by rw [R.out]; exact H3.out⟩
  · have d1 : decide (modes ≤ m) = false := decide_eq_false hc
    have R : Hid (Pure.dm1 modes m = modes) := by show _ = _; unfold Pure.dm1; rw [if_neg hc]
    go_wp2
    go_ret
    exact ⟨rfl, G2.out, by rw [R.out]; exact H2.out⟩

/-- a line of the document's -/
structure DLn where
  mode : Int
  emit : Int
  act : Int
  md : Int
  root : Int
def dlC1 (x : DLn) : List Value := [.int .i64 x.mode, .int .i64 x.emit, .int .i64 x.act, .int .i64 x.md, .int .i64 x.root]
def dlC (ls : List DLn) : List Value := ls.flatMap dlC1
theorem dlC_append (a b : List DLn) : dlC (a ++ b) = dlC a ++ dlC b := by simp [dlC]
theorem dlC_one (x : DLn) : dlC [x] = dlC1 x := by simp [dlC]
theorem dlC_get {ls : List DLn} {p j : Nat} {x : DLn} (hp : ls[p]? = some x) (hj : j < 5) : (dlC ls)[p * 5 + j]? = (dlC1 x)[j]? := by
  induction ls generalizing p with
  | nil => simp at hp
  | cons z r ih =>
    show (dlC1 z ++ dlC r)[_]? = _
    have hz : (dlC1 z).length = 5 := rfl
    cases p with
    | zero =>
      rw [List.getElem?_cons_zero] at hp
      cases hp
      rw [Nat.zero_mul, Nat.zero_add, List.getElem?_append_left (by omega)]
    | succ p =>
      rw [List.getElem?_cons_succ] at hp
      rw [List.getElem?_append_right (by omega), hz, show (p + 1) * 5 + j - 5 = p * 5 + j by omega]
      exact ih hp
theorem dlC1_ones (x : DLn) : ∀ u ∈ dlC1 x, u.oneCell' = true := by
  intro u hu
  simp [dlC1] at hu
  rcases hu with rfl | rfl | rfl | rfl | rfl <;> rfl
theorem dline_info : (Try.prog.info? 141).map (fun i => (i.zero, i.size, i.bytes)) = some (some (.agg (dlC1 ⟨0, 0, 0, 0, 0⟩).toArray), 5, 40) := by kernel_rfl

/-- a line under way: it lies at gx -/
structure LD (B g : Nat) (s : ByteArray) (j : Nat) (ns : List Pure.Nd) (al : Option Addr) (cl : Nat) (ls : List DLn) (modes down : Int) (w : World) (gx : Nat) (x : DLn) (W : World) : Prop where
  dr : ∃ vn, Dr B g s j ns vn (.slice al ls.length cl) modes down W
  be : Below B w W
  x : Blk W gx 141 (dlC1 x)
  row : W.ownsRow B 141 5 (.slice al ls.length cl) ls.length (dlC ls)
  ap : w.heap.size ≤ gx ∧ B ≤ w.heap.size ∧ some gx ≠ (Value.slice al ls.length cl).ownBlock
section
variable {B g : Nat} {s : ByteArray} {j j' : Nat} {ns ns' : List Pure.Nd} {al : Option Addr} {cl : Nat} {ls : List DLn} {modes down modes' down' : Int} {w : World} {gx : Nat} {x x' : DLn} {W W' : World} {vn : Value}
theorem LD.below (h : LD B g s j ns al cl ls modes down w gx x W) (hb : Below W.heap.size W W') : LD B g s j ns al cl ls modes down w gx x W' := by
  obtain ⟨vn, dr⟩ := h.dr
  exact ⟨⟨vn, dr.below hb⟩, h.be.trans (hb.mono dr.lt), blk_below h.x hb (blk_lt h.x), own_below h.row hb (Nat.le_refl _), h.ap⟩
theorem LD.on (h : LD B g s j ns al cl ls modes down w gx x W) (hk : Dk B W W') (hd : Dr B g s j' ns' vn (.slice al ls.length cl) modes' down' W') : LD B g s j' ns' al cl ls modes' down' w gx x W' :=
  ⟨⟨vn, hd⟩, h.be.trans hk.lo, hk.blk h.x (by decide) (by decide), hk.rows h.row (by decide) (by decide), h.ap⟩
theorem LD.moved (h : LD B g s j ns al cl ls modes down w gx x W) (hd0 : Dr B g s j ns vn (.slice al ls.length cl) modes down W) (hg : W.grownBy W' (some g)) (hr : Db W' g s j' vn (.slice al ls.length cl) modes' down') : LD B g s j' ns al cl ls modes' down' w gx x W' := h.on (hd0.dk hg) (hd0.moved hg hr)
theorem LD.put (h : LD B g s j ns al cl ls modes down w gx x W) (k : Nat) (u : Value) (e : (dlC1 x).set k u = dlC1 x') : LD B g s j ns al cl ls modes down w gx x' (W.setCell ⟨gx, k, none⟩ u) := by
  obtain ⟨vn, dr⟩ := h.dr
  have hg := Lib.grownBy_setCell W gx k u
  have hx := blk_set h.x k u
  rw [e] at hx
  exact ⟨⟨vn, blk_other dr.rb (blk_ne2 dr.rb h.x (by decide)) _ _, dr.up, row_apart dr.own h.x (by decide) hg⟩, h.be.grown hg (Nat.le_trans h.ap.2.1 (by have := h.be.size; exact this)) (fun k' e' => by cases e'; exact Nat.le_trans h.ap.2.1 h.ap.1), hx, row_keep h.row h.ap.2.2 hg, h.ap⟩
end

end Go.Proofs.Ytmccnmgaoppogaa

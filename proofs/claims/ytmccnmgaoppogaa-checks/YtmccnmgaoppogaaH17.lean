/-
  The walks: does the document's pattern match the empty word? (weirref)
-/
import Derived.Test.YtmccnmgaoppogaaHD
namespace Go.Proofs.Ytmccnmgaoppogaa
open Go.RowKit

/-- a node that is looked at -/
theorem Dr.get {B g i : Nat} {s : ByteArray} {ns : List Pure.Nd} {vn vl : Value} {modes down : Int} {W : World} (h : Dr B g s i ns vn vl modes down W) {p : Nat} {x : Pure.Nd} (hp : ns[p]? = some x) :
    ∃ gn cap, vn = .slice (some ⟨gn, 0, none⟩) ns.length cap ∧ W.rangeAt gn (p * 259) (ndC1 x) := by
  have hl : p < ns.length := (List.getElem?_eq_some_iff.1 hp).1
  obtain ⟨gn, cap, e, _, _⟩ := own_some h.own (by omega)
  subst e
  refine ⟨gn, cap, rfl, ?_⟩
  intro j u hu
  have hj : j < 259 := by have := (List.getElem?_eq_some_iff.1 hu).1; rw [ndC1_length] at this; exact this
  have := ndC_get hp hj
  rw [hu] at this
  exact own_cell h.own this

namespace Pure
theorem At.two {ns : List Nd} {a b : Re} {m : Nat} {x : Nd} (h : ∀ i y, (nodes a m ++ nodes b (m + a.size) ++ [x])[i]? = some y → ns[m + i]? = some y) : At ns a m ∧ At ns b (m + a.size) ∧ ns[m + a.size + b.size]? = some x := by
  refine ⟨At.left h, At.right (nodes_length a m) h, ?_⟩
  have := h (a.size + b.size) x (by rw [List.getElem?_append_right (by simp [nodes_length])]; simp [nodes_length])
  rwa [← Nat.add_assoc] at this
theorem At.one {ns : List Nd} {a : Re} {m : Nat} {x : Nd} (h : ∀ i y, (nodes a m ++ [x])[i]? = some y → ns[m + i]? = some y) : At ns a m ∧ ns[m + a.size]? = some x := by
  refine ⟨fun i y hy => h i y (by rw [List.getElem?_append_left (List.getElem?_eq_some_iff.1 hy).1]; exact hy), ?_⟩
  exact h a.size x (by rw [List.getElem?_append_right (by simp [nodes_length])]; simp [nodes_length])
end Pure

/-- a node that is copied -/
def nodeW (w : World) (x : Pure.Nd) : World := (w.alloc (.cells ndZ.toArray 192)).setCells w.heap.size 0 (ndC1 x)
theorem nodeW_below (w : World) (x : Pure.Nd) : Below w.heap.size w (nodeW w x) := below_cells (g := w.heap.size) (Nat.le_refl _) _ 0 _ ((Below.refl w.heap.size w).alloc (Nat.le_refl _) _)
theorem nodeW_blk (w : World) (x : Pure.Nd) : Blk (nodeW w x) w.heap.size 192 (ndC1 x) := by
  have x0 : Blk (w.alloc (.cells ndZ.toArray 192)) w.heap.size 192 ndZ := heap_alloc_new _ _
  exact blk_stored _ x0 (by rw [ndZ_length, ndC1_length])

set_option maxRecDepth 100000 in
set_option maxHeartbeats 4000000 in
theorem empty_any (B g i : Nat) (s : ByteArray) (ns : List Pure.Nd) (vn vl : Value) (modes down : Int) (_hn : ns.length ≤ 100000) (re : Pure.Re) : ∀ (m : Nat) (w : World), Dr B g s i ns vn vl modes down w → Pure.At ns re m →
    Calls Try.prog 66 #[.pointer (some ⟨g, 0, none⟩), .int .i64 ((m + re.size - 1 : Nat) : Int)] w (RetVal (.bool re.empt) w) := by
  induction re with
  | pl T =>
    intro m w hd hat
    have hx : ns[m]? = some ⟨1, 0, 0, T⟩ := hat 0 _ rfl
    obtain ⟨gn, cap, rfl, hr⟩ := hd.get hx
    have hm : m < ns.length := (List.getElem?_eq_some_iff.1 hx).1
    rw [show m + (Pure.Re.pl T).size - 1 = m by simp only [Pure.Re.size]; omega]
    generalize hp : m = p at *
    have i0 : (0 : Int) ≤ (p : Int) := by omega
    have i1 : (p : Int) < (ns.length : Int) := by omega
    have c1 := blk_cell (j := 1) hd.rb rfl
    have zv := node_zeroV
    have HR := hide hr
    have B1 := hide (nodeW_below w ⟨1, 0, 0, T⟩)
    have BX := hide (nodeW_blk w ⟨1, 0, 0, T⟩)
    have D1 := hide (hd.below B1.out)
    clear hr hd hx hat hp
    go_enter Try.func66, Try.ntmps66
    go_upto_region 2 with (first | (refine wpList_load_mid rfl 192 (.tmp 15) rfl gn (p * 259) rfl _ _ HR.out Try.underlying192 rfl node_size ?_) | (refine wpList_store_mid rfl 192 (.tmp 5) (.tmp 16) rfl w.heap.size 0 (ndC1 ⟨1, 0, 0, T⟩).toArray rfl rfl (ndZ_there _) (ndC1_sz _) (all_oneCell_toArray (ndC1_ones _)) ?_))
    clear c1 zv HR
    rw [show (w.alloc (.cells ndZ.toArray 192)).setCells w.heap.size 0 (ndC1 ⟨1, 0, 0, T⟩) = nodeW w ⟨1, 0, 0, T⟩ from rfl]
    generalize nodeW w ⟨1, 0, 0, T⟩ = W1 at *
    have y0 := blk_cell (j := 0) BX.out rfl
    have y1 := blk_cell (j := 1) BX.out rfl
    have y2 := blk_cell (j := 2) BX.out rfl
    have L1 := blk_lt BX.out

    go_wp2
    go_ret
    exact ⟨rfl, B1.out⟩
  | cat a b iha ihb =>
    intro m w hd hat
    obtain ⟨ha, hb, hx⟩ := Pure.At.two hat
    have CA := hide (fun W d => iha m W d ha)
    have CB := hide (fun W d => ihb (m + a.size) W d hb)
    clear iha ihb ha hb
    obtain ⟨gn, cap, rfl, hr⟩ := hd.get hx
    have hm : m + a.size + b.size < ns.length := (List.getElem?_eq_some_iff.1 hx).1
    rw [show m + (Pure.Re.cat a b).size - 1 = m + a.size + b.size by simp only [Pure.Re.size]; omega]
    generalize Pure.noneB = T at *
    generalize m + a.size + b.size - 1 = pb at *
    generalize m + a.size - 1 = pa at *
    generalize hp : m + a.size + b.size = p at *
    have i0 : (0 : Int) ≤ (p : Int) := by omega
    have i1 : (p : Int) < (ns.length : Int) := by omega
    have c1 := blk_cell (j := 1) hd.rb rfl
    have zv := node_zeroV
    have HR := hide hr
    have B1 := hide (nodeW_below w ⟨2, pa, pb, T⟩)
    have BX := hide (nodeW_blk w ⟨2, pa, pb, T⟩)
    have D1 := hide (hd.below B1.out)
    clear hr hd hx hat hp
    go_enter Try.func66, Try.ntmps66
    go_upto_region 2 with (first | (refine wpList_load_mid rfl 192 (.tmp 15) rfl gn (p * 259) rfl _ _ HR.out Try.underlying192 rfl node_size ?_) | (refine wpList_store_mid rfl 192 (.tmp 5) (.tmp 16) rfl w.heap.size 0 (ndC1 ⟨2, pa, pb, T⟩).toArray rfl rfl (ndZ_there _) (ndC1_sz _) (all_oneCell_toArray (ndC1_ones _)) ?_))
    clear c1 zv HR
    rw [show (w.alloc (.cells ndZ.toArray 192)).setCells w.heap.size 0 (ndC1 ⟨2, pa, pb, T⟩) = nodeW w ⟨2, pa, pb, T⟩ from rfl]
    generalize nodeW w ⟨2, pa, pb, T⟩ = W1 at *
    have y0 := blk_cell (j := 0) BX.out rfl
    have y1 := blk_cell (j := 1) BX.out rfl
    have y2 := blk_cell (j := 2) BX.out rfl
    have L1 := blk_lt BX.out

    go_wp2_with fail
    refine (CA.out _ D1.out).mono ?_
    clear CA
    rintro e w2 ⟨rfl, hb2⟩
    have y2' := blk_cell (j := 2) (blk_below BX.out hb2 L1) rfl
    have D2 := hide (D1.out.below hb2)
    have B2 := hide (B1.out.trans (hb2.mono B1.out.size))
    clear hb2 y0 y1 y2 D1 B1 BX
    go_wp2_with fail
    refine (CB.out _ D2.out).mono ?_
    clear CB
    rintro e w3 ⟨rfl, hb3⟩
    have B3 := hide (B2.out.trans (hb3.mono B2.out.size))
    clear hb3 y2' D2 B2
    have R : Hid ((Pure.Re.cat a b).empt = (a.empt && b.empt)) := rfl
    cases ea : a.empt with
    | true =>
      go_wp2
      go_ret
      exact ⟨by rw [R.out, ea]; rfl, B3.out⟩
    | false =>
      go_wp2
      go_ret
      exact ⟨by rw [R.out, ea]; rfl, B3.out⟩
  | alt a b iha ihb =>
    intro m w hd hat
    obtain ⟨ha, hb, hx⟩ := Pure.At.two hat
    have CA := hide (fun W d => iha m W d ha)
    have CB := hide (fun W d => ihb (m + a.size) W d hb)
    clear iha ihb ha hb
    obtain ⟨gn, cap, rfl, hr⟩ := hd.get hx
    have hm : m + a.size + b.size < ns.length := (List.getElem?_eq_some_iff.1 hx).1
    rw [show m + (Pure.Re.alt a b).size - 1 = m + a.size + b.size by simp only [Pure.Re.size]; omega]
    generalize Pure.noneB = T at *
    generalize m + a.size + b.size - 1 = pb at *
    generalize m + a.size - 1 = pa at *
    generalize hp : m + a.size + b.size = p at *
    have i0 : (0 : Int) ≤ (p : Int) := by omega
    have i1 : (p : Int) < (ns.length : Int) := by omega
    have c1 := blk_cell (j := 1) hd.rb rfl
    have zv := node_zeroV
    have HR := hide hr
    have B1 := hide (nodeW_below w ⟨3, pa, pb, T⟩)
    have BX := hide (nodeW_blk w ⟨3, pa, pb, T⟩)
    have D1 := hide (hd.below B1.out)
    clear hr hd hx hat hp
    go_enter Try.func66, Try.ntmps66
    go_upto_region 2 with (first | (refine wpList_load_mid rfl 192 (.tmp 15) rfl gn (p * 259) rfl _ _ HR.out Try.underlying192 rfl node_size ?_) | (refine wpList_store_mid rfl 192 (.tmp 5) (.tmp 16) rfl w.heap.size 0 (ndC1 ⟨3, pa, pb, T⟩).toArray rfl rfl (ndZ_there _) (ndC1_sz _) (all_oneCell_toArray (ndC1_ones _)) ?_))
    clear c1 zv HR
    rw [show (w.alloc (.cells ndZ.toArray 192)).setCells w.heap.size 0 (ndC1 ⟨3, pa, pb, T⟩) = nodeW w ⟨3, pa, pb, T⟩ from rfl]
    generalize nodeW w ⟨3, pa, pb, T⟩ = W1 at *
    have y0 := blk_cell (j := 0) BX.out rfl
    have y1 := blk_cell (j := 1) BX.out rfl
    have y2 := blk_cell (j := 2) BX.out rfl
    have L1 := blk_lt BX.out

    go_wp2_with fail
    refine (CA.out _ D1.out).mono ?_
    clear CA
    rintro e w2 ⟨rfl, hb2⟩
    have y2' := blk_cell (j := 2) (blk_below BX.out hb2 L1) rfl
    have D2 := hide (D1.out.below hb2)
    have B2 := hide (B1.out.trans (hb2.mono B1.out.size))
    clear hb2 y0 y1 y2 D1 B1 BX
    go_wp2_with fail
    refine (CB.out _ D2.out).mono ?_
    clear CB
    rintro e w3 ⟨rfl, hb3⟩
    have B3 := hide (B2.out.trans (hb3.mono B2.out.size))
    clear hb3 y2' D2 B2
    have R : Hid ((Pure.Re.alt a b).empt = (a.empt || b.empt)) := rfl
    cases ea : a.empt with
    | true =>
      go_wp2
      go_ret
      exact ⟨by rw [R.out, ea]; rfl, B3.out⟩
    | false =>
      go_wp2
      go_ret
      exact ⟨by rw [R.out, ea]; rfl, B3.out⟩
  | star a ih =>
    intro m w hd hat
    obtain ⟨ha, hx⟩ := Pure.At.one hat
    have CA := hide (fun W d => ih m W d ha)
    clear ih ha
    obtain ⟨gn, cap, rfl, hr⟩ := hd.get hx
    have hm : m + a.size < ns.length := (List.getElem?_eq_some_iff.1 hx).1
    rw [show m + (Pure.Re.star a).size - 1 = m + a.size by simp only [Pure.Re.size]; omega]
    generalize Pure.noneB = T at *
    generalize m + a.size - 1 = pa at *
    generalize hp : m + a.size = p at *
    have i0 : (0 : Int) ≤ (p : Int) := by omega
    have i1 : (p : Int) < (ns.length : Int) := by omega
    have c1 := blk_cell (j := 1) hd.rb rfl
    have zv := node_zeroV
    have HR := hide hr
    have B1 := hide (nodeW_below w ⟨4, pa, 0, T⟩)
    have BX := hide (nodeW_blk w ⟨4, pa, 0, T⟩)
    have D1 := hide (hd.below B1.out)
    clear hr hd hx hat hp
    go_enter Try.func66, Try.ntmps66
    go_upto_region 2 with (first | (refine wpList_load_mid rfl 192 (.tmp 15) rfl gn (p * 259) rfl _ _ HR.out Try.underlying192 rfl node_size ?_) | (refine wpList_store_mid rfl 192 (.tmp 5) (.tmp 16) rfl w.heap.size 0 (ndC1 ⟨4, pa, 0, T⟩).toArray rfl rfl (ndZ_there _) (ndC1_sz _) (all_oneCell_toArray (ndC1_ones _)) ?_))
    clear c1 zv HR
    rw [show (w.alloc (.cells ndZ.toArray 192)).setCells w.heap.size 0 (ndC1 ⟨4, pa, 0, T⟩) = nodeW w ⟨4, pa, 0, T⟩ from rfl]
    generalize nodeW w ⟨4, pa, 0, T⟩ = W1 at *
    have y0 := blk_cell (j := 0) BX.out rfl
    have y1 := blk_cell (j := 1) BX.out rfl
    have y2 := blk_cell (j := 2) BX.out rfl
    have L1 := blk_lt BX.out

    clear CA
    go_wp2
    go_ret
    exact ⟨rfl, B1.out⟩
  | plus a ih =>
    intro m w hd hat
    obtain ⟨ha, hx⟩ := Pure.At.one hat
    have CA := hide (fun W d => ih m W d ha)
    clear ih ha
    obtain ⟨gn, cap, rfl, hr⟩ := hd.get hx
    have hm : m + a.size < ns.length := (List.getElem?_eq_some_iff.1 hx).1
    rw [show m + (Pure.Re.plus a).size - 1 = m + a.size by simp only [Pure.Re.size]; omega]
    generalize Pure.noneB = T at *
    generalize m + a.size - 1 = pa at *
    generalize hp : m + a.size = p at *
    have i0 : (0 : Int) ≤ (p : Int) := by omega
    have i1 : (p : Int) < (ns.length : Int) := by omega
    have c1 := blk_cell (j := 1) hd.rb rfl
    have zv := node_zeroV
    have HR := hide hr
    have B1 := hide (nodeW_below w ⟨5, pa, 0, T⟩)
    have BX := hide (nodeW_blk w ⟨5, pa, 0, T⟩)
    have D1 := hide (hd.below B1.out)
    clear hr hd hx hat hp
    go_enter Try.func66, Try.ntmps66
    go_upto_region 2 with (first | (refine wpList_load_mid rfl 192 (.tmp 15) rfl gn (p * 259) rfl _ _ HR.out Try.underlying192 rfl node_size ?_) | (refine wpList_store_mid rfl 192 (.tmp 5) (.tmp 16) rfl w.heap.size 0 (ndC1 ⟨5, pa, 0, T⟩).toArray rfl rfl (ndZ_there _) (ndC1_sz _) (all_oneCell_toArray (ndC1_ones _)) ?_))
    clear c1 zv HR
    rw [show (w.alloc (.cells ndZ.toArray 192)).setCells w.heap.size 0 (ndC1 ⟨5, pa, 0, T⟩) = nodeW w ⟨5, pa, 0, T⟩ from rfl]
    generalize nodeW w ⟨5, pa, 0, T⟩ = W1 at *
    have y0 := blk_cell (j := 0) BX.out rfl
    have y1 := blk_cell (j := 1) BX.out rfl
    have y2 := blk_cell (j := 2) BX.out rfl
    have L1 := blk_lt BX.out

    go_wp2_with fail
    refine (CA.out _ D1.out).mono ?_
    clear CA
    rintro e w2 ⟨rfl, hb2⟩
    have B2 := hide (B1.out.trans (hb2.mono B1.out.size))
    have R : Hid ((Pure.Re.plus a).empt = a.empt) := rfl
    generalize a.empt = ae at *
    clear hb2 y0 y1 y2 D1 B1 BX
    go_wp2
    go_ret
    exact ⟨by rw [R.out]; rfl, B2.out⟩
  | opt a ih =>
    intro m w hd hat
    obtain ⟨ha, hx⟩ := Pure.At.one hat
    have CA := hide (fun W d => ih m W d ha)
    clear ih ha
    obtain ⟨gn, cap, rfl, hr⟩ := hd.get hx
    have hm : m + a.size < ns.length := (List.getElem?_eq_some_iff.1 hx).1
    rw [show m + (Pure.Re.opt a).size - 1 = m + a.size by simp only [Pure.Re.size]; omega]
    generalize Pure.noneB = T at *
    generalize m + a.size - 1 = pa at *
    generalize hp : m + a.size = p at *
    have i0 : (0 : Int) ≤ (p : Int) := by omega
    have i1 : (p : Int) < (ns.length : Int) := by omega
    have c1 := blk_cell (j := 1) hd.rb rfl
    have zv := node_zeroV
    have HR := hide hr
    have B1 := hide (nodeW_below w ⟨6, pa, 0, T⟩)
    have BX := hide (nodeW_blk w ⟨6, pa, 0, T⟩)
    have D1 := hide (hd.below B1.out)
    clear hr hd hx hat hp
    go_enter Try.func66, Try.ntmps66
    go_upto_region 2 with (first | (refine wpList_load_mid rfl 192 (.tmp 15) rfl gn (p * 259) rfl _ _ HR.out Try.underlying192 rfl node_size ?_) | (refine wpList_store_mid rfl 192 (.tmp 5) (.tmp 16) rfl w.heap.size 0 (ndC1 ⟨6, pa, 0, T⟩).toArray rfl rfl (ndZ_there _) (ndC1_sz _) (all_oneCell_toArray (ndC1_ones _)) ?_))
    clear c1 zv HR
    rw [show (w.alloc (.cells ndZ.toArray 192)).setCells w.heap.size 0 (ndC1 ⟨6, pa, 0, T⟩) = nodeW w ⟨6, pa, 0, T⟩ from rfl]
    generalize nodeW w ⟨6, pa, 0, T⟩ = W1 at *
    have y0 := blk_cell (j := 0) BX.out rfl
    have y1 := blk_cell (j := 1) BX.out rfl
    have y2 := blk_cell (j := 2) BX.out rfl
    have L1 := blk_lt BX.out

    clear CA
    go_wp2
    go_ret
    exact ⟨rfl, B1.out⟩

end Go.Proofs.Ytmccnmgaoppogaa

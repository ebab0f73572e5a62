/-
  The walks: marks of a part of the document's pattern: a leaf. (weirref)
-/
import Derived.Test.YtmccnmgaoppogaaH18
namespace Go.Proofs.Ytmccnmgaoppogaa
open Go.RowKit

section
variable {gs : List Nat} {w w' : World} {gg gr gf cap n : Nat} {fo : Nat → Nat → Bool}
theorem Gf.notin {g t : Nat} {xs : List Value} (h : Gf w gg gr gf cap n gs fo) (hb : Blk w g t xs) (ht : t ≠ 4) : g ∉ gs := by
  intro hg
  obtain ⟨i, hi⟩ := List.getElem?_of_mem hg
  exact blk_ne2 hb (h.row i g hi) ht rfl
theorem Gf.up (h : Gf w gg gr gf cap n gs fo) : ∀ g ∈ gs, g < w.heap.size := by
  intro g hg
  obtain ⟨i, hi⟩ := List.getElem?_of_mem hg
  exact blk_lt (h.row i g hi)
theorem Gk.rows {B t size m : Nat} {v : Value} {xs : List Value} (hk : Gk gs w w') (h : Gf w gg gr gf cap n gs fo) (hn : w.ownsRow B t size v m xs) (ht : t ≠ 4) : w'.ownsRow B t size v m xs := by
  refine ⟨hn.1, ?_⟩
  rcases hn.2 with h0 | ⟨g, cap, cur, h3, h4, h5, h6⟩
  · exact .inl h0
  · refine .inr ⟨g, cap, cur, h3, h4, ?_, h6⟩
    have hl := (Array.getElem?_eq_some_iff.1 h5).1
    rw [hk.block g hl (fun hg => by
      obtain ⟨i, hi⟩ := List.getElem?_of_mem hg
      have := h.row i g hi
      unfold Bl Blk at this
      rw [this] at h5
      cases h5
      exact ht rfl)]
    exact h5
theorem Gk.dr {B g i : Nat} {s : ByteArray} {ns : List Pure.Nd} {vn vl : Value} {modes down : Int} (hk : Gk gs w w') (h : Gf w gg gr gf cap n gs fo) (hd : Dr B g s i ns vn vl modes down w) : Dr B g s i ns vn vl modes down w' :=
  ⟨hk.blk hd.rb (h.notin hd.rb (by decide)), hd.up, hk.rows h hd.own (by decide)⟩
end

/-- marks, as they lie in memory -/
def mkC (e : Bool) (v1 v2 : Value) : List Value := [.bool e, v1, v2]
abbrev rowV (g n : Nat) : Value := .slice (some ⟨g, 0, none⟩) n n

/-- while marks are made: the result lies at r, the node at gx -/
structure MF (B g i : Nat) (s : ByteArray) (ns : List Pure.Nd) (vn vl : Value) (modes down : Int) (gg gf cap : Nat) (gs : List Nat) (fo : Nat → Nat → Bool) (x : Pure.Nd) (r gx : Nat) (w W : World) : Prop where
  dr : Dr B g s i ns vn vl modes down W
  gf : Gf W gg g gf cap ns.length gs fo
  gk : Gk gs w W
  r0 : Blk W r 199 (mkC false (.slice none 0 0) (.slice none 0 0))
  nd : Blk W gx 192 (ndC1 x)
  up : ∀ g ∈ gs, g < w.heap.size
  lr : w.heap.size ≤ r
section
variable {B g i : Nat} {s : ByteArray} {ns : List Pure.Nd} {vn vl : Value} {modes down : Int} {gg gf cap : Nat} {gs : List Nat} {fo fo' : Nat → Nat → Bool} {x : Pure.Nd} {r gx : Nat} {w W W' : World}
theorem MF.below (h : MF B g i s ns vn vl modes down gg gf cap gs fo x r gx w W) (hb : Below W.heap.size W W') : MF B g i s ns vn vl modes down gg gf cap gs fo x r gx w W' :=
  ⟨h.dr.below hb, h.gf.below hb, h.gk.trans (.below hb), blk_below h.r0 hb (blk_lt h.r0), blk_below h.nd hb (blk_lt h.nd), h.up, h.lr⟩
theorem MF.on (h : MF B g i s ns vn vl modes down gg gf cap gs fo x r gx w W) (hk : Gk gs W W') (hf : Gf W' gg g gf cap ns.length gs fo') : MF B g i s ns vn vl modes down gg gf cap gs fo' x r gx w W' :=
  ⟨hk.dr h.gf h.dr, hf, h.gk.trans hk, hk.blk h.r0 (h.gf.notin h.r0 (by decide)), hk.blk h.nd (h.gf.notin h.nd (by decide)), h.up, h.lr⟩
def mk0 (w : World) : World := w.alloc (.cells #[.bool false, .slice none 0 0, .slice none 0 0] 199)
theorem mk0_below (w : World) : Below w.heap.size w (mk0 w) := (Below.refl _ _).alloc (Nat.le_refl _) _
theorem MF.new (hd : Dr B g s i ns vn vl modes down w) (hf : Gf w gg g gf cap ns.length gs fo) (x : Pure.Nd) : MF B g i s ns vn vl modes down gg gf cap gs fo x w.heap.size (mk0 w).heap.size w (nodeW (mk0 w) x) := by
  have b2 := nodeW_below (mk0 w) x
  have b := (mk0_below w).trans (b2.mono (mk0_below w).size)
  have r : Blk (mk0 w) w.heap.size 199 (mkC false (.slice none 0 0) (.slice none 0 0)) := heap_alloc_new _ _
  exact ⟨hd.below b, hf.below b, .below b, blk_below r b2 (blk_lt r), nodeW_blk (mk0 w) x, hf.up, Nat.le_refl _⟩
end

/-- marks come back -/
def RetMk (e0 : Bool) (f1 f2 : Nat → Bool) (gg gr gf cap n : Nat) (gs : List Nat) (fo : Nat → Nat → Bool) (w : World) (e : Ending) (w' : World) : Prop :=
  ∃ ga gb, e = .returned (.agg #[.bool e0, rowV ga n, rowV gb n]) ∧ Gk gs w w' ∧ Gf w' gg gr gf cap n gs fo ∧ w.heap.size ≤ ga ∧ w.heap.size ≤ gb ∧ Bl w' ga n f1 ∧ Bl w' gb n f2
theorem marks_info : (Try.prog.info? 199).map (fun i => (i.zero, i.size)) = some (some (.agg (mkC false (.slice none 0 0) (.slice none 0 0)).toArray), 3) := by kernel_rfl

theorem marks_load {W : World} {g : Nat} {a b c : Value} (h : Blk W g 199 [a, b, c]) : (loadVar 199 ⟨g, 0, none⟩).run Try.prog W = .ok (.agg #[a, b, c]) W :=
  run_loadVar_mid W g 0 199 [a, b, c] _ (blk_range h) Try.underlying199 rfl (by kernel_rfl)
section
variable {gs : List Nat} {w W W' : World} {gg gr gf cap n : Nat} {fo : Nat → Nat → Bool}
theorem Gk.grownN {g : Nat} (h : Gk gs w W) (hg : W.grownBy W' (some g)) (hl : w.heap.size ≤ g) : Gk gs w W' :=
  ⟨hg.os.trans h.os, hg.tape.trans h.tape, hg.output.trans h.output, Nat.le_trans h.size hg.size, fun k hk hn => (hg.block k (Nat.lt_of_lt_of_le hk h.size) (fun e => by cases e; omega)).trans (h.block k hk hn)⟩
theorem Gf.out {g t : Nat} {xs : List Value} (h : Gf W gg gr gf cap n gs fo) (hb : Blk W g t xs) (ht : t ≠ 197) (ht2 : t ≠ 148) (hg : W.grownBy W' (some g)) (hn : g ∉ gs) : Gf W' gg gr gf cap n gs fo :=
  ⟨blk_grown h.b hg (fun e => by cases e; exact blk_ne2 h.b hb (fun e => ht e.symm) rfl), row_apart h.own hb ht2 hg, h.len, fun i g' e => blk_grown (h.row i g' e) hg (fun e' => by cases e'; exact hn (List.mem_of_getElem? e)), h.nd⟩
theorem mk_fin {r gc gd : Nat} {f1 f2 : Nat → Bool} {x y z : Value} (hk : Gk gs w W) (hf : Gf W gg gr gf cap n gs fo) (up : ∀ g ∈ gs, g < w.heap.size) (hr : Blk W r 199 [x, y, z]) (lr : w.heap.size ≤ r) (lc : w.heap.size ≤ gc) (ld : w.heap.size ≤ gd) (bc : Bl W gc n f1) (bd : Bl W gd n f2) (e : Bool) :
    (loadVar 199 ⟨r, 0, none⟩).run Try.prog (set3 W r (.bool e) (rowV gc n) (rowV gd n)) = .ok (.agg #[.bool e, rowV gc n, rowV gd n]) (set3 W r (.bool e) (rowV gc n) (rowV gd n)) ∧
    RetMk e f1 f2 gg gr gf cap n gs fo w (.returned (.agg #[.bool e, rowV gc n, rowV gd n])) (set3 W r (.bool e) (rowV gc n) (rowV gd n)) := by
  have hg := three_set W r (.bool e) (rowV gc n) (rowV gd n)
  refine ⟨marks_load (three_blk hr _ _ _), gc, gd, rfl, hk.grownN hg lr, hf.out hr (by decide) (by decide) hg (fun h => by have := up r h; omega), lc, ld, ?_, ?_⟩
  · exact blk_grown bc hg (fun e => by cases e; exact blk_ne2 bc hr (by decide) rfl)
  · exact blk_grown bd hg (fun e => by cases e; exact blk_ne2 bd hr (by decide) rfl)
end

theorem three_new (W : World) (o0 o1 o2 : Obj) : Below W.heap.size W (((W.alloc o0).alloc o1).alloc o2).drew ∧ (((W.alloc o0).alloc o1).alloc o2).drew.heap[W.heap.size]? = some o0 ∧ (((W.alloc o0).alloc o1).alloc o2).drew.heap[W.heap.size + 1]? = some o1 ∧ (((W.alloc o0).alloc o1).alloc o2).drew.heap[W.heap.size + 1 + 1]? = some o2 := by
  have a1 : Below W.heap.size W (W.alloc o0) := (Below.refl _ _).alloc (Nat.le_refl _) _
  have a2 : Below (W.alloc o0).heap.size (W.alloc o0) ((W.alloc o0).alloc o1) := (Below.refl _ _).alloc (Nat.le_refl _) _
  have a3 : Below ((W.alloc o0).alloc o1).heap.size ((W.alloc o0).alloc o1) (((W.alloc o0).alloc o1).alloc o2) := (Below.refl _ _).alloc (Nat.le_refl _) _
  have s1 : (W.alloc o0).heap.size = W.heap.size + 1 := World.size_alloc _ _
  have s2 : ((W.alloc o0).alloc o1).heap.size = W.heap.size + 1 + 1 := by rw [World.size_alloc, s1]
  have n0 := heap_alloc_new W o0
  have n1 := heap_alloc_new (W.alloc o0) o1
  have n2 := heap_alloc_new ((W.alloc o0).alloc o1) o2
  rw [s1] at n1
  rw [s2] at n2
  refine ⟨((a1.trans (a2.mono a1.size)).trans (a3.mono (a1.trans (a2.mono a1.size)).size)).drew, ?_, ?_, n2⟩
  · show (((W.alloc o0).alloc o1).alloc o2).heap[W.heap.size]? = _
    rw [a3.block _ (by omega), a2.block _ (by omega)]
    exact n0
  · show (((W.alloc o0).alloc o1).alloc o2).heap[W.heap.size + 1]? = _
    rw [a3.block _ (by omega)]
    exact n1

set_option maxRecDepth 100000 in
set_option maxHeartbeats 4000000 in
theorem marked_pl (B g i : Nat) (s : ByteArray) (ns : List Pure.Nd) (vn vl : Value) (modes down : Int) (hn : ns.length ≤ 100000) (gg gf cap : Nat) (gs : List Nat) (fo : Nat → Nat → Bool) (T : Nat → Bool) (p : Nat) (w : World) (hd : Dr B g s i ns vn vl modes down w) (hf : Gf w gg g gf cap ns.length gs fo) (hx : ns[p]? = some ⟨1, 0, 0, T⟩) :
    Calls Try.prog 104 #[.pointer (some ⟨gg, 0, none⟩), .int .i64 (p : Int)] w (RetMk false (fun k => decide (k = p)) (fun k => decide (k = p)) gg g gf cap ns.length gs fo w) := by
  obtain ⟨gn, capn, rfl, hr⟩ := (hd.below (mk0_below w)).get hx
  have hm : p < ns.length := (List.getElem?_eq_some_iff.1 hx).1
  have i0 : (0 : Int) ≤ (p : Int) := by omega
  have i1 : (p : Int) < (ns.length : Int) := by omega
  have M1 := hide (MF.new hd hf ⟨1, 0, 0, T⟩)
  have C0 : Hid ((mk0 w).cell? ⟨gg, 0, none⟩ = some (.pointer (some ⟨g, 0, none⟩))) := blk_cell (j := 0) (hf.below (mk0_below w)).b rfl
  have C1 : Hid ((mk0 w).cell? ⟨g, 1, none⟩ = some (.slice (some ⟨gn, 0, none⟩) ns.length capn)) := blk_cell (j := 1) (hd.below (mk0_below w)).rb rfl
  have LW : Hid (w.heap.size ≤ (mk0 w).heap.size) := (mk0_below w).size
  have HR := hide hr
  clear hr hd hx hf
  go_enter Try.func104, Try.ntmps104
  go_upto_region 1 with (fail)
  rw [show w.alloc (.cells #[.bool false, .slice none 0 0, .slice none 0 0] 199) = mk0 w from rfl]
  generalize mk0 w = W0 at *
  generalize hq : w.heap.size = r at *
  have c0 : W0.cell? ⟨gg, 0, none⟩ = some (.pointer (some ⟨g, 0, none⟩)) := C0.out
  have c1 : W0.cell? ⟨g, 1, none⟩ = some (.slice (some ⟨gn, 0, none⟩) ns.length capn) := C1.out
  have zv := node_zeroV
  clear C0 C1
  go_upto_region 2 with (first | (refine wpList_load_mid rfl 192 (.tmp 21) rfl gn (p * 259) rfl _ _ HR.out Try.underlying192 rfl node_size ?_) | (refine wpList_store_mid rfl 192 (.tmp 5) (.tmp 22) rfl W0.heap.size 0 (ndC1 ⟨1, 0, 0, T⟩).toArray rfl rfl (ndZ_there _) (ndC1_sz _) (all_oneCell_toArray (ndC1_ones _)) ?_))
  clear c0 c1 zv HR
  rw [show (W0.alloc (.cells ndZ.toArray 192)).setCells W0.heap.size 0 (ndC1 ⟨1, 0, 0, T⟩) = nodeW W0 ⟨1, 0, 0, T⟩ from rfl]
  generalize nodeW W0 ⟨1, 0, 0, T⟩ = W1 at *
  generalize W0.heap.size = gx at *
  have c0 := blk_cell (j := 0) M1.out.gf.b rfl
  have c1 := blk_cell (j := 1) M1.out.dr.rb rfl
  have y0 : W1.cell? ⟨gx, 0, none⟩ = some (.int .i64 1) := blk_cell (j := 0) M1.out.nd rfl
  have hmk := make_bool ns.length hn
  go_upto_region 4 with (fail)
  clear c0 c1 y0
  go_cut [7] from 8 (fun mv wx => ∃ ga gb gm, mv = .pointer (some ⟨gm, 0, none⟩) ∧ MF B g i s ns (.slice (some ⟨gn, 0, none⟩) ns.length capn) vl modes down gg gf cap gs fo ⟨1, 0, 0, T⟩ r gx w wx ∧ (r ≤ ga ∧ r ≤ gb ∧ ga ≠ gb) ∧ Bl wx ga ns.length (fun _ => false) ∧ Bl wx gb ns.length (fun _ => false) ∧ Blk wx gm 199 (mkC false (rowV ga ns.length) (rowV gb ns.length)))
  case first =>
    have RL : r ≤ W1.heap.size := Nat.le_of_lt (blk_lt M1.out.r0)
    go_region
    all_goals
      go_wp2_with fail
      go_meet
      case rel =>
        first
          | exact ⟨W1.heap.size, (W1.heap.size + 1), (W1.heap.size + 1 + 1), rfl, M1.out.below (three_new W1 _ _ _).1, ⟨by omega, by omega, by omega⟩, (three_new W1 _ _ _).2.1, (three_new W1 _ _ _).2.2.1, (three_new W1 _ _ _).2.2.2⟩
          | exact ⟨W1.heap.size, (W1.heap.size + 1 + 1), (W1.heap.size + 1), rfl, M1.out.below (three_new W1 _ _ _).1, ⟨by omega, by omega, by omega⟩, (three_new W1 _ _ _).2.1, (three_new W1 _ _ _).2.2.2, (three_new W1 _ _ _).2.2.1⟩
          | exact ⟨(W1.heap.size + 1), W1.heap.size, (W1.heap.size + 1 + 1), rfl, M1.out.below (three_new W1 _ _ _).1, ⟨by omega, by omega, by omega⟩, (three_new W1 _ _ _).2.2.1, (three_new W1 _ _ _).2.1, (three_new W1 _ _ _).2.2.2⟩
          | exact ⟨(W1.heap.size + 1), (W1.heap.size + 1 + 1), W1.heap.size, rfl, M1.out.below (three_new W1 _ _ _).1, ⟨by omega, by omega, by omega⟩, (three_new W1 _ _ _).2.2.1, (three_new W1 _ _ _).2.2.2, (three_new W1 _ _ _).2.1⟩
          | exact ⟨(W1.heap.size + 1 + 1), W1.heap.size, (W1.heap.size + 1), rfl, M1.out.below (three_new W1 _ _ _).1, ⟨by omega, by omega, by omega⟩, (three_new W1 _ _ _).2.2.2, (three_new W1 _ _ _).2.1, (three_new W1 _ _ _).2.2.1⟩
          | exact ⟨(W1.heap.size + 1 + 1), (W1.heap.size + 1), W1.heap.size, rfl, M1.out.below (three_new W1 _ _ _).1, ⟨by omega, by omega, by omega⟩, (three_new W1 _ _ _).2.2.2, (three_new W1 _ _ _).2.2.1, (three_new W1 _ _ _).2.1⟩
  case rest =>
    obtain ⟨ga, gb, gm, rfl, hM, ⟨la, lb, ne⟩, ba, bb, bm⟩ := hcut
    have m0 := blk_cell (j := 0) bm rfl
    have m1 := blk_cell (j := 1) bm rfl
    have m2 := blk_cell (j := 2) bm rfl
    have ca := blk_cell ba (bln_get _ hm)
    have cb := blk_cell bb (bln_get _ hm)
    have fa := blk_frozen ba p
    have fb := blk_frozen bb p
    have z0 := blk_cell (j := 0) hM.r0 rfl
    have z1 := blk_cell (j := 1) hM.r0 rfl
    have z2 := blk_cell (j := 2) hM.r0 rfl
    have r0 := blk_frozen hM.r0 0
    have r1 := blk_frozen hM.r0 1
    have r2 := blk_frozen hM.r0 2
    have n1 : gm ≠ ga := blk_ne2 bm ba (by decide)
    have n2 : gm ≠ gb := blk_ne2 bm bb (by decide)
    have n3 : r ≠ ga := blk_ne2 hM.r0 ba (by decide)
    have n4 : r ≠ gb := blk_ne2 hM.r0 bb (by decide)
    have n5 : ga ≠ gm := fun e => n1 e.symm
    have n6 : gb ≠ gm := fun e => n2 e.symm
    have n7 : ga ≠ r := fun e => n3 e.symm
    have n8 : gb ≠ r := fun e => n4 e.symm
    have ne' : gb ≠ ga := fun e => ne e.symm
    have FIN : Hid (∀ W6, W6 = (wc.setCell ⟨ga, p, none⟩ (.bool true)).setCell ⟨gb, p, none⟩ (.bool true) → (loadVar 199 ⟨r, 0, none⟩).run Try.prog (set3 W6 r (.bool false) (rowV ga ns.length) (rowV gb ns.length)) = .ok (.agg #[.bool false, rowV ga ns.length, rowV gb ns.length]) (set3 W6 r (.bool false) (rowV ga ns.length) (rowV gb ns.length)) ∧ RetMk false (fun k => decide (k = p)) (fun k => decide (k = p)) gg g gf cap ns.length gs fo w (.returned (.agg #[.bool false, rowV ga ns.length, rowV gb ns.length])) (set3 W6 r (.bool false) (rowV ga ns.length) (rowV gb ns.length))) := by
      rintro W6 rfl
      have g1 := Lib.grownBy_setCell wc ga p (.bool true)
      have g2 := Lib.grownBy_setCell (wc.setCell ⟨ga, p, none⟩ (.bool true)) gb p (.bool true)
      have one : bln ns.length (fun k => decide (k = p)) = bln ns.length (setB (fun _ => false) p true) := bln_congr (fun k _ => by unfold setB; by_cases e : k = p <;> simp [e])
      have a1 := blk_set ba p (.bool true)
      have b1 := blk_grown bb g1 (fun e => ne' (Option.some.inj e))
      have b2 := blk_set b1 p (.bool true)
      rw [bln_set, ← one] at a1 b2
      have hl : w.heap.size ≤ ga ∧ w.heap.size ≤ gb := by have := hM.lr; omega
      have na : ga ∉ gs := fun h => by have := hM.up _ h; omega
      have nb : gb ∉ gs := fun h => by have := hM.up _ h; omega
      have r1 := blk_grown hM.r0 g1 (fun e => n3 (Option.some.inj e))
      exact mk_fin ((hM.gk.grownN g1 hl.1).grownN g2 hl.2) ((hM.gf.out ba (by decide) (by decide) g1 na).out b1 (by decide) (by decide) g2 nb) hM.up (blk_grown r1 g2 (fun e => n4 (Option.some.inj e))) hM.lr hl.1 hl.2 (blk_grown a1 g2 (fun e => ne (Option.some.inj e))) b2 false
    clear hM ba bb bm M1
    go_wp2

    refine bodyPost_ret (v := .agg #[.bool false, rowV ga ns.length, rowV gb ns.length]) ?_ rfl (FIN.out _ rfl).2
    simp [results, Try.results104, asAddr, (FIN.out _ rfl).1]

end Go.Proofs.Ytmccnmgaoppogaa

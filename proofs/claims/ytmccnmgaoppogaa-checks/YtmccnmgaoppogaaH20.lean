/-
  The walks: marks of a part of the document's pattern: what is repeated. (weirref)
-/
import Derived.Test.YtmccnmgaoppogaaH19
namespace Go.Proofs.Ytmccnmgaoppogaa
open Go.RowKit

/-- the marks of a part, while its whole is at work -/
structure MA (w : World) (gs : List Nat) (n gA ga gb : Nat) (e0 : Bool) (f1 f2 : Nat → Bool) (W : World) : Prop where
  ma : Blk W gA 199 (mkC e0 (rowV ga n) (rowV gb n))
  fa : Bl W ga n f1
  fb : Bl W gb n f2
  la : w.heap.size ≤ ga
  lb : w.heap.size ≤ gb
  lm : w.heap.size ≤ gA
section
variable {w W W' : World} {gs : List Nat} {n gA ga gb : Nat} {e0 : Bool} {f1 f2 : Nat → Bool}
theorem MA.on (h : MA w gs n gA ga gb e0 f1 f2 W) (up : ∀ g ∈ gs, g < w.heap.size) (hk : Gk gs W W') : MA w gs n gA ga gb e0 f1 f2 W' :=
  ⟨hk.blk h.ma (fun k => by have := up _ k; have := h.lm; omega), hk.blk h.fa (fun k => by have := up _ k; have := h.la; omega), hk.blk h.fb (fun k => by have := up _ k; have := h.lb; omega), h.la, h.lb, h.lm⟩
theorem MA.below (h : MA w gs n gA ga gb e0 f1 f2 W) (hb : Below W.heap.size W W') : MA w gs n gA ga gb e0 f1 f2 W' :=
  ⟨blk_below h.ma hb (blk_lt h.ma), blk_below h.fa hb (blk_lt h.fa), blk_below h.fb hb (blk_lt h.fb), h.la, h.lb, h.lm⟩
theorem MA.na (h : MA w gs n gA ga gb e0 f1 f2 W) (up : ∀ g ∈ gs, g < w.heap.size) : ga ∉ gs := fun k => by have := up _ k; have := h.la; omega
theorem MA.nb (h : MA w gs n gA ga gb e0 f1 f2 W) (up : ∀ g ∈ gs, g < w.heap.size) : gb ∉ gs := fun k => by have := up _ k; have := h.lb; omega
end

/-- marks that are kept -/
def mkW (w : World) (e : Bool) (v1 v2 : Value) : World := w.alloc (.cells #[.bool e, v1, v2] 199)
theorem mkW_below (w : World) (e : Bool) (v1 v2 : Value) : Below w.heap.size w (mkW w e v1 v2) := (Below.refl _ _).alloc (Nat.le_refl _) _
theorem mkW_blk (w : World) (e : Bool) (v1 v2 : Value) : Blk (mkW w e v1 v2) w.heap.size 199 (mkC e v1 v2) := heap_alloc_new _ _

theorem un_fin {B g i : Nat} {s : ByteArray} {ns : List Pure.Nd} {vn vl : Value} {modes down : Int} {gg gf cap : Nat} {gs : List Nat} {fo fo' : Nat → Nat → Bool} {x : Pure.Nd} {r gx gA ga gb : Nat} {e0 : Bool} {f1 f2 : Nat → Bool} {w W : World} (M : MF B g i s ns vn vl modes down gg gf cap gs fo x r gx w W) (A : MA w gs ns.length gA ga gb e0 f1 f2 W) (ne : r ≠ gA) (e : Bool) (hc : ∀ i k, i < ns.length → k < ns.length → fo i k = fo' i k) :
    (loadVar 199 ⟨r, 0, none⟩).run Try.prog (set3 (W.setCell ⟨gA, 0, none⟩ (.bool e)) r (.bool e) (rowV ga ns.length) (rowV gb ns.length)) = .ok (.agg #[.bool e, rowV ga ns.length, rowV gb ns.length]) (set3 (W.setCell ⟨gA, 0, none⟩ (.bool e)) r (.bool e) (rowV ga ns.length) (rowV gb ns.length)) ∧
    RetMk e f1 f2 gg g gf cap ns.length gs fo' w (.returned (.agg #[.bool e, rowV ga ns.length, rowV gb ns.length])) (set3 (W.setCell ⟨gA, 0, none⟩ (.bool e)) r (.bool e) (rowV ga ns.length) (rowV gb ns.length)) := by
  have g1 := Lib.grownBy_setCell W gA 0 (.bool e)
  have na : gA ∉ gs := fun k => by have := M.up _ k; have := A.lm; omega
  exact mk_fin (M.gk.grownN g1 A.lm) (((M.gf.congr hc)).out A.ma (by decide) (by decide) g1 na) M.up (blk_grown M.r0 g1 (fun e => ne (Option.some.inj e))) M.lr A.la A.lb (blk_grown A.fa g1 (fun e => blk_ne2 A.fa A.ma (by decide) (Option.some.inj e))) (blk_grown A.fb g1 (fun e => blk_ne2 A.fb A.ma (by decide) (Option.some.inj e))) e

set_option maxRecDepth 100000 in
set_option maxHeartbeats 4000000 in
theorem marked_un (B g i : Nat) (s : ByteArray) (ns : List Pure.Nd) (vn vl : Value) (modes down : Int) (hn : ns.length ≤ 100000) (gg gf cap : Nat) (gs : List Nat) (fo fo2 : Nat → Nat → Bool) (T : Nat → Bool) (p kd l : Nat) (e0 : Bool) (f1 f2 : Nat → Bool) (w : World) (hd : Dr B g s i ns vn vl modes down w) (hf : Gf w gg g gf cap ns.length gs fo) (hx : ns[p]? = some ⟨kd, l, 0, T⟩) (hkd : kd = 4 ∨ kd = 5 ∨ kd = 6)
    (CALL : ∀ W, Dr B g s i ns vn vl modes down W → Gf W gg g gf cap ns.length gs fo → Calls Try.prog 104 #[.pointer (some ⟨gg, 0, none⟩), .int .i64 (l : Int)] W (RetMk e0 f1 f2 gg g gf cap ns.length gs fo2 W)) :
    Calls Try.prog 104 #[.pointer (some ⟨gg, 0, none⟩), .int .i64 (p : Int)] w (RetMk (e0 || decide (kd ≠ 5)) f1 f2 gg g gf cap ns.length gs (fun a c => fo2 a c || (decide (kd ≠ 6) && (f2 a && f1 c))) w) := by
  obtain ⟨gn, capn, rfl, hr⟩ := (hd.below (mk0_below w)).get hx
  have hm : p < ns.length := (List.getElem?_eq_some_iff.1 hx).1
  have i0 : (0 : Int) ≤ (p : Int) := by omega
  have i1 : (p : Int) < (ns.length : Int) := by omega
  have M1 := hide (MF.new hd hf ⟨kd, l, 0, T⟩)
  have C0 : Hid ((mk0 w).cell? ⟨gg, 0, none⟩ = some (.pointer (some ⟨g, 0, none⟩))) := blk_cell (j := 0) (hf.below (mk0_below w)).b rfl
  have C1 : Hid ((mk0 w).cell? ⟨g, 1, none⟩ = some (.slice (some ⟨gn, 0, none⟩) ns.length capn)) := blk_cell (j := 1) (hd.below (mk0_below w)).rb rfl
  have HR := hide hr
  have CA := hide CALL
  clear hr hd hx hf CALL
  go_enter Try.func104, Try.ntmps104
  go_upto_region 1 with (fail)
  rw [show w.alloc (.cells #[.bool false, .slice none 0 0, .slice none 0 0] 199) = mk0 w from rfl]
  generalize mk0 w = W0 at *
  generalize hq : w.heap.size = r at *
  have c0 : W0.cell? ⟨gg, 0, none⟩ = some (.pointer (some ⟨g, 0, none⟩)) := C0.out
  have c1 : W0.cell? ⟨g, 1, none⟩ = some (.slice (some ⟨gn, 0, none⟩) ns.length capn) := C1.out
  have zv := node_zeroV
  clear C0 C1
  go_upto_region 2 with (first | (refine wpList_load_mid rfl 192 (.tmp 21) rfl gn (p * 259) rfl _ _ HR.out Try.underlying192 rfl node_size ?_) | (refine wpList_store_mid rfl 192 (.tmp 5) (.tmp 22) rfl W0.heap.size 0 (ndC1 ⟨kd, l, 0, T⟩).toArray rfl rfl (ndZ_there _) (ndC1_sz _) (all_oneCell_toArray (ndC1_ones _)) ?_))
  clear c0 c1 zv HR
  rw [show (W0.alloc (.cells ndZ.toArray 192)).setCells W0.heap.size 0 (ndC1 ⟨kd, l, 0, T⟩) = nodeW W0 ⟨kd, l, 0, T⟩ from rfl]
  generalize nodeW W0 ⟨kd, l, 0, T⟩ = W1 at *
  generalize W0.heap.size = gx at *
  have c0 := blk_cell (j := 0) M1.out.gf.b rfl
  have c1 := blk_cell (j := 1) M1.out.dr.rb rfl
  have y0 : W1.cell? ⟨gx, 0, none⟩ = some (.int .i64 (kd : Int)) := blk_cell (j := 0) M1.out.nd rfl
  have y1 : W1.cell? ⟨gx, 1, none⟩ = some (.int .i64 (l : Int)) := blk_cell (j := 1) M1.out.nd rfl
  have d1 : decide ((kd : Int) = 1) = false := decide_eq_false (by omega)
  have d2 : decide ((3 : Int) < (kd : Int)) = true := decide_eq_true (by omega)
  go_wp2_with fail
  refine (CA.out _ M1.out.dr M1.out.gf).mono ?_
  clear CA c0 c1 y0 y1
  rintro e w2 ⟨ga, gb, rfl, hk2, hf2, la, lb, ba, bb⟩
  have M2 := hide ((M1.out.on hk2 hf2).below (mkW_below w2 e0 (rowV ga ns.length) (rowV gb ns.length)))
  have A2 : Hid (MA w gs ns.length w2.heap.size ga gb e0 f1 f2 (mkW w2 e0 (rowV ga ns.length) (rowV gb ns.length))) := by
    have h1 := M1.out.gk.size
    have hb := mkW_below w2 e0 (rowV ga ns.length) (rowV gb ns.length)
    exact ⟨mkW_blk _ _ _ _, blk_below ba hb (blk_lt ba), blk_below bb hb (blk_lt bb), by omega, by omega, by have := hk2.size; omega⟩
  have NE : Hid (r ≠ w2.heap.size) := by have := blk_lt M1.out.r0; have := hk2.size; intro e; omega
  clear hk2 hf2 la lb ba bb M1
  go_upto_region 9 with (fail)
  rw [show w2.alloc (.cells #[.bool e0, rowV ga ns.length, rowV gb ns.length] 199) = mkW w2 e0 (rowV ga ns.length) (rowV gb ns.length) from rfl]
  generalize mkW w2 e0 (rowV ga ns.length) (rowV gb ns.length) = W3 at *
  generalize w2.heap.size = gA at *
  have hup := M2.out.up
  rcases hkd with rfl | rfl | rfl
  · skip
    have y0 : W3.cell? ⟨gx, 0, none⟩ = some (.int .i64 4) := blk_cell (j := 0) M2.out.nd rfl
    have a0 := blk_cell (j := 0) A2.out.ma rfl
    have a1 := blk_cell (j := 1) A2.out.ma rfl
    have a2 := blk_cell (j := 2) A2.out.ma rfl
    go_wp2_with fail
    refine (joined_any gg g gf cap ns.length gb ga gs fo2 f2 f1 W3 M2.out.gf A2.out.fb A2.out.fa (A2.out.nb hup) (A2.out.na hup) hn).mono ?_
    rintro e w4 ⟨rfl, hk4, hf4⟩
    have M4 := hide (M2.out.on hk4 hf4)
    have A4 := hide (A2.out.on hup hk4)
    clear hk4 hf4 M2 A2 y0 a0 a1 a2
    have y0 : w4.cell? ⟨gx, 0, none⟩ = some (.int .i64 4) := blk_cell (j := 0) M4.out.nd rfl
    have a0 := blk_cell (j := 0) A4.out.ma rfl
    have a1 := blk_cell (j := 1) A4.out.ma rfl
    have a2 := blk_cell (j := 2) A4.out.ma rfl
    have q0 := blk_frozen A4.out.ma 0
    have z0 := blk_cell (j := 0) M4.out.r0 rfl
    have z1 := blk_cell (j := 1) M4.out.r0 rfl
    have z2 := blk_cell (j := 2) M4.out.r0 rfl
    have r0 := blk_frozen M4.out.r0 0
    have r1 := blk_frozen M4.out.r0 1
    have r2 := blk_frozen M4.out.r0 2
    have ne1 : r ≠ gA := NE.out
    have ne2 : gA ≠ r := fun e => ne1 e.symm
    have FIN := hide (fun e => un_fin M4.out A4.out NE.out e (fo' := fun a c => fo2 a c || (decide ((4 : Nat) ≠ 6) && (f2 a && f1 c))) (fun a c _ _ => by simp))
    clear M4 A4
    cases e0 with
    | true =>
      go_wp2
      exact bodyPost_ret (by simp [results, Try.results104, asAddr, (FIN.out true).1]) rfl (FIN.out true).2
    | false =>
      go_wp2
      exact bodyPost_ret (by simp [results, Try.results104, asAddr, (FIN.out true).1]) rfl (FIN.out true).2
  · skip
    have y0 : W3.cell? ⟨gx, 0, none⟩ = some (.int .i64 5) := blk_cell (j := 0) M2.out.nd rfl
    have a0 := blk_cell (j := 0) A2.out.ma rfl
    have a1 := blk_cell (j := 1) A2.out.ma rfl
    have a2 := blk_cell (j := 2) A2.out.ma rfl
    go_wp2_with fail
    refine (joined_any gg g gf cap ns.length gb ga gs fo2 f2 f1 W3 M2.out.gf A2.out.fb A2.out.fa (A2.out.nb hup) (A2.out.na hup) hn).mono ?_
    rintro e w4 ⟨rfl, hk4, hf4⟩
    have M4 := hide (M2.out.on hk4 hf4)
    have A4 := hide (A2.out.on hup hk4)
    clear hk4 hf4 M2 A2 y0 a0 a1 a2
    have y0 : w4.cell? ⟨gx, 0, none⟩ = some (.int .i64 5) := blk_cell (j := 0) M4.out.nd rfl
    have a0 := blk_cell (j := 0) A4.out.ma rfl
    have a1 := blk_cell (j := 1) A4.out.ma rfl
    have a2 := blk_cell (j := 2) A4.out.ma rfl
    have q0 := blk_frozen A4.out.ma 0
    have z0 := blk_cell (j := 0) M4.out.r0 rfl
    have z1 := blk_cell (j := 1) M4.out.r0 rfl
    have z2 := blk_cell (j := 2) M4.out.r0 rfl
    have r0 := blk_frozen M4.out.r0 0
    have r1 := blk_frozen M4.out.r0 1
    have r2 := blk_frozen M4.out.r0 2
    have ne1 : r ≠ gA := NE.out
    have ne2 : gA ≠ r := fun e => ne1 e.symm
    have FIN := hide (fun e => un_fin M4.out A4.out NE.out e (fo' := fun a c => fo2 a c || (decide ((5 : Nat) ≠ 6) && (f2 a && f1 c))) (fun a c _ _ => by simp))
    clear M4 A4
    cases e0 with
    | true =>
      go_wp2
      exact bodyPost_ret (by simp [results, Try.results104, asAddr, (FIN.out true).1]) rfl (FIN.out true).2
    | false =>
      go_wp2
      exact bodyPost_ret (by simp [results, Try.results104, asAddr, (FIN.out false).1]) rfl (FIN.out false).2
  · skip
    have y0 : W3.cell? ⟨gx, 0, none⟩ = some (.int .i64 6) := blk_cell (j := 0) M2.out.nd rfl
    have a0 := blk_cell (j := 0) A2.out.ma rfl
    have a1 := blk_cell (j := 1) A2.out.ma rfl
    have a2 := blk_cell (j := 2) A2.out.ma rfl
    have q0 := blk_frozen A2.out.ma 0
    have z0 := blk_cell (j := 0) M2.out.r0 rfl
    have z1 := blk_cell (j := 1) M2.out.r0 rfl
    have z2 := blk_cell (j := 2) M2.out.r0 rfl
    have r0 := blk_frozen M2.out.r0 0
    have r1 := blk_frozen M2.out.r0 1
    have r2 := blk_frozen M2.out.r0 2
    have ne1 : r ≠ gA := NE.out
    have ne2 : gA ≠ r := fun e => ne1 e.symm
    have FIN := hide (fun e => un_fin M2.out A2.out NE.out e (fo' := fun a c => fo2 a c || (decide ((6 : Nat) ≠ 6) && (f2 a && f1 c))) (fun a c _ _ => by simp))
    clear M2 A2
    cases e0 with
    | true =>
      go_wp2
      exact bodyPost_ret (by simp [results, Try.results104, asAddr, (FIN.out true).1]) rfl (FIN.out true).2
    | false =>
      go_wp2
      exact bodyPost_ret (by simp [results, Try.results104, asAddr, (FIN.out true).1]) rfl (FIN.out true).2

end Go.Proofs.Ytmccnmgaoppogaa

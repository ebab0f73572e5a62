/-
  The walks: the document's done. (weirref)
-/
import Derived.Test.YtmccnmgaoppogaaGreatD5
namespace Go.Proofs.YtmccnmgaoppogaaGreat
open Go.RowKit

def tokZ : Pure.Tok := ⟨0, 0, 0, 0, 0⟩
theorem tokCells_at (l : List Pure.Tok) : ∀ (i : Nat), i < l.length → (tokCells l)[i * 5]? = some (.int .i64 (l.getD i tokZ).rule) ∧ (tokCells l)[i * 5 + 1]? = some (.int .i64 (l.getD i tokZ).pos) ∧ (tokCells l)[i * 5 + 2]? = some (.int .i64 (l.getD i tokZ).len) ∧ (tokCells l)[i * 5 + 3]? = some (.int .i64 (l.getD i tokZ).line) ∧ (tokCells l)[i * 5 + 4]? = some (.int .i64 (l.getD i tokZ).col) := by
  induction l with
  | nil => intro i h; simp at h
  | cons x r ih =>
    intro i h
    have c : tokCells (x :: r) = .int .i64 x.rule :: .int .i64 x.pos :: .int .i64 x.len :: .int .i64 x.line :: .int .i64 x.col :: tokCells r := by simp [tokCells]
    rw [c]
    cases i with
    | zero => simp
    | succ i =>
      have := ih i (by simpa using h)
      have e : ∀ j, (i + 1) * 5 + j = (i * 5 + j) + 1 + 1 + 1 + 1 + 1 := fun j => by omega
      have e' : (i + 1) * 5 = (i * 5) + 1 + 1 + 1 + 1 + 1 := by omega
      rw [e, e, e, e, e']
      simpa using this

theorem tok_more (l : List Pure.Tok) (i : Nat) (h : i < l.length) (a : Nat) (ha : a ≤ i) : (l.drop a).take (i + 1 - a) = (l.drop a).take (i - a) ++ [l.getD i tokZ] := by
  rw [show i + 1 - a = (i - a) + 1 by omega, List.take_add_one]
  congr 1
  rw [List.getElem?_drop, show a + (i - a) = i by omega, List.getElem?_eq_getElem h, List.getD_eq_getElem?_getD, List.getElem?_eq_getElem h]
  rfl

def heldN (E : Pure.Env) (D : Pure.Cfg) : Int := if D.err ≠ 0 then 0 else E.s.size - D.pos
def nowCells (E : Pure.Env) (D : Pure.Cfg) : List Value := [.int .i64 D.pos, .int .i64 D.line, .int .i64 D.col, .int .i64 D.mode, .int .i64 D.dep, .int .i64 (heldN E D), .int .i64 D.steps]
def restOf (E : Pure.Env) (D : Pure.Cfg) : List Value := [.int .i64 D.toks.length, .int .i64 D.err] ++ nowCells E D

def RetDone (gs : Nat) (E : Pure.Env) (ve vr vc : Value) (given : Nat) (w : World) (e : Ending) (w' : World) : Prop :=
  ∃ D vo, Pure.Runs E (cfg0 E.p) D ∧ e = .returned (.tuple #[vo, .int .i64 D.err]) ∧ w'.ownsRow w.heap.size 74 5 vo (D.toks.length - given) (tokCells (D.toks.drop given)) ∧ Blk w' gs 133 (docCells E ve vr vc (restOf E D)) ∧ Lists w' E.p ve vr vc ∧ w.grownBy w' (some gs)

/-- behind the list -/
structure DN (w : World) (gs gr : Nat) (p : Pure.Prg) (ve vr vc : Value) (cells rcells : List Value) (vo : Value) (n : Nat) (xs : List Value) (W : World) : Prop where
  b : Blk W gs 133 cells
  r : Blk W gr 218 rcells
  l : Lists W p ve vr vc
  o : W.ownsRow w.heap.size 74 5 vo n xs
  g : w.grownBy W (some gs)
  ne : gs ≠ gr

section
variable {w : World} {gs gr : Nat} {p : Pure.Prg} {ve vr vc : Value} {cells rcells : List Value} {vo : Value} {n : Nat} {xs : List Value} {W : World}
theorem DN.set (h : DN w gs gr p ve vr vc cells rcells vo n xs W) (j : Nat) (u : Value) : DN w gs gr p ve vr vc (cells.set j u) rcells vo n xs (W.setCell ⟨gs, j, none⟩ u) := by
  have hg := Lib.grownBy_setCell W gs j u
  exact ⟨blk_set h.b j u, blk_other h.r (fun e => h.ne e.symm) j u, h.l.on h.b (by decide) (by decide) (by decide) hg, own_apart h.o h.b (by decide) hg, grown_set h.g j u, h.ne⟩
theorem DN.drewN (h : DN w gs gr p ve vr vc cells rcells vo n xs W) (k : Nat) : DN w gs gr p ve vr vc cells rcells vo n xs (W.drewN k) :=
  ⟨h.b, h.r, h.l.below (below_drewN (Below.refl _ _) k), own_drewN h.o k, grown_drewN h.g k, h.ne⟩
theorem DN.drew (h : DN w gs gr p ve vr vc cells rcells vo n xs W) : DN w gs gr p ve vr vc cells rcells vo n xs W.drew :=
  ⟨h.b, h.r, h.l.below (Below.refl _ _).drew, own_drewN h.o 1, grown_drew h.g, h.ne⟩
end

set_option maxRecDepth 100000 in
set_option maxHeartbeats 4000000 in
theorem done_any (f : Nat → Int) (gs : Nat) (E : Pure.Env) (ve vr vc : Value) (given : Nat) (e0 n0 n1 n2 n3 n4 n5 n6 : Value) (w : World) (gd : Pure.Good E f) (hs : E.s.size ≤ 1099511627776) (hgv : given ≤ 1099511627776) (hb : Blk w gs 133 (docCells E ve vr vc [.int .i64 given, e0, n0, n1, n2, n3, n4, n5, n6])) (hl : Lists w E.p ve vr vc) :
    Calls Tryz.prog 73 #[.pointer (some ⟨gs, 0, none⟩)] w (RetDone gs E ve vr vc given w) := by
  obtain ⟨i0, hi, hz0, hz1, hz2⟩ := info_parts Tryz.info74
  have AG := hide (again_any f gs E ve vr vc [.int .i64 given, e0, n0, n1, n2, n3, n4, n5, n6] w gd hs hb hl)
  have GD := hide gd
  have HS := hide hs
  clear gd hs
  have ngs := blk_lt hb
  clear hb hl
  go_enter Tryz.func73, Tryz.ntmps73
  go_wp2_with fail
  refine AG.out.mono ?_
  clear AG
  rintro e w1 ⟨D, vst, vtk, hR, rfl, hT⟩
  have HR := hide hR
  have HT := hide hT
  have SD := hide (hR.1.inv GD.out (sta1 GD.out))
  have tl : D.toks.length ≤ 1099511627776 := by have := SD.out.toks; have := SD.out.within; have := SD.out.looked; have := HS.out; omega
  obtain ⟨at', ct, rfl, ht1, ht2⟩ := own_form hT.tk
  obtain ⟨ao, cp, rfl, hc1, hc2⟩ := own_form hT.st
  have g8 := blk_cell (j := 8) hT.m.scn rfl
  have L0 : Hid (Below w1.heap.size w1 w1) := Below.refl _ _
  clear hR hT
  go_wp2_with fail
  go_loopg [5, 6] (D.toks.length - given) (fun gk ov iv wr => ∃ (i : Nat) (vo : Value), vo = ov ∧ given ≤ i ∧ (i ≤ D.toks.length ∨ i = given) ∧ iv = .int .i64 i ∧ gk = D.toks.length - i ∧ Below w1.heap.size w1 wr ∧ wr.ownsRow w1.heap.size 74 5 vo (i - given) (tokCells ((D.toks.drop given).take (i - given))))
  case atStart => exact ⟨given, _, rfl, Nat.le_refl _, .inr rfl, rfl, rfl, L0.out, by rw [Nat.sub_self]; exact own_nil _ _ _ _⟩
  case round =>
    clear L0 g8
    obtain ⟨i, vo, rfl, hi1, hi2, rfl, rfl, hbe, how⟩ := hrel
    have HB := hide hbe
    have HO := hide how
    have T1 := HT.out.below hbe
    have c7 := blk_cell (j := 7) T1.m.blk rfl
    by_cases hlt : i < D.toks.length
    · obtain ⟨gt, ct', hv, -, -⟩ := own_some T1.tk (by omega)
      cases hv
      have q := tokCells_at D.toks i hlt
      have q0 := own_cell T1.tk q.1
      have q1 := own_cell T1.tk q.2.1
      have q2 := own_cell T1.tk q.2.2.1
      have q3 := own_cell T1.tk q.2.2.2.1
      have q4 := own_cell T1.tk q.2.2.2.2
      have glt := (own_base T1.tk).2
      have rlt := blk_lt T1.m.blk
      have hsz := hbe.size
      have hlti : (i : Int) < (D.toks.length : Int) := by omega
      have MO := hide (tok_more D.toks i hlt given hi1)
      generalize D.toks.getD i tokZ = tk at *
      have ne1 : gt ≠ wr.heap.size := by omega
      have ne2 : w.heap.size ≠ wr.heap.size := by omega
      have ne1' : wr.heap.size ≠ gt := by omega
      have ne2' : wr.heap.size ≠ w.heap.size := by omega
      clear q T1 hbe how
      go_wp2_with (at_builtin; refine wpList_append_own _ rfl (.tmp 22) (.tmp 30) 72 rfl w1.heap.size 74 i0 (.agg #[.int .i64 0, .int .i64 0, .int .i64 0, .int .i64 0, .int .i64 0]) 5 40 Tryz.underlying72 hi hz0 hz1 hz2 rfl (by decide) _ (i - given) (tokCells ((D.toks.drop given).take (i - given))) rfl (World.ownsRow.alloc HO.out _) ⟨wr.heap.size, 0, none⟩ 1 1 [.int .i64 tk.rule, .int .i64 tk.pos, .int .i64 tk.len, .int .i64 tk.line, .int .i64 tk.col] rfl rfl (cell_list3 rfl) (by intro u hu; simp at hu; rcases hu with rfl | rfl | rfl | rfl | rfl <;> rfl) (by unfold maxLen; omega) (by omega) (by simp; omega) ?_; intro v2 wa hown2 hgrow2 _)
      go_roundg (D.toks.length - (i + 1))
      case measure => omega
      case rel =>
        refine ⟨i + 1, _, rfl, by omega, .inl hlt, by go_num, rfl, ?_, ?_⟩
        · exact (HB.out.alloc (by omega) _).grown hgrow2 (by simp; omega) (fun k hk => (World.ownsRow.lt HO.out k hk).1)
        · rw [MO.out, tokCells_snoc, show i + 1 - given = i - given + 1 by omega]
          exact hown2
    · have d1 : decide ((i : Int) < (D.toks.length : Int)) = false := decide_eq_false (by omega)
      have hn : i - given = D.toks.length - given := by omega
      have DX : Hid (DN w gs w.heap.size E.p ve vr vc (docCells E ve vr vc [.int .i64 given, e0, n0, n1, n2, n3, n4, n5, n6]) (runRCells gs D (.slice ao D.dep.toNat cp) (.slice at' D.toks.length ct)) vo (D.toks.length - given) (tokCells (D.toks.drop given)) wr) := by
        refine ⟨T1.m.scn, T1.m.blk, T1.m.l, ?_, ?_, by omega⟩
        · rw [hn] at how
          rw [List.take_of_length_le (by rw [List.length_drop]; omega)] at how
          exact own_mono how HT.out.sz
        · have b := T1.be
          exact ⟨b.os, b.tape, b.output, b.size, fun k hk _ => b.block k hk⟩
      have g8 := blk_cell (j := 8) DX.out.b rfl
      have g9 := blk_cell (j := 9) DX.out.b rfl
      have f8 := blk_frozen DX.out.b 8
      have f9 := blk_frozen DX.out.b 9
      have r8 := blk_cell (j := 8) DX.out.r rfl
      have D2 := hide ((DX.out.set 8 (.int .i64 D.toks.length)).set 9 (.int .i64 D.err))
      have ne1 : gs ≠ w.heap.size := by omega
      have ne2 : w.heap.size ≠ gs := by omega
      clear T1 hbe how HB HO DX HT
      go_upto_region 9 with (fail)
      clear g8 g9 f8 f9 r8 c7
      generalize (wr.setCell ⟨gs, 8, none⟩ (.int .i64 D.toks.length)).setCell ⟨gs, 9, none⟩ (.int .i64 D.err) = W2 at *
      have r1 := blk_cell (j := 1) D2.out.r rfl
      have r2 := blk_cell (j := 2) D2.out.r rfl
      have r3 := blk_cell (j := 3) D2.out.r rfl
      have r4 := blk_cell (j := 4) D2.out.r rfl
      have r5 := blk_cell (j := 5) D2.out.r rfl
      have r6 := blk_cell (j := 6) D2.out.r rfl
      have g6 := blk_cell (j := 6) D2.out.b rfl
      have g10 := blk_cell (j := 10) D2.out.b rfl
      have g11 := blk_cell (j := 11) D2.out.b rfl
      have g12 := blk_cell (j := 12) D2.out.b rfl
      have g13 := blk_cell (j := 13) D2.out.b rfl
      have g14 := blk_cell (j := 14) D2.out.b rfl
      have g15 := blk_cell (j := 15) D2.out.b rfl
      have g16 := blk_cell (j := 16) D2.out.b rfl
      have f10 := blk_frozen D2.out.b 10
      have f11 := blk_frozen D2.out.b 11
      have f12 := blk_frozen D2.out.b 12
      have f13 := blk_frozen D2.out.b 13
      have f14 := blk_frozen D2.out.b 14
      have f15 := blk_frozen D2.out.b 15
      have f16 := blk_frozen D2.out.b 16
      have dp := SD.out.dep
      have ps := SD.out.pos
      have wi := SD.out.within
      have lk := SD.out.looked
      have sz := HS.out
      have D3 := hide (((((((D2.out.set 10 (.int .i64 D.pos)).set 11 (.int .i64 D.line)).set 12 (.int .i64 D.col)).set 13 (.int .i64 D.mode)).set 14 (.int .i64 D.dep)).set 15 (.int .i64 ((E.s.size : Int) - D.pos))).set 16 (.int .i64 D.steps)).drew
      have hmx : Hid (max D.dep 0 = D.dep) := by show _ = _; omega
      have hwp : Hid (IntKind.i64.wrap ((E.s.size : Int) - D.pos) = (E.s.size : Int) - D.pos) := wrap_in _ (by omega) (by omega)
      have S1 := hide (show (fun w' : World => w'.cell? ⟨w.heap.size, 1, none⟩ = some (.int .i64 D.pos) ∧ w'.cell? ⟨w.heap.size, 2, none⟩ = some (.int .i64 D.line) ∧ w'.cell? ⟨w.heap.size, 3, none⟩ = some (.int .i64 D.col) ∧ w'.cell? ⟨w.heap.size, 4, none⟩ = some (.int .i64 D.mode) ∧ w'.cell? ⟨w.heap.size, 5, none⟩ = some (.slice ao D.dep.toNat cp) ∧ w'.cell? ⟨w.heap.size, 6, none⟩ = some (.int .i64 D.steps) ∧ w'.cell? ⟨gs, 6, none⟩ = some (.string E.s)) W2.drew from ⟨r1, r2, r3, r4, r5, r6, g6⟩)
      have S3 := hide (And.intro (blk_cell (j := 1) D3.out.r rfl) (And.intro (blk_cell (j := 2) D3.out.r rfl) (And.intro (blk_cell (j := 3) D3.out.r rfl) (And.intro (blk_cell (j := 4) D3.out.r rfl) (And.intro (blk_cell (j := 5) D3.out.r rfl) (And.intro (blk_cell (j := 6) D3.out.r rfl) (blk_cell (j := 6) D3.out.b rfl)))))))
      clear r1 r2 r3 r4 r5 r6 g6
      refine wp_region_held_drew (S := fun w' => w'.cell? ⟨w.heap.size, 1, none⟩ = some (.int .i64 D.pos) ∧ w'.cell? ⟨w.heap.size, 2, none⟩ = some (.int .i64 D.line) ∧ w'.cell? ⟨w.heap.size, 3, none⟩ = some (.int .i64 D.col) ∧ w'.cell? ⟨w.heap.size, 4, none⟩ = some (.int .i64 D.mode) ∧ w'.cell? ⟨w.heap.size, 5, none⟩ = some (.slice ao D.dep.toNat cp) ∧ w'.cell? ⟨w.heap.size, 6, none⟩ = some (.int .i64 D.steps) ∧ w'.cell? ⟨gs, 6, none⟩ = some (.string E.s)) (by kernel_rfl) S1.out (fun hHeld => ?_)
      refine wpAnyH_take (i := 0) (v := ?v0) rfl (by kernel_rfl) (by kernel_rfl) (by kernel_rfl) (fun _ _ _ h => h) (Or.inl ⟨by rfl, ?hy0⟩) (by assumption) ?rest0
      case hy0 => (intro w hSw; (try dsimp only at hSw); go_simp; try (with_reducible rfl))
      try simp only [Act.put, List.setIfInBounds_toArray]
      refine wpAnyH_take (i := 1) (v := ?v1) rfl (by kernel_rfl) (by kernel_rfl) (by kernel_rfl) (fun _ _ _ h => h) (Or.inl ⟨by rfl, ?hy1⟩) (by assumption) ?rest1
      case hy1 => (intro w hSw; (try dsimp only at hSw); go_simp; try (with_reducible rfl))
      try simp only [Act.put]
      refine wpAnyH_take (i := 2) (v := ?v2) rfl (by kernel_rfl) (by kernel_rfl) (by kernel_rfl) (fun _ _ _ h => h) (Or.inl ⟨by rfl, ?hy2⟩) (by assumption) ?rest2
      case hy2 => (intro w hSw; (try dsimp only at hSw); go_simp; try (with_reducible rfl))
      try simp only [Act.put]
      refine wpAnyH_take (i := 3) (v := ?v3) rfl (by kernel_rfl) (by kernel_rfl) (by kernel_rfl) (fun _ _ _ h => h) (Or.inl ⟨by rfl, ?hy3⟩) (by assumption) ?rest3
      case hy3 => (intro w hSw; (try dsimp only at hSw); go_simp; try (with_reducible rfl))
      try simp only [Act.put]
      refine wpAnyH_take (i := 4) (v := ?v4) rfl (by kernel_rfl) (by kernel_rfl) (by kernel_rfl) (fun _ _ _ h => h) (Or.inl ⟨by rfl, ?hy4⟩) (by assumption) ?rest4
      case hy4 => (intro w hSw; (try dsimp only at hSw); go_simp; try (with_reducible rfl))
      try simp only [Act.put]
      refine wpAnyH_take (i := 5) (v := ?v5) rfl (by kernel_rfl) (by kernel_rfl) (by kernel_rfl) (fun _ _ _ h => h) (Or.inl ⟨by rfl, ?hy5⟩) (by assumption) ?rest5
      case hy5 => (intro w hSw; (try dsimp only at hSw); go_simp; try (with_reducible rfl))
      try simp only [Act.put]
      refine wpAnyH_take (i := 6) (v := ?v6) rfl (by kernel_rfl) (by kernel_rfl) (by kernel_rfl) (fun _ _ _ h => h) (Or.inl ⟨by rfl, ?hy6⟩) (by assumption) ?rest6
      case hy6 => (intro w hSw; (try dsimp only at hSw); go_simp; try (with_reducible rfl))
      try simp only [Act.put]
      refine wpAnyH_take (i := 7) (v := ?v7) rfl (by kernel_rfl) (by kernel_rfl) (by kernel_rfl) (fun _ _ _ h => h) (Or.inl ⟨by rfl, ?hy7⟩) (by assumption) ?rest7
      case hy7 => (intro w hSw; (try dsimp only at hSw); go_simp; try (with_reducible rfl))
      try simp only [Act.put]
      refine wpAnyH_take (i := 8) (v := ?v8) rfl (by kernel_rfl) (by kernel_rfl) (by kernel_rfl) (fun _ _ _ h => h) (Or.inl ⟨by rfl, ?hy8⟩) (by assumption) ?rest8
      case hy8 => (intro w hSw; (try dsimp only at hSw); go_simp; try (with_reducible rfl))
      try simp only [Act.put]
      refine wpAnyH_take (i := 9) (v := ?v9) rfl (by kernel_rfl) (by kernel_rfl) (by kernel_rfl) (fun _ _ _ h => h) (Or.inl ⟨by rfl, ?hy9⟩) (by assumption) ?rest9
      case hy9 => (intro w hSw; (try dsimp only at hSw); go_simp; try (with_reducible rfl))
      try simp only [Act.put]
      refine wpAnyH_take (i := 10) (v := ?v10) rfl (by kernel_rfl) (by kernel_rfl) (by kernel_rfl) (fun _ _ _ h => h) (Or.inl ⟨by rfl, ?hy10⟩) (by assumption) ?rest10
      case hy10 => (intro w hSw; (try dsimp only at hSw); go_simp; try (with_reducible rfl))
      try simp only [Act.put]
      refine wpAnyH_take (i := 11) (v := ?v11) rfl (by kernel_rfl) (by kernel_rfl) (by kernel_rfl) (fun _ _ _ h => h) (Or.inl ⟨by rfl, ?hy11⟩) (by assumption) ?rest11
      case hy11 => (intro w hSw; (try dsimp only at hSw); go_simp; try (with_reducible rfl))
      try simp only [Act.put]
      refine wpAnyH_take (i := 12) (v := ?v12) rfl (by kernel_rfl) (by kernel_rfl) (by kernel_rfl) (fun _ _ _ h => h) (Or.inl ⟨by rfl, ?hy12⟩) (by assumption) ?rest12
      case hy12 => (intro w hSw; (try dsimp only at hSw); go_simp; try (with_reducible rfl))
      try simp only [Act.put]
      refine wpAnyH_take (i := 13) (v := ?v13) rfl (by kernel_rfl) (by kernel_rfl) (by kernel_rfl) (fun _ _ _ h => h) (Or.inl ⟨by rfl, ?hy13⟩) (by assumption) ?rest13
      case hy13 => (intro w hSw; (try dsimp only at hSw); go_simp; try (with_reducible rfl))
      try simp only [Act.put]
      refine wpAnyH_take (i := 14) (v := ?v14) rfl (by kernel_rfl) (by kernel_rfl) (by kernel_rfl) (fun _ _ _ h => h) (Or.inl ⟨by rfl, ?hy14⟩) (by assumption) ?rest14
      case hy14 => (intro w hSw; (try dsimp only at hSw); go_simp; try (with_reducible rfl))
      try simp only [Act.put]
      refine wpAnyH_take (i := 15) (v := ?v15) rfl (by kernel_rfl) (by kernel_rfl) (by kernel_rfl) (fun _ _ _ h => h) (Or.inl ⟨by rfl, ?hy15⟩) (by assumption) ?rest15
      case hy15 => (intro w hSw; (try dsimp only at hSw); go_simp; try (with_reducible rfl))
      try simp only [Act.put]
      refine wpAnyH_take (i := 16) (v := ?v16) rfl (by kernel_rfl) (by kernel_rfl) (by kernel_rfl) (fun _ _ _ h => h) (Or.inl ⟨by rfl, ?hy16⟩) (by assumption) ?rest16
      case hy16 => (intro w hSw; (try dsimp only at hSw); go_simp; try (with_reducible rfl))
      try simp only [Act.put]
      refine wpAnyH_take (i := 17) (v := ?v17) rfl (by kernel_rfl) (by kernel_rfl) (by kernel_rfl) (fun _ _ _ h => h) (Or.inl ⟨by rfl, ?hy17⟩) (by assumption) ?rest17
      case hy17 => (intro w hSw; (try dsimp only at hSw); go_simp; try (with_reducible rfl))
      try simp only [Act.put]
      refine wpAnyH_take (i := 18) (v := ?v18) rfl (by kernel_rfl) (by kernel_rfl) (by kernel_rfl) (fun _ _ _ h => h) (Or.inl ⟨by rfl, ?hy18⟩) (by assumption) ?rest18
      case hy18 => (intro w hSw; (try dsimp only at hSw); go_simp; try (with_reducible rfl))
      try simp only [Act.put]
      refine wpAnyH_take (i := 19) (v := ?v19) rfl (by kernel_rfl) (by kernel_rfl) (by kernel_rfl) (fun _ _ _ h => h) (Or.inl ⟨by rfl, ?hy19⟩) (by assumption) ?rest19
      case hy19 => (intro w hSw; (try dsimp only at hSw); go_simp; try (with_reducible rfl))
      try simp only [Act.put]
      refine wpAnyH_take (i := 20) (v := ?v20) rfl (by kernel_rfl) (by kernel_rfl) (by kernel_rfl) (fun _ _ _ h => h) (Or.inl ⟨by rfl, ?hy20⟩) (by assumption) ?rest20
      case hy20 => (intro w hSw; (try dsimp only at hSw); go_simp; try (with_reducible rfl))
      try simp only [Act.put]
      refine wpAnyH_take (i := 21) (v := ?v21) rfl (by kernel_rfl) (by kernel_rfl) (by kernel_rfl) (fun _ _ _ h => h) (Or.inl ⟨by rfl, ?hy21⟩) (by assumption) ?rest21
      case hy21 => (intro w hSw; (try dsimp only at hSw); go_simp; try (with_reducible rfl))
      try simp only [Act.put]
      refine wpAnyH_take (i := 22) (v := ?v22) rfl (by kernel_rfl) (by kernel_rfl) (by kernel_rfl) (fun _ _ _ h => h) (Or.inl ⟨by rfl, ?hy22⟩) (by assumption) ?rest22
      case hy22 => (intro w hSw; (try dsimp only at hSw); go_simp; try (with_reducible rfl))
      try simp only [Act.put]
      refine wpAnyH_take (i := 23) (v := ?v23) rfl (by kernel_rfl) (by kernel_rfl) (by kernel_rfl) (fun _ _ _ h => h) (Or.inl ⟨by rfl, ?hy23⟩) (by assumption) ?rest23
      case hy23 => (intro w hSw; (try dsimp only at hSw); go_simp; try (with_reducible rfl))
      try simp only [Act.put]
      refine wpAnyH_take (i := 24) (v := ?v24) rfl (by kernel_rfl) (by kernel_rfl) (by kernel_rfl) (fun _ _ _ h => h) (Or.inl ⟨by rfl, ?hy24⟩) (by assumption) ?rest24
      case hy24 => (intro w hSw; (try dsimp only at hSw); go_simp; try (with_reducible rfl))
      try simp only [Act.put]
      refine wpAnyH_take (i := 25) (v := ?v25) rfl (by kernel_rfl) (by kernel_rfl) (by kernel_rfl) (fun _ _ _ h => h) (Or.inl ⟨by rfl, ?hy25⟩) (by assumption) ?rest25
      case hy25 => (intro w hSw; (try dsimp only at hSw); go_simp; try (with_reducible rfl))
      try simp only [Act.put]
      refine wpAnyH_take (i := 26) (v := ?v26) rfl (by kernel_rfl) (by kernel_rfl) (by kernel_rfl) (fun _ _ _ h => h) (Or.inl ⟨by rfl, ?hy26⟩) (by assumption) ?rest26
      case hy26 => (intro w hSw; (try dsimp only at hSw); go_simp; try (with_reducible rfl))
      try simp only [Act.put]
      refine wpAnyH_take (i := 27) (v := ?v27) rfl (by kernel_rfl) (by kernel_rfl) (by kernel_rfl) (fun _ _ _ h => h) (Or.inl ⟨by rfl, ?hy27⟩) (by assumption) ?rest27
      case hy27 => (intro w hSw; (try dsimp only at hSw); go_simp; try (with_reducible rfl))
      try simp only [Act.put]
      refine wpAnyH_take (i := 28) (v := ?v28) rfl (by kernel_rfl) (by kernel_rfl) (by kernel_rfl) (fun _ _ _ h => h) (Or.inl ⟨by rfl, ?hy28⟩) (by assumption) ?rest28
      case hy28 => (intro w hSw; (try dsimp only at hSw); go_simp; try (with_reducible rfl))
      try simp only [Act.put]
      refine wpAnyH_take (i := 29) (v := ?v29) rfl (by kernel_rfl) (by kernel_rfl) (by kernel_rfl) (fun _ _ _ h => h) (Or.inl ⟨by rfl, ?hy29⟩) (by assumption) ?rest29
      case hy29 => (intro w hSw; (try dsimp only at hSw); go_simp; try (with_reducible rfl))
      try simp only [Act.put]
      refine wpAnyH_take (i := 30) (v := ?v30) rfl (by kernel_rfl) (by kernel_rfl) (by kernel_rfl) (fun _ _ _ h => h) (Or.inl ⟨by rfl, ?hy30⟩) (by assumption) ?rest30
      case hy30 => (intro w hSw; (try dsimp only at hSw); go_simp; try (with_reducible rfl))
      try simp only [Act.put]
      refine wpAnyH_take (i := 31) (v := ?v31) rfl (by kernel_rfl) (by kernel_rfl) (by kernel_rfl) (fun _ _ _ h => h) (Or.inl ⟨by rfl, ?hy31⟩) (by assumption) ?rest31
      case hy31 => (intro w hSw; (try dsimp only at hSw); go_simp; try (with_reducible rfl))
      try simp only [Act.put]
      refine wpAnyH_take (i := 32) (v := ?v32) rfl (by kernel_rfl) (by kernel_rfl) (by kernel_rfl) (fun _ _ _ h => h) (Or.inl ⟨by rfl, ?hy32⟩) (by assumption) ?rest32
      case hy32 => (intro w hSw; (try dsimp only at hSw); go_simp; try (with_reducible rfl))
      try simp only [Act.put]
      refine wpAnyH_take (i := 33) (v := ?v33) rfl (by kernel_rfl) (by kernel_rfl) (by kernel_rfl) (fun _ _ _ h => h) (Or.inl ⟨by rfl, ?hy33⟩) (by assumption) ?rest33
      case hy33 => (intro w hSw; (try dsimp only at hSw); go_simp; try (with_reducible rfl))
      try simp only [Act.put]
      refine wpAnyH_take (i := 34) (v := ?v34) rfl (by kernel_rfl) (by kernel_rfl) (by kernel_rfl) (fun _ _ _ h => h) (Or.inl ⟨by rfl, ?hy34⟩) (by assumption) ?rest34
      case hy34 => (intro w hSw; (try dsimp only at hSw); go_simp; try (with_reducible rfl))
      try simp only [Act.put]
      refine wpAnyH_take (i := 35) (v := ?v35) rfl (by kernel_rfl) (by kernel_rfl) (by kernel_rfl) (fun _ _ _ h => h) (Or.inl ⟨by rfl, ?hy35⟩) (by assumption) ?rest35
      case hy35 => (intro w hSw; (try dsimp only at hSw); go_simp; try (with_reducible rfl))
      try simp only [Act.put]
      refine wpAnyH_take (i := 36) (v := ?v36) rfl (by kernel_rfl) (by kernel_rfl) (by kernel_rfl) (fun _ _ _ h => h) (Or.inl ⟨by rfl, ?hy36⟩) (by assumption) ?rest36
      case hy36 => (intro w hSw; (try dsimp only at hSw); go_simp; try (with_reducible rfl))
      try simp only [Act.put]
      refine wpAnyH_take (i := 37) (v := ?v37) rfl (by kernel_rfl) (by kernel_rfl) (by kernel_rfl) (fun _ _ _ h => h) (Or.inl ⟨by rfl, ?hy37⟩) (by assumption) ?rest37
      case hy37 => (intro w hSw; (try dsimp only at hSw); go_simp; try (with_reducible rfl))
      try simp only [Act.put]
      refine wpAnyH_take (i := 38) (v := ?v38) rfl (by kernel_rfl) (by kernel_rfl) (by kernel_rfl) (fun _ _ _ h => h) (Or.inl ⟨by rfl, ?hy38⟩) (by assumption) ?rest38
      case hy38 => (intro w hSw; (try dsimp only at hSw); go_simp; try (with_reducible rfl))
      try simp only [Act.put]
      refine wpAnyH_ready (rs := [39]) (by kernel_rfl) (by simp) ?_
      refine AllReadyH.cons rfl (fun K hK => ?_) AllReadyH.nil
      go_simp
      rw [hmx.out, hwp.out]
      refine hK.out _ _ S3.out (fun hHeld2 => ?_)
      clear hK K
      refine wpAnyH_done (by kernel_rfl) ?_ _
      clear hHeld hHeld2 S1 S3 D2 g10 g11 g12 g13 g14 g15 g16 f10 f11 f12 f13 f14 f15 f16 hmx hwp
      generalize (((((((W2.setCell ⟨gs, 10, none⟩ (.int .i64 D.pos)).setCell ⟨gs, 11, none⟩ (.int .i64 D.line)).setCell ⟨gs, 12, none⟩ (.int .i64 D.col)).setCell ⟨gs, 13, none⟩ (.int .i64 D.mode)).setCell ⟨gs, 14, none⟩ (.int .i64 D.dep)).setCell ⟨gs, 15, none⟩ (.int .i64 ((E.s.size : Int) - D.pos))).setCell ⟨gs, 16, none⟩ (.int .i64 D.steps)).drew = W3 at *
      have r8 := blk_cell (j := 8) D3.out.r rfl
      have g15 := blk_cell (j := 15) D3.out.b rfl
      have f15 := blk_frozen D3.out.b 15
      by_cases he : D.err = 0
      · have HN : Hid (heldN E D = (E.s.size : Int) - D.pos) := by show heldN E D = _; unfold heldN; rw [if_neg (by omega)]
        have HE := hide he
        rw [he] at r8
        go_wp2_with fail
        go_quiet (fail)
        go_wp2
        have D5 := hide (D3.out.drewN nq)
        generalize W3.drewN nq = W5 at *
        refine bodyPost_ret (v := .tuple #[vo, .int .i64 0]) (by simp [results, Tryz.results73, go_sem]) rfl ⟨D, vo, HR.out, by rw [HE.out], D5.out.o, ?_, D5.out.l, D5.out.g⟩
        unfold restOf nowCells
        rw [HN.out]
        exact D5.out.b
      · have HN : Hid (heldN E D = 0) := by show heldN E D = _; unfold heldN; rw [if_pos he]
        have d8 : (D.err == 0) = false := by simpa using he
        have D4 := hide (D3.out.set 15 (.int .i64 0))
        have r8' := blk_cell (j := 8) D4.out.r rfl
        go_wp2_with fail
        go_quiet (fail)
        go_wp2
        have D5 := hide (D4.out.drewN nq)
        generalize (W3.setCell ⟨gs, 15, none⟩ (.int .i64 0)).drewN nq = W5 at *
        refine bodyPost_ret (v := .tuple #[vo, .int .i64 D.err]) (by simp [results, Tryz.results73, go_sem]) rfl ⟨D, vo, HR.out, rfl, D5.out.o, ?_, D5.out.l, D5.out.g⟩
        unfold restOf nowCells
        rw [HN.out]
        exact D5.out.b

end Go.Proofs.YtmccnmgaoppogaaGreat

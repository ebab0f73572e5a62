/-
  The walks: the document's seek. (weirref)
-/
import Derived.Test.YtmccnmgaoppogaaGreatD1
namespace Go.Proofs.YtmccnmgaoppogaaGreat
open Go.RowKit

def souV (b : Bool) (e r n : Int) : List Value := [.bool b, .int .i64 e, .int .i64 r, .int .i64 n]

def RetSeekR (gr gs : Nat) (E : Pure.Env) (ve vr vc : Value) (rest : List Value) (C : Pure.Cfg) (vst vtk : Value) (w : World) (e : Ending) (w' : World) : Prop :=
  ∃ D, Pure.Rch E C D ∧ D.err = 0 ∧ D.pos = C.pos ∧ w.grownBy w' (some gr) ∧
    ((e = .returned (.agg #[.bool true, .int .i64 0, .int .i64 D.rule, .int .i64 D.marked]) ∧ Pure.look E D = .wait ∧ RM w' gr gs E ve vr vc rest D vst vtk) ∨
     ∃ F er, e = .returned (.agg #[.bool false, .int .i64 er, .int .i64 F.rule, .int .i64 F.marked]) ∧ Pure.look E D = .stop F er ∧ RM w' gr gs E ve vr vc rest F vst vtk)

/-- what is carried through the document's seek -/
structure SkR (f : Nat → Int) (gr gs g0 go : Nat) (E : Pure.Env) (ve vr vc : Value) (rest : List Value) (C : Pure.Cfg) (vst vtk : Value) (w : World) (D : Pure.Cfg) (W : World) : Prop where
  r : Pure.Rch E C D
  sta : Pure.Sta E f D
  err : D.err = 0
  pos : D.pos = C.pos
  m : RM W gr gs E ve vr vc rest D vst vtk
  gr' : w.grownBy W (some gr)
  out : Blk W go 247 (souV false 0 D.rule D.marked)
  res : Blk W g0 247 (souV false 0 0 0)
  n0 : w.heap.size ≤ g0
  n1 : w.heap.size ≤ go
  n2 : g0 ≠ go
  n3 : gr < w.heap.size
  n4 : gs < w.heap.size

section
variable {f : Nat → Int} {gr gs g0 go : Nat} {E : Pure.Env} {ve vr vc : Value} {rest : List Value} {C : Pure.Cfg} {vst vtk : Value} {w : World} {D F : Pure.Cfg} {W : World}

theorem SkR.alloc (h : SkR f gr gs g0 go E ve vr vc rest C vst vtk w D W) (o : Obj) : SkR f gr gs g0 go E ve vr vc rest C vst vtk w D (W.alloc o) :=
  ⟨h.r, h.sta, h.err, h.pos, h.m.alloc o, grown_alloc h.gr' o, blk_alloc h.out o, blk_alloc h.res o, h.n0, h.n1, h.n2, h.n3, h.n4⟩
theorem SkR.drewN (h : SkR f gr gs g0 go E ve vr vc rest C vst vtk w D W) (n : Nat) : SkR f gr gs g0 go E ve vr vc rest C vst vtk w D (W.drewN n) :=
  ⟨h.r, h.sta, h.err, h.pos, h.m.drewN n, grown_drewN h.gr' n, h.out, h.res, h.n0, h.n1, h.n2, h.n3, h.n4⟩

theorem grown_fresh {V : World} {gx : Nat} (hv : w.grownBy V (some gr)) (hx : w.heap.size ≤ gx) (j : Nat) (u : Value) : w.grownBy (V.setCell ⟨gx, j, none⟩ u) (some gr) :=
  ⟨hv.1, hv.2, hv.3, by have := hv.size; simpa [World.setCell] using this, fun k hk hne => by rw [Below.heap_setCell _ _ _ _ (by show k ≠ gx; omega)]; exact hv.block k hk hne⟩

theorem SkR.next (h : SkR f gr gs g0 go E ve vr vc rest C vst vtk w D W) (gd : Pure.Good E f) (hp : C.pos < E.s.size) (hl : Pure.look E D = .go F)
    (he : (runRCells gs D vst vtk).set 6 (.int .i64 (D.steps + 1)) = runRCells gs F vst vtk) (hr : F.rule = D.rule) (hk : F.marked = D.marked) :
    ((E.s.size + 1) * Pure.per E - F.steps).toNat < ((E.s.size + 1) * Pure.per E - D.steps).toNat ∧ SkR f gr gs g0 go E ve vr vc rest C vst vtk w F (W.setCell ⟨gr, 6, none⟩ (.int .i64 (D.steps + 1))) := by
  have q := Pure.look_go gd h.sta h.err hl
  have b := q.1.bound gd
  have n0 := h.n0
  have n1 := h.n1
  have n3 := h.n3
  refine ⟨by rw [q.2.2.2.1] at b ⊢; omega, .step h.r ?_, q.1, q.2.1, q.2.2.1.trans h.pos, h.m.set 6 _ he, grown_set h.gr' _ _, by rw [hr, hk]; exact blk_other h.out (by omega) _ _, blk_other h.res (by omega) _ _, h.n0, h.n1, h.n2, h.n3, h.n4⟩
  unfold Pure.mic
  have := h.err
  have := h.pos
  rw [if_neg (by omega), hl]

/-- what comes back -/
theorem SkR.back (h : SkR f gr gs g0 go E ve vr vc rest C vst vtk w D W) {V : World} {X : Pure.Cfg} (hm : RM V gr gs E ve vr vc rest X vst vtk) (hv : w.grownBy V (some gr)) (hb : Blk V g0 247 (souV false 0 0 0)) (a b c d : Value) :
    RM ((((V.setCell ⟨g0, 0, none⟩ a).setCell ⟨g0, 1, none⟩ b).setCell ⟨g0, 2, none⟩ c).setCell ⟨g0, 3, none⟩ d) gr gs E ve vr vc rest X vst vtk ∧ w.grownBy ((((V.setCell ⟨g0, 0, none⟩ a).setCell ⟨g0, 1, none⟩ b).setCell ⟨g0, 2, none⟩ c).setCell ⟨g0, 3, none⟩ d) (some gr) ∧ Blk ((((V.setCell ⟨g0, 0, none⟩ a).setCell ⟨g0, 1, none⟩ b).setCell ⟨g0, 2, none⟩ c).setCell ⟨g0, 3, none⟩ d) g0 247 [a, b, c, d] := by
  have n0 := h.n0
  have n3 := h.n3
  have n4 := h.n4
  have k1 := blk_set hb 0 a
  have k2 := blk_set k1 1 b
  have k3 := blk_set k2 2 c
  have m1 := hm.out hb (by decide) (by decide) (by decide) (by omega) (by omega) 0 a
  have m2 := m1.out k1 (by decide) (by decide) (by decide) (by omega) (by omega) 1 b
  have m3 := m2.out k2 (by decide) (by decide) (by decide) (by omega) (by omega) 2 c
  refine ⟨m3.out k3 (by decide) (by decide) (by decide) (by omega) (by omega) 3 d, ?_, blk_set k3 3 d⟩
  have st : ∀ (V : World) (j : Nat) (u : Value), w.grownBy V (some gr) → w.grownBy (V.setCell ⟨g0, j, none⟩ u) (some gr) := fun V j u hv =>
    ⟨hv.1, hv.2, hv.3, by have := hv.size; simpa [World.setCell] using this, fun k hk hne => by rw [Below.heap_setCell _ _ _ _ (by show k ≠ g0; omega)]; exact hv.block k hk hne⟩
  exact st _ _ _ (st _ _ _ (st _ _ _ (st _ _ _ hv)))
end

theorem size_sought : (Tryz.prog.info? 247).map (·.size) = some 4 := by kernel_rfl

set_option maxRecDepth 100000 in
theorem seek_ret {W : World} {g : Nat} {a b c d : Value} {A : Act} {Q : Ending → World → Prop} (ht : A.tmps.getD 2 undef = .pointer (some ⟨g, 0, none⟩)) (hd : A.defers = []) (h : Blk W g 247 [a, b, c, d]) (hq : Q (.returned (.agg #[a, b, c, d])) W) :
    bodyPost Tryz.prog Tryz.f131 Q .ret A W := by
  refine bodyPost_ret (v := .agg #[a, b, c, d]) ?_ hd hq
  rw [results_cell1 Tryz.results131, ht]
  exact run_loadVar_row W g 247 247 #[a, b, c, d] (0, 0) _ h Tryz.underlying247 rfl size_sought

theorem get_bt {s : ByteArray} {n : Nat} (h : n < s.size) : wrap64 ((s[n]'h).toNat : Int) = bt s n := by
  have e : bt s n = ((s[n]'h).toNat : Int) := by
    have h' : n < s.data.size := h
    unfold bt
    rw [List.getD_eq_getElem?_getD, List.getElem?_eq_getElem (by simpa using h')]
    rfl
  rw [← e]
  have := bt_bd s n
  unfold wrap64
  omega

set_option maxRecDepth 100000 in
set_option maxHeartbeats 4000000 in
theorem refSeek_any (f : Nat → Int) (gr gs : Nat) (E : Pure.Env) (ve vr vc : Value) (rest : List Value) (C : Pure.Cfg) (vst vtk : Value) (w : World) (gd : Pure.Good E f) (h : Pure.Sta E f C) (he : C.err = 0) (hpos : C.pos < E.s.size) (hs : E.s.size ≤ 1099511627776) (m : RM w gr gs E ve vr vc rest C vst vtk)
    (hfresh : C.ins = Pure.ig E.p.ents C.mode.toNat ∧ C.c = 0 ∧ C.looked = 0 ∧ C.rule = 0 ∧ C.marked = 0) :
    Calls Tryz.prog 131 #[.pointer (some ⟨gr, 0, none⟩)] w (RetSeekR gr gs E ve vr vc rest C vst vtk w) := by
  obtain ⟨⟨ge, ce, rfl, he1, he2⟩, -, ⟨gc, cc, rfl, hc1, hc2⟩⟩ := m.l.someE gd.right
  have hmd := h.mode
  obtain ⟨mm, hmm⟩ := Int.eq_ofNat_of_zero_le hmd.1
  have hml : mm < E.p.ents.length := by omega
  have hmi : (mm : Int) < (E.p.ents.length : Int) := by omega
  have q0 := own_int m.l.e hml
  have c0 := blk_cell (j := 0) m.blk rfl
  have c4 := blk_cell (j := 4) m.blk (u := .int .i64 mm) (by rw [← hmm]; rfl)
  have s0 := blk_cell (j := 0) m.scn rfl
  have eins : Pure.ig E.p.ents mm = C.ins := by rw [hfresh.1, hmm]; rfl
  rw [eins] at q0
  have lr := blk_lt m.blk
  have ls := blk_lt m.scn
  have le := (own_base m.l.e).2
  have S0 : Hid (∀ nq, SkR f gr gs w.heap.size (w.heap.size + 1) E (.slice (some ⟨ge, 0, none⟩) E.p.ents.length ce) vr (.slice (some ⟨gc, 0, none⟩) E.p.code.length cc) rest C vst vtk w C (((w.alloc (.cells #[.bool false, .int .i64 0, .int .i64 0, .int .i64 0] 247)).alloc (.cells #[.bool false, .int .i64 0, .int .i64 0, .int .i64 0] 247)).drewN nq)) := fun nq => by
    have b2 := heap_alloc_new (w.alloc (.cells #[.bool false, .int .i64 0, .int .i64 0, .int .i64 0] 247)) (.cells #[.bool false, .int .i64 0, .int .i64 0, .int .i64 0] 247)
    rw [World.size_alloc] at b2
    refine ⟨.refl _, h, he, rfl, ((m.alloc _).alloc _).drewN nq, grown_drewN (grown_alloc (grown_alloc (World.grownBy.refl _ _) _) _) nq, ?_, ?_, Nat.le_refl _, by omega, by omega, lr, ls⟩
    · rw [hfresh.2.2.2.1, hfresh.2.2.2.2]; exact b2
    · exact blk_alloc (heap_alloc_new _ _) _
  have HF := hide (And.intro hfresh.2.1 hfresh.2.2.1)
  have GD := hide gd
  have PC : Hid (C.pos < E.s.size) := hpos
  have ne1 : gr ≠ w.heap.size := by omega
  have ne2 : gr ≠ w.heap.size + 1 := by omega
  have ne3 : gs ≠ w.heap.size := by omega
  have ne4 : gs ≠ w.heap.size + 1 := by omega
  have ne5 : ge ≠ w.heap.size := by omega
  have ne6 : ge ≠ w.heap.size + 1 := by omega
  clear h he m gd hpos hfresh eins hmm hmd
  go_enter Tryz.func131, Tryz.ntmps131
  go_wp2_with fail
  go_quiet (fail)
  clear q0 c0 c4 s0
  have S1 := hide (S0.out nq)
  clear S0 ne1 ne2 ne3 ne4 ne5 ne6
  go_wp2_with fail
  generalize ((w.alloc (.cells #[.bool false, .int .i64 0, .int .i64 0, .int .i64 0] 247)).alloc (.cells #[.bool false, .int .i64 0, .int .i64 0, .int .i64 0] 247)).drewN nq = W0 at *
  generalize w.heap.size + 1 = go at *
  generalize hg0 : w.heap.size = g0 at *
  go_loopg [4, 5, 6] ((E.s.size + 1) * Pure.per E - C.steps).toNat (fun gk iv lv cv wr => ∃ D, iv = .int .i64 D.ins ∧ lv = .int .i64 D.looked ∧ cv = .int .i64 D.c ∧ gk = ((E.s.size + 1) * Pure.per E - D.steps).toNat ∧ SkR f gr gs g0 go E (.slice (some ⟨ge, 0, none⟩) E.p.ents.length ce) vr (.slice (some ⟨gc, 0, none⟩) E.p.code.length cc) rest C vst vtk w D wr)
  case atStart => exact ⟨C, rfl, by rw [HF.out.2], by rw [HF.out.1], rfl, S1.out⟩
  case round =>
    clear S1
    obtain ⟨D, rfl, rfl, rfl, rfl, hS⟩ := hrel
    have HS := hide hS
    have hi := hS.sta.ins
    have hi' := (hS.sta.live hS.err).1
    have hlk := hS.sta.looked
    have hcc := hS.sta.c
    have hstp := hS.sta.steps.1
    have hstb := hS.sta.steps_small GD.out hs
    have hwi := hS.sta.within
    have hp0 := hS.sta.pos
    have n1' := GD.out.n1
    have m1 := GD.out.most
    obtain ⟨k, hk⟩ := Int.eq_ofNat_of_zero_le hi.1
    have hk1 : k < E.p.code.length := by omega
    have hk2 : (k : Int) < (E.p.code.length : Int) := by omega
    have q := own_ins hS.m.l.c hk1
    have q0 := q.1
    have q1 := q.2.1
    have q2 := q.2.2.1
    have q3 := q.2.2.2
    have clt := (own_base hS.m.l.c).2
    have rlt := blk_lt hS.m.blk
    have slt := blk_lt hS.m.scn
    have olt := blk_lt hS.out
    have zlt := blk_lt hS.res
    have c0 := blk_cell (j := 0) hS.m.blk rfl
    have c1 := blk_cell (j := 1) hS.m.blk rfl
    have c6 := blk_cell (j := 6) hS.m.blk rfl
    have f6 := blk_frozen hS.m.blk 6
    have s2 := blk_cell (j := 2) hS.m.scn rfl
    have s6 := blk_cell (j := 6) hS.m.scn rfl
    have ok := GD.out.insOK hk1
    have nx' := GD.out.next hk1
    have ne1 : wr.heap.size ≠ gr := by omega
    have ne2 : wr.heap.size ≠ gs := by omega
    have ne3 : wr.heap.size ≠ gc := by omega
    have ne4 : wr.heap.size ≠ go := by omega
    have ne5 : wr.heap.size ≠ g0 := by omega
    have ne1' : gr ≠ wr.heap.size := by omega
    have ne4' : go ≠ wr.heap.size := by omega
    have ne5' : g0 ≠ wr.heap.size := by omega
    have HK := hide hk
    have E1 : Hid (D.ins.toNat = k) := by show _ = _; rw [hk]; rfl
    rw [hk]
    unfold Pure.InsOK at ok
    generalize hX : Pure.cg E.p.code k = x at *
    have HX := hide hX
    clear hX q hS hi hi' hk
    by_cases o4 : x.op = 4
    · have t1 : 0 ≤ x.to ∧ x.to < E.p.code.length := by omega
      have HL : Hid (Pure.look E D = .go { D with steps := D.steps + 1, ins := x.to }) := by
        show _ = _
        unfold Pure.look
        rw [E1.out, HX.out]
        simp [o4]
      rw [o4] at q0
      clear ok nx'
      go_wp2
      obtain ⟨hk1', hk2'⟩ := HS.out.next GD.out PC.out HL.out rfl rfl rfl
      go_roundg ((E.s.size + 1) * Pure.per E - (D.steps + 1)).toNat
      case measure => exact hk1'
      case rel => exact ⟨{ D with steps := D.steps + 1, ins := x.to }, rfl, rfl, rfl, rfl, hk2'.alloc _⟩
    by_cases o3 : x.op = 3
    · rw [o3] at q0
      have nn := nx' (by omega)
      have t1 : 0 ≤ x.to ∧ x.to < E.p.code.length := by omega
      clear nx' ok
      by_cases ha : x.a ≤ D.c ∧ D.c ≤ x.b
      · have HL : Hid (Pure.look E D = .go { D with steps := D.steps + 1, ins := x.to }) := by
          show _ = _
          unfold Pure.look
          rw [E1.out, HX.out]
          simp [o3, ha.1, ha.2]
        have d1 := ha.1
        have d2 := ha.2
        clear ha
        go_wp2
        obtain ⟨hk1', hk2'⟩ := HS.out.next GD.out PC.out HL.out rfl rfl rfl
        go_roundg ((E.s.size + 1) * Pure.per E - (D.steps + 1)).toNat
        case measure => exact hk1'
        case rel => exact ⟨{ D with steps := D.steps + 1, ins := x.to }, rfl, rfl, rfl, rfl, hk2'.alloc _⟩
      · have HL : Hid (Pure.look E D = .go { D with steps := D.steps + 1, ins := D.ins + 1 }) := by
          show _ = _
          unfold Pure.look
          rw [E1.out, HX.out]
          simp only [o3]
          rw [if_neg (by decide), if_neg (by decide), if_pos True.intro, if_neg ha]
        have ei : Hid ((k : Int) + 1 = D.ins + 1) := by show _ = _; rw [HK.out]
        by_cases ha1 : x.a ≤ D.c
        · have hb1 : decide (D.c ≤ x.b) = false := decide_eq_false (fun h => ha ⟨ha1, h⟩)
          clear ha
          go_wp2
          obtain ⟨hk1', hk2'⟩ := HS.out.next GD.out PC.out HL.out rfl rfl rfl
          go_roundg ((E.s.size + 1) * Pure.per E - (D.steps + 1)).toNat
          case measure => exact hk1'
          case rel => exact ⟨{ D with steps := D.steps + 1, ins := D.ins + 1 }, by rw [ei.out], rfl, rfl, rfl, hk2'.alloc _⟩
        · have hb1 : decide (x.a ≤ D.c) = false := decide_eq_false ha1
          clear ha ha1
          go_wp2
          obtain ⟨hk1', hk2'⟩ := HS.out.next GD.out PC.out HL.out rfl rfl rfl
          go_roundg ((E.s.size + 1) * Pure.per E - (D.steps + 1)).toNat
          case measure => exact hk1'
          case rel => exact ⟨{ D with steps := D.steps + 1, ins := D.ins + 1 }, by rw [ei.out], rfl, rfl, rfl, hk2'.alloc _⟩
    have k0 := blk_cell (j := 0) HS.out.out rfl
    have k1 := blk_cell (j := 1) HS.out.out rfl
    have k2 := blk_cell (j := 2) HS.out.out rfl
    have k3 := blk_cell (j := 3) HS.out.out rfl
    have y0 := blk_cell (j := 0) HS.out.res rfl
    have y1 := blk_cell (j := 1) HS.out.res rfl
    have y2 := blk_cell (j := 2) HS.out.res rfl
    have y3 := blk_cell (j := 3) HS.out.res rfl
    have j0 := blk_frozen HS.out.res 0
    have j1 := blk_frozen HS.out.res 1
    have j2 := blk_frozen HS.out.res 2
    have j3 := blk_frozen HS.out.res 3
    have ngo : go ≠ gr := by have := HS.out.n1; have := HS.out.n3; omega
    have ng0 : g0 ≠ gr := by have := HS.out.n0; have := HS.out.n3; omega
    have ngg : g0 ≠ go := HS.out.n2
    have ngg' : go ≠ g0 := fun e => ngg e.symm
    by_cases o5 : x.op = 5
    · have HL : Hid (Pure.look E D = .stop { D with steps := D.steps + 1, ins := D.ins + 1 } 0) := by
        show _ = _
        unfold Pure.look
        rw [E1.out, HX.out]
        simp [o5]
      rw [o5] at q0
      clear ok nx'
      have S6 := HS.out.m.set 6 (.int .i64 (D.steps + 1)) (D := { D with steps := D.steps + 1, ins := D.ins + 1 }) (vst' := vst) (vtk' := vtk) rfl
      have BK := hide (HS.out.back S6 (grown_set HS.out.gr' _ _) (blk_other HS.out.res ng0 _ _) (.bool false) (.int .i64 0) (.int .i64 D.rule) (.int .i64 D.marked))
      clear S6
      go_wp2
      generalize ((((wr.setCell ⟨gr, 6, none⟩ (.int .i64 (D.steps + 1))).setCell ⟨g0, 0, none⟩ (.bool false)).setCell ⟨g0, 1, none⟩ (.int .i64 0)).setCell ⟨g0, 2, none⟩ (.int .i64 D.rule)).setCell ⟨g0, 3, none⟩ (.int .i64 D.marked) = V at *
      exact seek_ret rfl rfl (blk_alloc BK.out.2.2 _) ⟨D, HS.out.r, HS.out.err, HS.out.pos, grown_alloc BK.out.2.1 _, .inr ⟨{ D with steps := D.steps + 1, ins := D.ins + 1 }, 0, rfl, HL.out, BK.out.1.alloc _⟩⟩
    have fo2 := blk_frozen HS.out.out 2
    have fo3 := blk_frozen HS.out.out 3
    have fo0 := blk_frozen HS.out.out 0
    have fo1 := blk_frozen HS.out.out 1
    have ei : Hid ((k : Int) + 1 = D.ins + 1) := by show _ = _; rw [HK.out]
    by_cases o1 : x.op = 1
    · rw [o1] at q0
      have nn := nx' (by omega)
      clear nx'
      by_cases hl0 : 0 < D.looked
      · have HL : Hid (Pure.look E D = .go { D with steps := D.steps + 1, ins := D.ins + 1, rule := x.a, marked := D.looked }) := by
          show _ = _
          unfold Pure.look
          rw [E1.out, HX.out]
          simp [o1, hl0]
        have q' := Pure.look_go GD.out HS.out.sta HS.out.err HL.out
        have bq := q'.1.bound GD.out
        have o2' := blk_set (blk_set HS.out.out 2 (.int .i64 x.a)) 3 (.int .i64 D.looked)
        have n1 := HS.out.n1
        have n3 := HS.out.n3
        have n4 := HS.out.n4
        have mm1 := HS.out.m.out HS.out.out (by decide) (by decide) (by decide) (by omega) (by omega) 2 (.int .i64 x.a)
        have mm2 := mm1.out (blk_set HS.out.out 2 (.int .i64 x.a)) (by decide) (by decide) (by decide) (by omega) (by omega) 3 (.int .i64 D.looked)
        have mm3 := mm2.set 6 (.int .i64 (D.steps + 1)) (D := { D with steps := D.steps + 1, ins := D.ins + 1, rule := x.a, marked := D.looked }) (vst' := vst) (vtk' := vtk) rfl
        have st : ∀ (V : World) (j : Nat) (u : Value), w.grownBy V (some gr) → w.grownBy (V.setCell ⟨go, j, none⟩ u) (some gr) := fun V j u hv =>
          ⟨hv.1, hv.2, hv.3, by have := hv.size; simpa [World.setCell] using this, fun k' hk' hne => by rw [Below.heap_setCell _ _ _ _ (by show k' ≠ go; omega)]; exact hv.block k' hk' hne⟩
        have NX : Hid (SkR f gr gs g0 go E (.slice (some ⟨ge, 0, none⟩) E.p.ents.length ce) vr (.slice (some ⟨gc, 0, none⟩) E.p.code.length cc) rest C vst vtk w { D with steps := D.steps + 1, ins := D.ins + 1, rule := x.a, marked := D.looked } (((wr.setCell ⟨go, 2, none⟩ (.int .i64 x.a)).setCell ⟨go, 3, none⟩ (.int .i64 D.looked)).setCell ⟨gr, 6, none⟩ (.int .i64 (D.steps + 1)))) :=
          ⟨.step HS.out.r (by unfold Pure.mic; have := HS.out.err; have := HS.out.pos; have := PC.out; rw [if_neg (by omega), HL.out]), q'.1, q'.2.1, HS.out.pos, mm3, grown_set (st _ _ _ (st _ _ _ HS.out.gr')) _ _, blk_other o2' ngo _ _, blk_other (blk_other (blk_other HS.out.res ngg _ _) ngg _ _) ng0 _ _, HS.out.n0, HS.out.n1, HS.out.n2, HS.out.n3, HS.out.n4⟩
        have hms : ((E.s.size + 1) * Pure.per E - (D.steps + 1)).toNat < ((E.s.size + 1) * Pure.per E - D.steps).toNat := by have : D.steps + 1 ≤ (E.s.size + 1) * Pure.per E := bq; omega
        clear q' bq o2' mm1 mm2 mm3 st ok
        go_wp2
        go_roundg ((E.s.size + 1) * Pure.per E - (D.steps + 1)).toNat
        case measure => exact hms
        case rel => exact ⟨{ D with steps := D.steps + 1, ins := D.ins + 1, rule := x.a, marked := D.looked }, by rw [ei.out], rfl, rfl, rfl, NX.out.alloc _⟩
      · have HL : Hid (Pure.look E D = .go { D with steps := D.steps + 1, ins := D.ins + 1 }) := by
          show _ = _
          unfold Pure.look
          rw [E1.out, HX.out]
          simp [o1, hl0]
        have d1 : decide ((0 : Int) < D.looked) = false := decide_eq_false hl0
        clear ok
        go_wp2
        obtain ⟨hk1', hk2'⟩ := HS.out.next GD.out PC.out HL.out rfl rfl rfl
        go_roundg ((E.s.size + 1) * Pure.per E - (D.steps + 1)).toNat
        case measure => exact hk1'
        case rel => exact ⟨{ D with steps := D.steps + 1, ins := D.ins + 1 }, by rw [ei.out], rfl, rfl, rfl, hk2'.alloc _⟩
    have o2 : x.op = 2 := by omega
    rw [o2] at q0
    have nn := nx' (by omega)
    have O2 := hide o2
    clear nx' ok o1 o3 o4 o5 o2 fo0 fo1 fo2 fo3 j0 j1 j2 j3 y0 y1 y2 y3 k0 k1 k2 k3 f6
    go_wp2_with fail
    go_quiet ((go_at_call 148; exact Calls.quiet_of_same (next_any gs E _ _ _ rest D.pos D.looked _ (blk_alloc HS.out.m.scn _) (by omega) (by omega) hs)))
    have H1 := hide ((HS.out.alloc (.cells #[.int .i64 2, .int .i64 x.a, .int .i64 x.b, .int .i64 x.to] 61)).drewN nq)
    clear c0 c1 c6 s2 s6 q0 q1 q2 q3 HS clt rlt slt olt zlt
    generalize (wr.alloc (.cells #[.int .i64 2, .int .i64 x.a, .int .i64 x.b, .int .i64 x.to] 61)).drewN nq = W1 at *
    have c0 := blk_cell (j := 0) H1.out.m.blk rfl
    have c1 := blk_cell (j := 1) H1.out.m.blk rfl
    have c6 := blk_cell (j := 6) H1.out.m.blk rfl
    have f6 := blk_frozen H1.out.m.blk 6
    have s6 := blk_cell (j := 6) H1.out.m.scn rfl
    have k0 := blk_cell (j := 0) H1.out.out rfl
    have k1 := blk_cell (j := 1) H1.out.out rfl
    have k2 := blk_cell (j := 2) H1.out.out rfl
    have k3 := blk_cell (j := 3) H1.out.out rfl
    have y0 := blk_cell (j := 0) H1.out.res rfl
    have y1 := blk_cell (j := 1) H1.out.res rfl
    have y2 := blk_cell (j := 2) H1.out.res rfl
    have y3 := blk_cell (j := 3) H1.out.res rfl
    have j0 := blk_frozen H1.out.res 0
    have j1 := blk_frozen H1.out.res 1
    have j2 := blk_frozen H1.out.res 2
    have j3 := blk_frozen H1.out.res 3
    have fo0 := blk_frozen H1.out.out 0
    have fo1 := blk_frozen H1.out.out 1
    have NS := hide (And.intro H1.out.n1 (And.intro H1.out.n3 H1.out.n4))
    by_cases hge : (E.s.size : Int) ≤ D.pos + D.looked
    · cases hE : E.ended
      · have en : nx E D.pos D.looked = 1 := by unfold nx; rw [if_neg (by omega), hE]; rfl
        have HL : Hid (Pure.look E D = .wait) := by
          show _ = _
          unfold Pure.look
          rw [E1.out, HX.out]
          simp [O2.out, hge, hE]
        have n1 := NS.out.1
        have n3 := NS.out.2.1
        have n4 := NS.out.2.2
        have mm1 := H1.out.m.out H1.out.out (by decide) (by decide) (by decide) (by omega) (by omega) 0 (.bool true)
        have BK := hide (H1.out.back mm1 (grown_fresh H1.out.gr' n1 _ _) (blk_other H1.out.res ngg _ _) (.bool true) (.int .i64 0) (.int .i64 D.rule) (.int .i64 D.marked))
        clear mm1 hE n1 n3 n4
        rw [en]
        clear en
        go_wp2
        generalize ((((W1.setCell ⟨go, 0, none⟩ (.bool true)).setCell ⟨g0, 0, none⟩ (.bool true)).setCell ⟨g0, 1, none⟩ (.int .i64 0)).setCell ⟨g0, 2, none⟩ (.int .i64 D.rule)).setCell ⟨g0, 3, none⟩ (.int .i64 D.marked) = V at *
        exact seek_ret rfl rfl BK.out.2.2 ⟨D, H1.out.r, H1.out.err, H1.out.pos, BK.out.2.1, .inl ⟨rfl, HL.out, BK.out.1⟩⟩
      · have en : nx E D.pos D.looked = 2 := by unfold nx; rw [if_neg (by omega), hE]; rfl
        have HL : Hid (Pure.look E D = .stop { D with steps := D.steps + 1, ins := D.ins + 1 } 0) := by
          show _ = _
          unfold Pure.look
          rw [E1.out, HX.out]
          simp [O2.out, hge, hE]
        have S6 := H1.out.m.set 6 (.int .i64 (D.steps + 1)) (D := { D with steps := D.steps + 1, ins := D.ins + 1 }) (vst' := vst) (vtk' := vtk) rfl
        have BK := hide (H1.out.back S6 (grown_set H1.out.gr' _ _) (blk_other H1.out.res ng0 _ _) (.bool false) (.int .i64 0) (.int .i64 D.rule) (.int .i64 D.marked))
        clear S6 hE
        rw [en]
        clear en
        go_wp2
        generalize ((((W1.setCell ⟨gr, 6, none⟩ (.int .i64 (D.steps + 1))).setCell ⟨g0, 0, none⟩ (.bool false)).setCell ⟨g0, 1, none⟩ (.int .i64 0)).setCell ⟨g0, 2, none⟩ (.int .i64 D.rule)).setCell ⟨g0, 3, none⟩ (.int .i64 D.marked) = V at *
        exact seek_ret rfl rfl BK.out.2.2 ⟨D, H1.out.r, H1.out.err, H1.out.pos, BK.out.2.1, .inr ⟨{ D with steps := D.steps + 1, ins := D.ins + 1 }, 0, rfl, HL.out, BK.out.1⟩⟩
    by_cases hmo : D.looked = E.most
    · have en : nx E D.pos D.looked = 3 := by unfold nx; rw [if_pos (by omega), if_pos hmo]
      have HL : Hid (Pure.look E D = .stop { D with steps := D.steps + 1, ins := D.ins + 1 } 5) := by
        show _ = _
        unfold Pure.look
        rw [E1.out, HX.out]
        have h1 : E.most ≤ D.looked := by omega
        simp [O2.out, hge, h1]
      have n1 := NS.out.1
      have n3 := NS.out.2.1
      have n4 := NS.out.2.2
      have S6 := H1.out.m.set 6 (.int .i64 (D.steps + 1)) (D := { D with steps := D.steps + 1, ins := D.ins + 1 }) (vst' := vst) (vtk' := vtk) rfl
      have S7 := S6.out (blk_other H1.out.out ngo _ _) (by decide) (by decide) (by decide) (by omega) (by omega) 1 (.int .i64 5)
      have BK := hide (H1.out.back S7 (grown_fresh (grown_set H1.out.gr' _ _) n1 _ _) (blk_other (blk_other H1.out.res ng0 _ _) ngg _ _) (.bool false) (.int .i64 5) (.int .i64 D.rule) (.int .i64 D.marked))
      clear S6 S7 hmo n1 n3 n4
      rw [en]
      clear en
      go_wp2
      generalize (((((W1.setCell ⟨gr, 6, none⟩ (.int .i64 (D.steps + 1))).setCell ⟨go, 1, none⟩ (.int .i64 5)).setCell ⟨g0, 0, none⟩ (.bool false)).setCell ⟨g0, 1, none⟩ (.int .i64 5)).setCell ⟨g0, 2, none⟩ (.int .i64 D.rule)).setCell ⟨g0, 3, none⟩ (.int .i64 D.marked) = V at *
      exact seek_ret rfl rfl BK.out.2.2 ⟨D, H1.out.r, H1.out.err, H1.out.pos, BK.out.2.1, .inr ⟨{ D with steps := D.steps + 1, ins := D.ins + 1 }, 5, rfl, HL.out, BK.out.1⟩⟩
    have en : nx E D.pos D.looked = 0 := by unfold nx; rw [if_pos (by omega), if_neg hmo]
    have HL : Hid (Pure.look E D = .go { D with steps := D.steps + 1, ins := D.ins + 1, c := bt E.s (D.pos + D.looked).toNat, looked := D.looked + 1 }) := by
      show _ = _
      unfold Pure.look
      rw [E1.out, HX.out]
      have h1 : ¬E.most ≤ D.looked := by omega
      simp [O2.out, hge, h1]
    obtain ⟨pl, hpl⟩ := Int.eq_ofNat_of_zero_le (show 0 ≤ D.pos + D.looked by omega)
    have hpl1 : pl < E.s.size := by omega
    have hpl2 : (pl : Int) < (E.s.size : Int) := by omega
    have hw : IntKind.i64.wrap (D.pos + D.looked) = (pl : Int) := by rw [wrap_in _ (by omega) (by omega), hpl]
    have EP : Hid ((D.pos + D.looked).toNat = pl) := by show _ = _; rw [hpl]; rfl
    clear hge hmo hpl
    rw [en]
    clear en
    go_wp2_with fail
    go_quiet (fail)
    rw [get_bt hpl1]
    clear c0 c1 c6 f6 s6 k0 k1 k2 k3 y0 y1 y2 y3 j0 j1 j2 j3 fo0 fo1 hw
    have H2 := hide (H1.out.drewN nq)
    generalize W1.drewN nq = W2 at *
    have c6 := blk_cell (j := 6) H2.out.m.blk rfl
    have f6 := blk_frozen H2.out.m.blk 6
    obtain ⟨hk1', hk2'⟩ := H2.out.next GD.out PC.out HL.out rfl rfl rfl
    have NX := hide hk2'
    have MS := hide hk1'
    clear hk1' hk2'
    generalize hcb : bt E.s pl = cb at *
    have HC : Hid (bt E.s (D.pos + D.looked).toNat = cb) := by show _ = _; rw [EP.out, hcb]
    clear hcb
    go_wp2
    go_roundg ((E.s.size + 1) * Pure.per E - (D.steps + 1)).toNat
    case measure => exact MS.out
    case rel => exact ⟨{ D with steps := D.steps + 1, ins := D.ins + 1, c := bt E.s (D.pos + D.looked).toNat, looked := D.looked + 1 }, by rw [ei.out], rfl, by rw [HC.out], rfl, NX.out⟩

end Go.Proofs.YtmccnmgaoppogaaGreat

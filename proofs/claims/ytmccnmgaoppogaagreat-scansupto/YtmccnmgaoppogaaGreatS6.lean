/-
  The walks: instructions. (scan)
-/
import Derived.Test.YtmccnmgaoppogaaGreatSB
import Derived.Deep.LoopGhost
import Derived.Test.YtmccnmgaoppogaaGreatR4
namespace Go.Proofs.YtmccnmgaoppogaaGreat
open Go.RowKit

theorem Pure.Sta.bound {E : Pure.Env} {f : Nat → Int} {C : Pure.Cfg} (_g : Pure.Good E f) (h : Pure.Sta E f C) : C.steps ≤ (E.s.size + 1) * Pure.per E := by
  have h1 := h.steps.2
  have := Pure.per_up (E := E) (a := C.pos) (b := E.s.size + 1) (k := C.looked) h.looked (by have := h.within; have := h.looked; omega)
  omega
theorem Pure.Good.per {E : Pure.Env} {f : Nat → Int} (g : Pure.Good E f) : 0 ≤ Pure.per E ∧ Pure.per E ≤ 3250000 := by
  have n := g.n1
  have m := g.most
  unfold Pure.per
  refine ⟨Int.mul_nonneg (by omega) (by omega), ?_⟩
  have h1 : (E.most + 1) * (E.p.code.length : Int) ≤ 65 * (E.p.code.length : Int) := Int.mul_le_mul_of_nonneg_right (by omega) (by omega)
  omega
theorem Pure.Sta.steps_small {E : Pure.Env} {f : Nat → Int} {C : Pure.Cfg} (g : Pure.Good E f) (h : Pure.Sta E f C) (hs : E.s.size ≤ 1099511627776) : C.steps ≤ 4000000000000000000 := by
  have h1 := h.bound g
  have p := g.per
  have h2 : ((E.s.size : Int) + 1) * Pure.per E ≤ ((E.s.size : Int) + 1) * 3250000 := Int.mul_le_mul_of_nonneg_left p.2 (by omega)
  omega

def RetSeek (g : Nat) (E : Pure.Env) (ve vr vc vh : Value) (C : Pure.Cfg) (w : World) (e : Ending) (w' : World) : Prop :=
  ∃ D, Pure.Rch E C D ∧ D.err = 0 ∧ D.pos = C.pos ∧ w.grownBy w' (some g) ∧
    ((e = .returned (.tuple #[.bool false, .int .i64 0]) ∧ Pure.look E D = .wait ∧ Mach w' g E ve vr vc vh D 0) ∨
     ∃ F er, e = .returned (.tuple #[.bool true, .int .i64 er]) ∧ Pure.look E D = .stop F er ∧ Mach w' g E ve vr vc vh F 0)

def SeekInv (f : Nat → Int) (g : Nat) (E : Pure.Env) (ve vr vc vh : Value) (C : Pure.Cfg) (w : World) (gk : Nat) (wr : World) : Prop :=
  ∃ D, Pure.Rch E C D ∧ Pure.Sta E f D ∧ D.err = 0 ∧ D.pos = C.pos ∧ Mach wr g E ve vr vc vh D 0 ∧ w.grownBy wr (some g) ∧ gk = ((E.s.size + 1) * Pure.per E - D.steps).toNat

theorem SeekInv.next {f : Nat → Int} {g : Nat} {E : Pure.Env} {ve vr vc vh : Value} {C D F : Pure.Cfg} {w wr : World} (gd : Pure.Good E f) (r : Pure.Rch E C D) (h : Pure.Sta E f D) (he : D.err = 0) (hp : D.pos = C.pos) (hpos : D.pos < E.s.size) (hl : Pure.look E D = .go F)
    (m : Mach wr g E ve vr vc vh F 0) (hg : w.grownBy wr (some g)) : ∃ k, k < ((E.s.size + 1) * Pure.per E - D.steps).toNat ∧ SeekInv f g E ve vr vc vh C w k wr := by
  have q := Pure.look_go gd h he hl
  have b := q.1.bound gd
  refine ⟨((E.s.size + 1) * Pure.per E - F.steps).toNat, by rw [q.2.2.2.1] at b ⊢; omega, F, .step r ?_, q.1, q.2.1, q.2.2.1.trans hp, m, hg, rfl⟩
  unfold Pure.mic
  rw [if_neg (by omega), hl]

set_option maxRecDepth 100000 in
set_option maxHeartbeats 4000000 in
theorem seek_any (f : Nat → Int) (g : Nat) (E : Pure.Env) (ve vr vc vh : Value) (C : Pure.Cfg) (w : World) (gd : Pure.Good E f) (h : Pure.Sta E f C) (he : C.err = 0) (hpos : C.pos < E.s.size) (hs : E.s.size ≤ 1099511627776) (m : Mach w g E ve vr vc vh C 0) :
    Calls Tryz.prog 125 #[.pointer (some ⟨g, 0, none⟩), .string (E.s.extract C.pos.toNat E.s.size)] w (RetSeek g E ve vr vc vh C w) := by
  obtain ⟨-, -, ⟨gc, cc, rfl, hc1, hc2⟩⟩ := m.l.someE gd.right
  have H0 : Hid (SeekInv f g E ve vr (.slice (some ⟨gc, 0, none⟩) E.p.code.length cc) vh C w ((E.s.size + 1) * Pure.per E - C.steps).toNat w) := ⟨C, .refl _, h, he, rfl, m, ⟨rfl, rfl, rfl, Nat.le_refl _, fun _ _ _ => rfl⟩, rfl⟩
  have hp0 := h.pos
  have GD := hide gd
  have PC : Hid (C.pos < E.s.size) := hpos
  have BT : Hid (∀ n, C.pos.toNat + n < E.s.size → bt (E.s.extract C.pos.toNat E.s.size) n = bt E.s (C.pos.toNat + n)) := fun n hn => bt_extract E.s C.pos.toNat E.s.size n (Nat.le_refl _) hn
  have HSZ : Hid ((E.s.extract C.pos.toNat E.s.size).size = E.s.size - C.pos.toNat) := by show _ = _; simp
  generalize E.s.extract C.pos.toNat E.s.size = rest at *
  clear h he m gd hpos
  go_enter Tryz.func125, Tryz.ntmps125
  go_wp2_with fail
  go_loopg [] ((E.s.size + 1) * Pure.per E - C.steps).toNat (fun gk wr => SeekInv f g E ve vr (.slice (some ⟨gc, 0, none⟩) E.p.code.length cc) vh C w gk wr)
  case atStart => exact H0.out
  case round =>
    clear H0
    obtain ⟨D, hr, hst, he, hpp, hm, hg, rfl⟩ := hrel
    have HR := hide (And.intro hr (And.intro hst (And.intro he hpp)))
    have hi := hst.ins
    have hi' := (hst.live he).1
    have hlk := hst.looked
    have hmk := hst.marked
    have hcc := hst.c
    have hstp := hst.steps.1
    have hstb := hst.steps_small GD.out hs
    have hwi := hst.within
    have n1 := GD.out.n1
    have m1 := GD.out.most
    obtain ⟨k, hk⟩ := Int.eq_ofNat_of_zero_le hi.1
    have hk1 : k < E.p.code.length := by omega
    have hk2 : (k : Int) < (E.p.code.length : Int) := by omega
    obtain ⟨lk, hlkk⟩ := Int.eq_ofNat_of_zero_le hlk.1
    have c2 := hm.cell (j := 2) rfl
    have c19 := hm.cell (j := 19) rfl
    rw [hk] at c19
    have HM := hide (And.intro hm hg)
    have HK := hide (And.intro hk hlkk)
    have ok := GD.out.insOK hk1
    have nx := GD.out.next hk1
    rw [hpp] at hwi
    rw [hlkk] at hlk hmk hwi
    clear hm hg hr hst hk hi hi' hlkk hpp he
    go_wp2_with fail
    go_quiet (fail)
    clear c2 c19
    have HM1 := hide (And.intro (HM.out.1.drewN nq) (grown_drewN HM.out.2 nq))
    clear HM
    generalize wr.drewN nq = W at *
    have hm := HM1.out.1
    have q := own_ins hm.l.c hk1
    have q0 := q.1
    have q1 := q.2.1
    have q2 := q.2.2.1
    have q3 := q.2.2.2
    have far := own_far hm.l.c hm.blk (by decide)
    have glt := blk_lt hm.blk
    have clt := (own_base hm.l.c).2
    have c2 := hm.cell (j := 2) rfl
    have c19 := hm.cell (j := 19) rfl
    rw [HK.out.1] at c19
    have ne1 : g ≠ W.heap.size := by omega
    have ne2 : gc ≠ W.heap.size := by omega
    have ne1' : W.heap.size ≠ g := by omega
    have ne2' : W.heap.size ≠ gc := by omega
    have ne3 : g ≠ gc := fun e => far e.symm
    unfold Pure.InsOK at ok
    clear q hm
    go_wp2_with fail
    generalize hX : Pure.cg E.p.code k = x at *
    have HX := hide hX
    clear hX
    go_region_held3 (fun w' => w'.cell? ⟨g, 2, none⟩ = some (.slice (some ⟨gc, 0, none⟩) E.p.code.length cc) ∧ w'.cell? ⟨g, 19, none⟩ = some (.int .i64 k) ∧ w'.cell? ⟨gc, k * 4, none⟩ = some (.int .i64 x.op) ∧ w'.cell? ⟨gc, k * 4 + 1, none⟩ = some (.int .i64 x.a) ∧ w'.cell? ⟨gc, k * 4 + 2, none⟩ = some (.int .i64 x.b) ∧ w'.cell? ⟨gc, k * 4 + 3, none⟩ = some (.int .i64 x.to)) (go_keep) (fail)
    rename_i hh
    clear hh q0 q1 q2 q3 c2 c19
    have M2 := hide (And.intro (HM1.out.1.alloc (.cells #[.int .i64 x.op, .int .i64 x.a, .int .i64 x.b, .int .i64 x.to] 61)).drew (grown_drew (grown_alloc HM1.out.2 (.cells #[.int .i64 x.op, .int .i64 x.a, .int .i64 x.b, .int .i64 x.to] 61))))
    have KI : Blk (W.alloc (.cells #[.int .i64 x.op, .int .i64 x.a, .int .i64 x.b, .int .i64 x.to] 61)).drew W.heap.size 61 [.int .i64 x.op, .int .i64 x.a, .int .i64 x.b, .int .i64 x.to] := heap_alloc_new _ _
    clear HM1
    generalize (W.alloc (.cells #[.int .i64 x.op, .int .i64 x.a, .int .i64 x.b, .int .i64 x.to] 61)).drew = X at *
    generalize W.heap.size = gi at *
    have i0 := blk_cell (j := 0) KI rfl
    have i1 := blk_cell (j := 1) KI rfl
    have i2 := blk_cell (j := 2) KI rfl
    have i3 := blk_cell (j := 3) KI rfl
    clear KI far glt clt ne2 ne2' ne3 hc1 hc2
    have hm := M2.out.1
    have c3 := hm.cell (j := 3) rfl
    have c18 := hm.cell (j := 18) rfl
    have c19 := hm.cell (j := 19) rfl
    have c20 := hm.cell (j := 20) rfl
    have c21 := hm.cell (j := 21) rfl
    have c22 := hm.cell (j := 22) rfl
    have c23 := hm.cell (j := 23) rfl
    have c25 := hm.cell (j := 25) rfl
    have f18 := hm.frozen 18
    have f19 := hm.frozen 19
    have f20 := hm.frozen 20
    have f21 := hm.frozen 21
    have f22 := hm.frozen 22
    have f23 := hm.frozen 23
    rw [HK.out.1] at c19
    rw [HK.out.2] at c21
    clear hm
    have LOOK : Hid (∀ r, Pure.look E D = r ↔ Pure.look E D = r) := fun _ => Iff.rfl
    have e1 : D.ins.toNat = k := by rw [HK.out.1]; rfl
    have E1 := hide e1
    clear e1 LOOK
    have hposD : Hid (D.pos < E.s.size) := by show D.pos < _; rw [HR.out.2.2.2]; exact PC.out
    have A1 := M2.out.1.set 18 (.int .i64 (D.steps + 1)) E rfl (D := { D with steps := D.steps + 1 }) rfl
    have A2 := hide (A1.set 19 (.int .i64 (k + 1)) E rfl (D := { D with steps := D.steps + 1, ins := D.ins + 1 }) (by rw [HK.out.1]; rfl))
    have G2 := hide (grown_set (grown_set M2.out.2 18 (.int .i64 (D.steps + 1))) 19 (.int .i64 (k + 1)))
    clear A1
    by_cases o4 : x.op = 4
    · have t1 : 0 ≤ x.to ∧ x.to < E.p.code.length := by omega
      have HL : Hid (Pure.look E D = .go { D with steps := D.steps + 1, ins := x.to }) := by
        show _ = _
        unfold Pure.look
        rw [E1.out, HX.out]
        simp [o4]
      rw [o4] at i0
      clear ok nx
      go_wp2
      obtain ⟨kk, hkk⟩ := SeekInv.next GD.out HR.out.1 HR.out.2.1 HR.out.2.2.1 HR.out.2.2.2 hposD.out HL.out (A2.out.set 19 (.int .i64 x.to) E rfl rfl) (grown_set G2.out 19 (.int .i64 x.to))
      go_roundg kk
      case measure => exact hkk.1
      case rel => exact hkk.2
    by_cases o5 : x.op = 5
    · have HL : Hid (Pure.look E D = .stop { D with steps := D.steps + 1, ins := D.ins + 1 } 0) := by
        show _ = _
        unfold Pure.look
        rw [E1.out, HX.out]
        simp [o5]
      rw [o5] at i0
      clear ok nx
      go_wp2
      go_ret2
      exact ⟨D, HR.out.1, HR.out.2.2.1, HR.out.2.2.2, G2.out, .inr ⟨_, _, rfl, HL.out, A2.out⟩⟩
    by_cases o1 : x.op = 1
    · rw [o1] at i0
      have nn := nx (by omega)
      clear nx
      by_cases hl0 : 0 < lk
      · have HL : Hid (Pure.look E D = .go { D with steps := D.steps + 1, ins := D.ins + 1, rule := x.a, marked := D.looked }) := by
          show _ = _
          unfold Pure.look
          rw [E1.out, HX.out, HK.out.2]
          simp [o1, hl0]
        have hl1 : (0 : Int) < (lk : Int) := by omega
        clear ok
        go_wp2
        obtain ⟨kk, hkk⟩ := SeekInv.next GD.out HR.out.1 HR.out.2.1 HR.out.2.2.1 HR.out.2.2.2 hposD.out HL.out ((A2.out.set 22 (.int .i64 x.a) E rfl (D := { D with steps := D.steps + 1, ins := D.ins + 1, rule := x.a }) rfl).set 23 (.int .i64 lk) E rfl (by rw [HK.out.2]; rfl)) (grown_set (grown_set G2.out 22 (.int .i64 x.a)) 23 (.int .i64 lk))
        go_roundg kk
        case measure => exact hkk.1
        case rel => exact hkk.2
      · have hz : lk = 0 := by omega
        have HL : Hid (Pure.look E D = .go { D with steps := D.steps + 1, ins := D.ins + 1 }) := by
          show _ = _
          unfold Pure.look
          rw [E1.out, HX.out, HK.out.2]
          simp [o1, hz]
        subst hz
        clear ok
        go_wp2
        obtain ⟨kk, hkk⟩ := SeekInv.next GD.out HR.out.1 HR.out.2.1 HR.out.2.2.1 HR.out.2.2.2 hposD.out HL.out A2.out G2.out
        go_roundg kk
        case measure => exact hkk.1
        case rel => exact hkk.2
    by_cases o3 : x.op = 3
    · rw [o3] at i0
      have nn := nx (by omega)
      have t1 : 0 ≤ x.to ∧ x.to < E.p.code.length := by omega
      clear nx ok
      by_cases ha : x.a ≤ D.c
      · by_cases hb : D.c ≤ x.b
        · have HL : Hid (Pure.look E D = .go { D with steps := D.steps + 1, ins := x.to }) := by
            show _ = _
            unfold Pure.look
            rw [E1.out, HX.out]
            simp [o3, ha, hb]
          go_wp2_with fail
          go_quiet (fail)
          go_wp2
          obtain ⟨kk, hkk⟩ := SeekInv.next GD.out HR.out.1 HR.out.2.1 HR.out.2.2.1 HR.out.2.2.2 hposD.out HL.out ((A2.out.set 19 (.int .i64 x.to) E rfl rfl).drewN nq) (grown_drewN (grown_set G2.out 19 (.int .i64 x.to)) nq)
          go_roundg kk
          case measure => exact hkk.1
          case rel => exact hkk.2
        · have hb' : decide (D.c ≤ x.b) = false := by simpa using hb
          have HL : Hid (Pure.look E D = .go { D with steps := D.steps + 1, ins := D.ins + 1 }) := by
            show _ = _
            unfold Pure.look
            rw [E1.out, HX.out]
            simp [o3, hb]
          go_wp2_with fail
          go_quiet (fail)
          go_wp2
          obtain ⟨kk, hkk⟩ := SeekInv.next GD.out HR.out.1 HR.out.2.1 HR.out.2.2.1 HR.out.2.2.2 hposD.out HL.out (A2.out.drewN nq) (grown_drewN G2.out nq)
          go_roundg kk
          case measure => exact hkk.1
          case rel => exact hkk.2
      · have ha' : decide (x.a ≤ D.c) = false := by simpa using ha
        have HL : Hid (Pure.look E D = .go { D with steps := D.steps + 1, ins := D.ins + 1 }) := by
          show _ = _
          unfold Pure.look
          rw [E1.out, HX.out]
          simp [o3, ha]
        go_wp2_with fail
        go_quiet (fail)
        go_wp2
        obtain ⟨kk, hkk⟩ := SeekInv.next GD.out HR.out.1 HR.out.2.1 HR.out.2.2.1 HR.out.2.2.2 hposD.out HL.out (A2.out.drewN nq) (grown_drewN G2.out nq)
        go_roundg kk
        case measure => exact hkk.1
        case rel => exact hkk.2
    have o2 : x.op = 2 := by omega
    rw [o2] at i0
    have nn := nx (by omega)
    clear nx ok
    have PP := HR.out.2.2.2
    by_cases sp : rest.size ≤ lk
    · have sp1 : (rest.size : Int) ≤ (lk : Int) := by omega
      have sp2 : (E.s.size : Int) ≤ D.pos + D.looked := by rw [HK.out.2, PP]; have := HSZ.out; omega
      have SP := hide sp2
      clear sp2 PP
      cases hE : E.ended
      · rw [hE] at c25
        have HL : Hid (Pure.look E D = .wait) := by
          show _ = _
          unfold Pure.look
          rw [E1.out, HX.out]
          simp [o2, hE, SP.out]
        go_wp2
        go_ret2
        exact ⟨D, HR.out.1, HR.out.2.2.1, HR.out.2.2.2, M2.out.2, .inl ⟨rfl, HL.out, M2.out.1⟩⟩
      · rw [hE] at c25
        have HL : Hid (Pure.look E D = .stop { D with steps := D.steps + 1, ins := D.ins + 1 } 0) := by
          show _ = _
          unfold Pure.look
          rw [E1.out, HX.out]
          simp [o2, hE, SP.out]
        go_wp2
        go_ret2
        exact ⟨D, HR.out.1, HR.out.2.2.1, HR.out.2.2.2, G2.out, .inr ⟨_, _, rfl, HL.out, A2.out⟩⟩
    · have sp1 : decide ((rest.size : Int) ≤ (lk : Int)) = false := by simp; omega
      have sp2 : ¬ (E.s.size : Int) ≤ D.pos + D.looked := by rw [HK.out.2, PP]; have := HSZ.out; omega
      have SP := hide sp2
      have sp3 : (lk : Int) < (rest.size : Int) := by omega
      have x0 := fun w => idx_str rest (lk : Int) lk rfl (by omega) w
      have bx := BT.out lk (by have := HSZ.out; omega)
      rw [bx] at x0
      have bb := bt_bd E.s (C.pos.toNat + lk)
      have HB : Hid (bt E.s (D.pos + D.looked).toNat = bt E.s (C.pos.toNat + lk)) := by
        show _ = _
        rw [HK.out.2, PP]
        congr 1
        omega
      clear sp2 PP sp bx
      by_cases hm : E.most ≤ lk
      · have HL : Hid (Pure.look E D = .stop { D with steps := D.steps + 1, ins := D.ins + 1 } 5) := by
          show _ = _
          have h1 := SP.out
          have h2 : E.most ≤ D.looked := by rw [HK.out.2]; exact hm
          unfold Pure.look
          rw [E1.out, HX.out]
          simp only
          rw [if_neg o1, if_pos o2, if_neg h1, if_pos h2]
        cases hE : E.ended
        all_goals
          rw [hE] at c25
          go_wp2_with fail
          go_quiet (fail)
          go_wp2
          go_ret2
          exact ⟨D, HR.out.1, HR.out.2.2.1, HR.out.2.2.2, grown_drewN G2.out nq, .inr ⟨_, _, rfl, HL.out, A2.out.drewN nq⟩⟩
      · have HL : Hid (Pure.look E D = .go { D with steps := D.steps + 1, ins := D.ins + 1, c := bt E.s (C.pos.toNat + lk), looked := D.looked + 1 }) := by
          show _ = _
          have h1 := SP.out
          have h2 : ¬ E.most ≤ D.looked := by rw [HK.out.2]; exact hm
          unfold Pure.look
          rw [E1.out, HX.out, ← HB.out]
          simp only
          rw [if_neg o1, if_pos o2, if_neg h1, if_neg h2]
        have hm1 : decide (E.most ≤ (lk : Int)) = false := by simpa using hm
        clear HB SP hm
        generalize bt E.s (C.pos.toNat + lk) = y at *
        have A3 := hide (A2.out.set 20 (.int .i64 y) E rfl (D := { D with steps := D.steps + 1, ins := D.ins + 1, c := y }) rfl)
        have A4 := hide (A3.out.set 21 (.int .i64 (lk + 1)) E rfl (D := { D with steps := D.steps + 1, ins := D.ins + 1, c := y, looked := D.looked + 1 }) (by rw [HK.out.2]; rfl))
        have G4 := hide (grown_set (grown_set G2.out 20 (.int .i64 y)) 21 (.int .i64 (lk + 1)))
        cases hE : E.ended
        all_goals
          rw [hE] at c25
          go_wp2_with fail
          go_quiet (fail)
          go_wp2
          obtain ⟨kk, hkk⟩ := SeekInv.next GD.out HR.out.1 HR.out.2.1 HR.out.2.2.1 HR.out.2.2.2 hposD.out HL.out (A4.out.drewN nq) (grown_drewN G4.out nq)
          go_roundg kk
          case measure => exact hkk.1
          case rel => exact hkk.2

end Go.Proofs.YtmccnmgaoppogaaGreat

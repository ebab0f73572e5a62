/-
  The walks: the same program is told the same. (weirkeep)
-/
import Derived.Test.YtmccnmgaoppogaaW10
import Derived.Test.YtmccnmgaoppogaaW13
namespace Go.Proofs.Ytmccnmgaoppogaa
open Go.RowKit

/-- what the two boxes of a call hold, and that nothing old has turned -/
structure Two2 (w W : World) (X Y : List Value) : Prop where
  box : Blk W w.heap.size 26 X
  out : Blk W (w.heap.size + 1) 26 Y
  bel : Below w.heap.size w W
  sz : w.heap.size + 2 ≤ W.heap.size
theorem Two2.drewN {w W : World} {X Y : List Value} (s : Two2 w W X Y) (n : Nat) : Two2 w (W.drewN n) X Y := ⟨s.box, s.out, below_drewN s.bel n, s.sz⟩
theorem Two2.alloc {w W : World} {X Y : List Value} (s : Two2 w W X Y) (o : Obj) : Two2 w (W.alloc o) X Y := ⟨blk_alloc s.box o, blk_alloc s.out o, s.bel.alloc (by have := s.sz; omega) o, by have := s.sz; simp; omega⟩

set_option maxRecDepth 100000 in
set_option maxHeartbeats 4000000 in
theorem sameKeep_eq (ve vr vc ue ur uc : Value) (p : Pure.Prg) (w : World) (hE : Ints w ve p.ents) (hR : Rules w vr p.rules) (hC : Code w vc p.code) (kE : Ints w ue p.ents) (kR : Rules w ur p.rules) (kC : Code w uc p.code) :
    Calls Try.prog 18 #[.agg #[ve, vr, vc], .agg #[ue, ur, uc]] w (RetT w) := by
  obtain ⟨ae, ce, rfl, he1, he2, hre⟩ := hE.read
  obtain ⟨ar, cr, rfl, hr1, hr2, hrr⟩ := hR.read
  obtain ⟨ac, cc, rfl, hc1, hc2, hrc⟩ := hC.read
  obtain ⟨be, de, rfl, ie1, ie2, kre⟩ := kE.read
  obtain ⟨br, dr, rfl, ir1, ir2, krr⟩ := kR.read
  obtain ⟨bc, dc, rfl, ic1, ic2, krc⟩ := kC.read
  have HRE := hide (And.intro hre kre)
  have HRR := hide (And.intro hrr krr)
  have HRC := hide (And.intro hrc krc)
  clear hE hR hC kE kR kC hre kre hrr krr hrc krc
  have S0 : Hid (Two2 w ((w.alloc (.cells #[.slice ae p.ents.length ce, .slice ar p.rules.length cr, .slice ac p.code.length cc] 26)).alloc (.cells #[.slice be p.ents.length de, .slice br p.rules.length dr, .slice bc p.code.length dc] 26)) [.slice ae p.ents.length ce, .slice ar p.rules.length cr, .slice ac p.code.length cc] [.slice be p.ents.length de, .slice br p.rules.length dr, .slice bc p.code.length dc]) := by
    refine ⟨blk_alloc (heap_alloc_new _ _) _, ?_, ((Below.refl _ _).alloc (Nat.le_refl _) _).alloc (by simp) _, by simp⟩
    have := heap_alloc_new (w.alloc (.cells #[.slice ae p.ents.length ce, .slice ar p.rules.length cr, .slice ac p.code.length cc] 26)) (.cells #[.slice be p.ents.length de, .slice br p.rules.length dr, .slice bc p.code.length dc] 26)
    rw [World.size_alloc] at this
    exact this
  go_enter Try.func18, Try.ntmps18
  go_wp2_with fail
  go_loopw [5] (fun i wr => ∃ k : Nat, k ≤ p.ents.length ∧ i = .int .i64 k ∧ Two2 w wr [.slice ae p.ents.length ce, .slice ar p.rules.length cr, .slice ac p.code.length cc] [.slice be p.ents.length de, .slice br p.rules.length dr, .slice bc p.code.length dc]) (fun i _ => p.ents.length - (intOf i).toNat)
  case atStart => exact ⟨0, Nat.zero_le _, rfl, S0.out⟩
  case round =>
    clear S0
    obtain ⟨k, hk, rfl, ht⟩ := hrel
    have x0 := blk_cell (j := 0) ht.box rfl
    have y0 := blk_cell (j := 0) ht.out rfl
    by_cases hlt : k < p.ents.length
    · obtain ⟨ba, oa, rfl, hba, e0⟩ := HRE.out.1 k hlt
      obtain ⟨bb, ob, rfl, hbb, f0⟩ := HRE.out.2 k hlt
      have g0 := (ht.bel.cell (p := ⟨ba, oa + k, none⟩) hba).trans e0
      have h0 := (ht.bel.cell (p := ⟨bb, ob + k, none⟩) hbb).trans f0
      have HT := hide ht
      clear e0 f0 ht
      generalize Pure.ig p.ents k = z0 at *
      go_wp2_with fail
      go_quiet (fail)
      go_wp2
      go_roundw
      case rel => exact ⟨k + 1, by omega, by go_num, HT.out.drewN _⟩
      case measure => simp [intOf]; omega
    · have HT := hide ht
      clear ht
      go_wp2_with fail
      clear x0 y0
      go_loopw [6] (fun i wr => ∃ k : Nat, k ≤ p.rules.length ∧ i = .int .i64 k ∧ Two2 w wr [.slice ae p.ents.length ce, .slice ar p.rules.length cr, .slice ac p.code.length cc] [.slice be p.ents.length de, .slice br p.rules.length dr, .slice bc p.code.length dc]) (fun i _ => p.rules.length - (intOf i).toNat)
      case atStart => exact ⟨0, Nat.zero_le _, rfl, HT.out⟩
      case round =>
        clear HT hlt hk
        obtain ⟨k, hk, rfl, ht⟩ := hrel
        have x1 := blk_cell (j := 1) ht.box rfl
        have y1 := blk_cell (j := 1) ht.out rfl
        by_cases hlt : k < p.rules.length
        · obtain ⟨ba, oa, rfl, hba, e0, e1, e2⟩ := HRR.out.1 k hlt
          obtain ⟨bb, ob, rfl, hbb, f0, f1, f2⟩ := HRR.out.2 k hlt
          have g0 := (ht.bel.cell (p := ⟨ba, oa + k * 3, none⟩) hba).trans e0
          have h0 := (ht.bel.cell (p := ⟨bb, ob + k * 3, none⟩) hbb).trans f0
          have g1 := (ht.bel.cell (p := ⟨ba, oa + k * 3 + 1, none⟩) hba).trans e1
          have h1 := (ht.bel.cell (p := ⟨bb, ob + k * 3 + 1, none⟩) hbb).trans f1
          have g2 := (ht.bel.cell (p := ⟨ba, oa + k * 3 + 2, none⟩) hba).trans e2
          have h2 := (ht.bel.cell (p := ⟨bb, ob + k * 3 + 2, none⟩) hbb).trans f2
          have HT := hide ht
          clear e0 e1 e2 f0 f1 f2 ht
          generalize (Pure.rg p.rules k).emit = z0 at *
          generalize (Pure.rg p.rules k).act = z1 at *
          generalize (Pure.rg p.rules k).mode = z2 at *
          go_wp2_with fail
          go_quiet (fail)
          go_wp2
          go_roundw
          case rel => exact ⟨k + 1, by omega, by go_num, HT.out.drewN _⟩
          case measure => simp [intOf]; omega
        · have HT := hide ht
          clear ht
          go_wp2_with fail
          clear x1 y1
          go_loopw [7] (fun i wr => ∃ k : Nat, k ≤ p.code.length ∧ i = .int .i64 k ∧ Two2 w wr [.slice ae p.ents.length ce, .slice ar p.rules.length cr, .slice ac p.code.length cc] [.slice be p.ents.length de, .slice br p.rules.length dr, .slice bc p.code.length dc]) (fun i _ => p.code.length - (intOf i).toNat)
          case atStart => exact ⟨0, Nat.zero_le _, rfl, HT.out⟩
          case round =>
            clear HT hlt hk
            obtain ⟨k, hk, rfl, ht⟩ := hrel
            have x2 := blk_cell (j := 2) ht.box rfl
            have y2 := blk_cell (j := 2) ht.out rfl
            by_cases hlt : k < p.code.length
            · obtain ⟨ba, oa, rfl, hba, e0, e1, e2, e3⟩ := HRC.out.1 k hlt
              obtain ⟨bb, ob, rfl, hbb, f0, f1, f2, f3⟩ := HRC.out.2 k hlt
              have g0 := (ht.bel.cell (p := ⟨ba, oa + k * 4, none⟩) hba).trans e0
              have h0 := (ht.bel.cell (p := ⟨bb, ob + k * 4, none⟩) hbb).trans f0
              have g1 := (ht.bel.cell (p := ⟨ba, oa + k * 4 + 1, none⟩) hba).trans e1
              have h1 := (ht.bel.cell (p := ⟨bb, ob + k * 4 + 1, none⟩) hbb).trans f1
              have g2 := (ht.bel.cell (p := ⟨ba, oa + k * 4 + 2, none⟩) hba).trans e2
              have h2 := (ht.bel.cell (p := ⟨bb, ob + k * 4 + 2, none⟩) hbb).trans f2
              have g3 := (ht.bel.cell (p := ⟨ba, oa + k * 4 + 3, none⟩) hba).trans e3
              have h3 := (ht.bel.cell (p := ⟨bb, ob + k * 4 + 3, none⟩) hbb).trans f3
              have hsz := ht.sz
              have hb1 : bb < wr.heap.size := by omega
              have hb2 : bb ≠ wr.heap.size := by omega
              have hb3 : w.heap.size + 1 < wr.heap.size := by omega
              have hb4 : w.heap.size + 1 ≠ wr.heap.size := by omega
              have HT := hide ht
              clear e0 e1 e2 e3 f0 f1 f2 f3 ht
              generalize (Pure.cg p.code k).op = z0 at *
              generalize (Pure.cg p.code k).a = z1 at *
              generalize (Pure.cg p.code k).b = z2 at *
              generalize (Pure.cg p.code k).to = z3 at *
              go_wp2
              go_roundw
              case rel => exact ⟨k + 1, by omega, by go_num, (HT.out.alloc _).alloc _⟩
              case measure => simp [intOf]; omega
            · have hbel := ht.bel
              clear ht
              go_wp2
              go_ret
              exact ⟨rfl, hbel⟩

end Go.Proofs.Ytmccnmgaoppogaa

/-
  The walks: is a program right? (weirref)
-/
import Derived.Test.YtmccnmgaoppogaaGreatW2a
import Derived.Test.YtmccnmgaoppogaaGreatW2c
import Derived.Test.YtmccnmgaoppogaaGreatW5a
import Derived.Test.YtmccnmgaoppogaaGreatW6b
import Derived.Test.YtmccnmgaoppogaaGreatW7a
import Derived.Deep.RegionWith
import Derived.Deep.Cut
namespace Go.Proofs.YtmccnmgaoppogaaGreat
open Go.RowKit

set_option maxRecDepth 100000 in
set_option maxHeartbeats 4000000 in
theorem refRight_good (ve vr vc : Value) (p : Pure.Prg) (w : World) (hE : Ints w ve p.ents) (hR : Rules w vr p.rules) (hC : Code w vc p.code)
    (hm1 : 1 ≤ p.ents.length) (hm4 : p.ents.length ≤ 4) (hk1 : 1 ≤ p.rules.length) (hk4 : p.rules.length ≤ 16) (hn1 : 1 ≤ p.code.length) (hn4 : p.code.length ≤ 50000) :
    Calls Tryz.prog 32 #[.agg #[ve, vr, vc]] w (RetB (Pure.RightP p) w) := by
  obtain ⟨ae, ce, rfl, he1, he2, hreadE⟩ := hE.read
  obtain ⟨ar, cr, rfl, hr1, hr2, hreadR⟩ := hR.read
  obtain ⟨ac, cc, rfl, hc1, hc2, hreadC⟩ := hC.read
  have HC := hide hC
  clear hE hR hC
  have d1 : decide ((p.ents.length : Int) < 1) = false := by simp; omega
  have d2 : decide (4 < (p.ents.length : Int)) = false := by simp; omega
  have d3 : decide ((p.rules.length : Int) < 1) = false := by simp; omega
  have d4 : decide (16 < (p.rules.length : Int)) = false := by simp; omega
  have d5 : decide ((p.code.length : Int) < 1) = false := by simp; omega
  have d6 : decide (50000 < (p.code.length : Int)) = false := by simp; omega
  go_enter Tryz.func32, Tryz.ntmps32
  go_wp2
  have hW0b : Below w.heap.size w (w.alloc (.cells #[.slice ae p.ents.length ce, .slice ar p.rules.length cr, .slice ac p.code.length cc] 43)) := (Below.refl _ _).alloc (Nat.le_refl _) _
  have hW0s : (w.alloc (.cells #[.slice ae p.ents.length ce, .slice ar p.rules.length cr, .slice ac p.code.length cc] 43)).heap.size = w.heap.size + 1 := by simp
  have c0 : (w.alloc (.cells #[.slice ae p.ents.length ce, .slice ar p.rules.length cr, .slice ac p.code.length cc] 43)).cell? ⟨w.heap.size, 0, none⟩ = some (.slice ae p.ents.length ce) := by simp
  have c1 : (w.alloc (.cells #[.slice ae p.ents.length ce, .slice ar p.rules.length cr, .slice ac p.code.length cc] 43)).cell? ⟨w.heap.size, 1, none⟩ = some (.slice ar p.rules.length cr) := by simp
  have c2 : (w.alloc (.cells #[.slice ae p.ents.length ce, .slice ar p.rules.length cr, .slice ac p.code.length cc] 43)).cell? ⟨w.heap.size, 2, none⟩ = some (.slice ac p.code.length cc) := by simp
  generalize w.alloc (.cells #[.slice ae p.ents.length ce, .slice ar p.rules.length cr, .slice ac p.code.length cc] 43) = W0 at *
  have HS := hide hW0s
  clear hW0s
  go_loop [5] (fun i => ∃ k : Nat, k ≤ p.ents.length ∧ i = .int .i64 k ∧ ∀ j, j < k → 0 ≤ Pure.ig p.ents j ∧ Pure.ig p.ents j < p.code.length) (fun i => p.ents.length - (intOf i).toNat)
  case atStart => exact ⟨0, Nat.zero_le _, rfl, fun j hj => by omega⟩
  case round =>
    obtain ⟨k, hk, rfl, hall⟩ := hrel
    have HA := hide hall
    clear hall
    by_cases hlt : k < p.ents.length
    · obtain ⟨b, off, rfl, hb, hcell⟩ := hreadE k hlt
      have g0 := (hW0b.cell (p := ⟨b, off + k, none⟩) hb).trans hcell
      clear hreadE hreadR hreadC hcell
      by_cases hx0 : Pure.ig p.ents k < 0
      · have hd : decide (Pure.ig p.ents k < 0) = true := by simpa using hx0
        go_wp2
        go_ret
        exact retB (Pure.false_iff_of (fun h => by have := h.1.2 k hlt; omega)) hW0b
      by_cases hx1 : Pure.ig p.ents k < p.code.length
      · have hd : decide (Pure.ig p.ents k < 0) = false := by simpa using hx0
        go_wp2
        go_round
        case rel => exact ⟨k + 1, by omega, by go_num, Pure.upto_succ HA.out (by omega)⟩
        case measure => simp [intOf]; omega
      · have hd : decide (Pure.ig p.ents k < 0) = false := by simpa using hx0
        go_wp2
        go_ret
        exact retB (Pure.false_iff_of (fun h => by have := h.1.2 k hlt; omega)) hW0b
    · have hkl : k = p.ents.length := by omega
      subst hkl
      have HEO : Hid (Pure.EntsOK p.ents p.code.length) := ⟨⟨hm1, hm4⟩, HA.out⟩
      clear HA hreadE hlt hk
      go_wp2_with fail
      go_loopw [6] (fun i wr => ∃ k : Nat, k ≤ p.rules.length ∧ i = .int .i64 k ∧ Below (w.heap.size + 1) W0 wr ∧ ∀ j, j < k → Pure.RuleOK p.ents.length (Pure.rg p.rules j)) (fun i _ => p.rules.length - (intOf i).toNat)
      case atStart => exact ⟨0, Nat.zero_le _, rfl, Below.refl _ _, fun j hj => by omega⟩
      case round =>
        obtain ⟨k, hk, rfl, hbel, hall⟩ := hrel
        have HA := hide hall
        clear hall
        have q0 := (hbel.cell (p := ⟨w.heap.size, 0, none⟩) (by simp)).trans c0
        have q1 := (hbel.cell (p := ⟨w.heap.size, 1, none⟩) (by simp)).trans c1
        have q2 := (hbel.cell (p := ⟨w.heap.size, 2, none⟩) (by simp)).trans c2
        by_cases hlt : k < p.rules.length
        · obtain ⟨b, off, rfl, hb, e0, e1, e2⟩ := hreadR k hlt
          have g0 := (hbel.cell (p := ⟨b, off + k * 3, none⟩) (by simp; omega)).trans ((hW0b.cell (p := ⟨b, off + k * 3, none⟩) hb).trans e0)
          have g1 := (hbel.cell (p := ⟨b, off + k * 3 + 1, none⟩) (by simp; omega)).trans ((hW0b.cell (p := ⟨b, off + k * 3 + 1, none⟩) hb).trans e1)
          have g2 := (hbel.cell (p := ⟨b, off + k * 3 + 2, none⟩) (by simp; omega)).trans ((hW0b.cell (p := ⟨b, off + k * 3 + 2, none⟩) hb).trans e2)
          clear hreadR hreadC e0 e1 e2
          go_wp2_with fail
          refine (rightRule_any (Pure.rg p.rules k) p.ents.length _ hm1 hm4).mono ?_
          rintro e w1 ⟨bb, rfl, hbb, hb1⟩
          have hbel1 : Below (w.heap.size + 1) W0 w1 := hbel.trans (hb1.mono (by have := hbel.size; rw [HS.out] at this; exact this))
          clear g0 g1 g2 hb1 q0 q1 q2
          cases bb
          · go_wp2
            go_ret
            exact retB (Pure.false_iff_of (fun h => Bool.noConfusion (hbb.2 (h.2.1.2 k hlt)))) (hW0b.trans (hbel1.mono (by omega)))
          · have HB := hide (hbb.1 rfl)
            clear hbb
            go_wp2
            go_roundw
            case rel => exact ⟨k + 1, by omega, by go_num, hbel1, Pure.upto_succ HA.out HB.out⟩
            case measure => simp [intOf]; omega
        · have hkl : k = p.rules.length := by omega
          subst hkl
          have HRO : Hid (Pure.RulesOK p.rules p.ents.length) := ⟨⟨hk1, hk4⟩, HA.out⟩
          clear HA hreadR hlt hk q0 q2
          go_wp2_with fail
          go_loopw [8] (fun i wr => ∃ k : Nat, k ≤ p.code.length ∧ i = .int .i64 k ∧ Below (w.heap.size + 1) W0 wr ∧ ∀ j, j < k → Pure.InsOK p.rules.length p.code.length (Pure.cg p.code j)) (fun i _ => p.code.length - (intOf i).toNat)
          case atStart => exact ⟨0, Nat.zero_le _, rfl, hbel, fun j hj => by omega⟩
          case round =>
            clear hbel q1
            obtain ⟨k, hk, rfl, hbel, hall⟩ := hrel
            have HA := hide hall
            clear hall
            have q1 := (hbel.cell (p := ⟨w.heap.size, 1, none⟩) (by simp)).trans c1
            have q2 := (hbel.cell (p := ⟨w.heap.size, 2, none⟩) (by simp)).trans c2
            by_cases hlt : k < p.code.length
            · obtain ⟨b, off, rfl, hb, e0, e1, e2, e3⟩ := hreadC k hlt
              have g0 := (hbel.cell (p := ⟨b, off + k * 4, none⟩) (by simp; omega)).trans ((hW0b.cell (p := ⟨b, off + k * 4, none⟩) hb).trans e0)
              have g1 := (hbel.cell (p := ⟨b, off + k * 4 + 1, none⟩) (by simp; omega)).trans ((hW0b.cell (p := ⟨b, off + k * 4 + 1, none⟩) hb).trans e1)
              have g2 := (hbel.cell (p := ⟨b, off + k * 4 + 2, none⟩) (by simp; omega)).trans ((hW0b.cell (p := ⟨b, off + k * 4 + 2, none⟩) hb).trans e2)
              have g3 := (hbel.cell (p := ⟨b, off + k * 4 + 3, none⟩) (by simp; omega)).trans ((hW0b.cell (p := ⟨b, off + k * 4 + 3, none⟩) hb).trans e3)
              clear hreadC e0 e1 e2 e3
              go_wp2_with fail
              go_region_with (go_at_call 68; refine (rightIns_any (Pure.cg p.code k) p.rules.length p.code.length _ hk4 hn4).mono ?_; rintro e w1 ⟨bb, rfl, hbb, hb1⟩)
              all_goals
                have hbel1 : Below (w.heap.size + 1) W0 w1 := hbel.drew.trans (hb1.mono (by have := hbel.size; rw [HS.out] at this; simpa using this))
                clear g0 g1 g2 g3 hb1 q1 q2
                cases bb
                · go_wp2
                  go_ret
                  exact retB (Pure.false_iff_of (fun h => Bool.noConfusion (hbb.2 (h.2.2.1.2.1 k hlt)))) (hW0b.trans (hbel1.mono (by omega)))
                · have HB := hide (hbb.1 rfl)
                  clear hbb
                  go_wp2
                  go_roundw
                  case rel => exact ⟨k + 1, by omega, by go_num, hbel1, Pure.upto_succ HA.out HB.out⟩
                  case measure => simp [intOf]; omega
            · have hkl : k = p.code.length := by omega
              subst hkl
              obtain ⟨b, off, rfl, hb, e0, -⟩ := hreadC (p.code.length - 1) (by omega)
              have g0 := (hbel.cell (p := ⟨b, off + (p.code.length - 1) * 4, none⟩) (by simp; omega)).trans ((hW0b.cell (p := ⟨b, off + (p.code.length - 1) * 4, none⟩) hb).trans e0)
              clear hreadC e0 q1
              generalize hx : (Pure.cg p.code (p.code.length - 1)).op = x at *
              have HX := hide hx
              clear hx
              by_cases e45 : x = 4 ∨ x = 5
              · have HCO : Hid (Pure.CodeOK p.code p.rules.length) := ⟨⟨hn1, hn4⟩, HA.out, by rw [HX.out]; exact e45⟩
                have hz : W0.heap.size ≤ wr.heap.size := hbel.size
                have hCw : Hid (Code wr (.slice (some ⟨b, off, none⟩) p.code.length cc) p.code) := HC.out.below (hW0b.trans (hbel.mono (by omega)))
                have hbw : Below w.heap.size w wr := hW0b.trans (hbel.mono (by omega))
                by_cases e4 : x = 4
                · have e4' : (x != 4) = false := by simp [e4]
                  clear e45 e4
                  go_wp2_with fail
                  refine (noWay_any _ p.code _ hCw.out HCO.out.tight (by omega)).mono ?_
                  rintro e w4 ⟨b4, rfl, hb4, hB4⟩
                  have hbel4 := bel0 hbw hB4
                  go_wp2
                  go_ret
                  exact retB ⟨fun h => ⟨HEO.out, HRO.out, HCO.out, hb4.1 h⟩, fun h => hb4.2 h.2.2.2⟩ hbel4
                · have e4' : (x != 4) = true := by simpa using e4
                  have e5' : (x != 5) = false := by simp; omega
                  clear e45 e4
                  go_wp2_with fail
                  refine (noWay_any _ p.code _ hCw.out HCO.out.tight (by omega)).mono ?_
                  rintro e w4 ⟨b4, rfl, hb4, hB4⟩
                  have hbel4 := bel0 hbw hB4
                  go_wp2
                  go_ret
                  exact retB ⟨fun h => ⟨HEO.out, HRO.out, HCO.out, hb4.1 h⟩, fun h => hb4.2 h.2.2.2⟩ hbel4
              · have e4' : (x != 4) = true := by simp; omega
                have e5' : (x != 5) = true := by simp; omega
                have HE := hide e45
                clear e45
                go_wp2
                go_ret
                exact retB (Pure.false_iff_of (fun h => HE.out (by rw [← HX.out]; exact h.2.2.1.2.2))) (hW0b.trans (hbel.mono (by omega)))

theorem refRight_any (ve vr vc : Value) (p : Pure.Prg) (w : World) (hE : Ints w ve p.ents) (hR : Rules w vr p.rules) (hC : Code w vc p.code) :
    Calls Tryz.prog 32 #[.agg #[ve, vr, vc]] w (RetB (Pure.RightP p) w) := by
  by_cases h : (1 ≤ p.ents.length ∧ p.ents.length ≤ 4) ∧ (1 ≤ p.rules.length ∧ p.rules.length ≤ 16) ∧ (1 ≤ p.code.length ∧ p.code.length ≤ 50000)
  · exact refRight_good ve vr vc p w hE hR hC h.1.1 h.1.2 h.2.1.1 h.2.1.2 h.2.2.1 h.2.2.2
  · exact refRight_bad ve vr vc p w hE hR hC h

end Go.Proofs.YtmccnmgaoppogaaGreat

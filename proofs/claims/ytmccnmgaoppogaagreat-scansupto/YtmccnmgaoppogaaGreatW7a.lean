/-
  The walks: is a program right? (weirref)
-/
import Derived.Test.YtmccnmgaoppogaaGreatW2a
import Derived.Test.YtmccnmgaoppogaaGreatW2c
import Derived.Test.YtmccnmgaoppogaaGreatW5a
import Derived.Test.YtmccnmgaoppogaaGreatW6b
import Derived.Deep.RegionWith
import Derived.Deep.Cut
namespace Go.Proofs.YtmccnmgaoppogaaGreat
open Go.RowKit

set_option maxRecDepth 100000 in
set_option maxHeartbeats 2000000 in
theorem refRight_bad (ve vr vc : Value) (p : Pure.Prg) (w : World) (hE : Ints w ve p.ents) (hR : Rules w vr p.rules) (hC : Code w vc p.code)
    (hbad : ¬ ((1 ≤ p.ents.length ∧ p.ents.length ≤ 4) ∧ (1 ≤ p.rules.length ∧ p.rules.length ≤ 16) ∧ (1 ≤ p.code.length ∧ p.code.length ≤ 50000))) :
    Calls Tryz.prog 32 #[.agg #[ve, vr, vc]] w (RetB (Pure.RightP p) w) := by
  obtain ⟨ae, ce, rfl, he1, he2, -⟩ := hE.read
  obtain ⟨ar, cr, rfl, hr1, hr2, -⟩ := hR.read
  obtain ⟨ac, cc, rfl, hc1, hc2, -⟩ := hC.read
  clear hE hR hC
  have fin : Below w.heap.size w (w.alloc (.cells #[.slice ae p.ents.length ce, .slice ar p.rules.length cr, .slice ac p.code.length cc] 43)) := (Below.refl _ _).alloc (Nat.le_refl _) _
  have FIN := hide fin
  clear fin
  have HBAD := hide hbad
  clear hbad
  by_cases hm1 : p.ents.length < 1
  · go_enter Tryz.func32, Tryz.ntmps32
    go_wp2
    go_ret
    exact retB (Pure.false_iff_of (fun h => by have := h.1.1; omega)) FIN.out
  by_cases hm4 : 4 < p.ents.length
  · go_enter Tryz.func32, Tryz.ntmps32
    go_wp2
    go_ret
    exact retB (Pure.false_iff_of (fun h => by have := h.1.1; omega)) FIN.out
  by_cases hk1 : p.rules.length < 1
  · go_enter Tryz.func32, Tryz.ntmps32
    go_wp2
    go_ret
    exact retB (Pure.false_iff_of (fun h => by have := h.2.1.1; omega)) FIN.out
  by_cases hk4 : 16 < p.rules.length
  · go_enter Tryz.func32, Tryz.ntmps32
    go_wp2
    go_ret
    exact retB (Pure.false_iff_of (fun h => by have := h.2.1.1; omega)) FIN.out
  by_cases hn1 : p.code.length < 1
  · go_enter Tryz.func32, Tryz.ntmps32
    go_wp2
    go_ret
    exact retB (Pure.false_iff_of (fun h => by have := h.2.2.1.1; omega)) FIN.out
  by_cases hn4 : 50000 < p.code.length
  · go_enter Tryz.func32, Tryz.ntmps32
    go_wp2
    go_ret
    exact retB (Pure.false_iff_of (fun h => by have := h.2.2.1.1; omega)) FIN.out
  · exact absurd (HBAD.out) (by omega)

end Go.Proofs.YtmccnmgaoppogaaGreat

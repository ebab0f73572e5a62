/-
  The walks: Pack, and the document's.
-/
import Derived.Test.YtmccnmgaoppogaaGreatW7
import Derived.Test.YtmccnmgaoppogaaGreatW9a
import Derived.Test.YtmccnmgaoppogaaGreatW9b
import Derived.Test.YtmccnmgaoppogaaGreatW10
namespace Go.Proofs.YtmccnmgaoppogaaGreat
open Go.RowKit

def PackOK (p : Pure.Prg) (s : ByteArray) (c : Int) : Prop := (Pure.RightP p ∧ s = strOfNums (Pure.img p) ∧ c = 0) ∨ (¬ Pure.RightP p ∧ s = ⟨#[]⟩ ∧ c = 1)
def RetPack (p : Pure.Prg) (w : World) (e : Ending) (w' : World) : Prop := ∃ s c, e = .returned (.tuple #[.string s, .int .i64 c]) ∧ Below w.heap.size w w' ∧ PackOK p s c

theorem PackOK.same {p : Pure.Prg} {s t : ByteArray} {c d : Int} (h : PackOK p s c) (k : PackOK p t d) : s = t ∧ c = d := by
  rcases h with ⟨h1, h2, h3⟩ | ⟨h1, h2, h3⟩ <;> rcases k with ⟨k1, k2, k3⟩ | ⟨k1, k2, k3⟩
  · exact ⟨h2.trans k2.symm, h3.trans k3.symm⟩
  · exact absurd h1 k1
  · exact absurd k1 h1
  · exact ⟨h2.trans k2.symm, h3.trans k3.symm⟩

set_option maxHeartbeats 1000000 in
theorem pack_any (ve vr vc : Value) (p : Pure.Prg) (w : World) (hE : Ints w ve p.ents) (hR : Rules w vr p.rules) (hC : Code w vc p.code) :
    Calls Tryz.prog 44 #[.agg #[ve, vr, vc]] w (RetPack p w) := by
  obtain ⟨ae, ce, rfl, he1, he2⟩ := hE.form
  obtain ⟨ar, cr, rfl, hr1, hr2⟩ := hR.form
  obtain ⟨ac, cc, rfl, hc1, hc2⟩ := hC.form
  have HE := hide hE
  have HR := hide hR
  have HC := hide hC
  clear hE hR hC
  have HB0 := hide ((Below.refl w.heap.size w).alloc (Nat.le_refl _) (.cells #[.slice ae p.ents.length ce, .slice ar p.rules.length cr, .slice ac p.code.length cc] 43))
  go_enter Tryz.func44, Tryz.ntmps44
  go_wp2_with fail
  refine (right_any _ _ _ p _ (HE.out.below HB0.out) (HR.out.below HB0.out) (HC.out.below HB0.out)).mono ?_
  rintro e w1 ⟨b1, rfl, hb1, hB1⟩
  have hbel1 := bel1 (Below.refl _ _) hB1
  have hc1' := (bcell hB1).1
  cases b1
  · go_wp2
    go_ret2
    exact ⟨_, _, rfl, hbel1, .inr ⟨fun h => Bool.noConfusion (hb1.2 h), rfl, rfl⟩⟩
  have HP := hide (hb1.1 rfl)
  clear hb1
  go_wp2_with fail
  refine (write_any _ _ _ p _ (HE.out.below hbel1) (HR.out.below hbel1) (HC.out.below hbel1) HP.out).mono ?_
  rintro e w2 ⟨rfl, hB2⟩
  have hbel2 := bel0 hbel1 hB2
  go_wp2
  go_ret2
  exact ⟨_, _, rfl, hbel2, .inl ⟨HP.out, rfl, rfl⟩⟩

set_option maxHeartbeats 1000000 in
theorem refPack_any (ve vr vc : Value) (p : Pure.Prg) (w : World) (hE : Ints w ve p.ents) (hR : Rules w vr p.rules) (hC : Code w vc p.code) :
    Calls Tryz.prog 15 #[.agg #[ve, vr, vc]] w (RetPack p w) := by
  obtain ⟨ae, ce, rfl, he1, he2⟩ := hE.form
  obtain ⟨ar, cr, rfl, hr1, hr2⟩ := hR.form
  obtain ⟨ac, cc, rfl, hc1, hc2⟩ := hC.form
  have HE := hide hE
  have HR := hide hR
  have HC := hide hC
  clear hE hR hC
  have HB0 := hide ((Below.refl w.heap.size w).alloc (Nat.le_refl _) (.cells #[.slice ae p.ents.length ce, .slice ar p.rules.length cr, .slice ac p.code.length cc] 43))
  go_enter Tryz.func15, Tryz.ntmps15
  go_wp2_with fail
  refine (refRight_any _ _ _ p _ (HE.out.below HB0.out) (HR.out.below HB0.out) (HC.out.below HB0.out)).mono ?_
  rintro e w1 ⟨b1, rfl, hb1, hB1⟩
  have hbel1 := bel1 (Below.refl _ _) hB1
  have hc1' := (bcell hB1).1
  cases b1
  · go_wp2
    go_ret2
    exact ⟨_, _, rfl, hbel1, .inr ⟨fun h => Bool.noConfusion (hb1.2 h), rfl, rfl⟩⟩
  have HP := hide (hb1.1 rfl)
  clear hb1
  go_wp2_with fail
  refine (written_any _ _ _ p _ (HE.out.below hbel1) (HR.out.below hbel1) (HC.out.below hbel1) HP.out).mono ?_
  rintro e w2 ⟨rfl, hB2⟩
  have hbel2 := bel0 hbel1 hB2
  go_wp2
  go_ret2
  exact ⟨_, _, rfl, hbel2, .inl ⟨HP.out, rfl, rfl⟩⟩

set_option maxHeartbeats 1000000 in
theorem sameProgram_eq (ve vr vc ue ur uc : Value) (p : Pure.Prg) (w : World) (hE : Ints w ve p.ents) (hR : Rules w vr p.rules) (hC : Code w vc p.code) (kE : Ints w ue p.ents) (kR : Rules w ur p.rules) (kC : Code w uc p.code) :
    Calls Tryz.prog 48 #[.agg #[ve, vr, vc], .agg #[ue, ur, uc]] w (RetT w) := by
  obtain ⟨ae, ce, rfl, he1, he2⟩ := hE.form
  obtain ⟨ar, cr, rfl, hr1, hr2⟩ := hR.form
  obtain ⟨ac, cc, rfl, hc1, hc2⟩ := hC.form
  obtain ⟨be, de, rfl, ie1, ie2⟩ := kE.form
  obtain ⟨br, dr, rfl, ir1, ir2⟩ := kR.form
  obtain ⟨bc, dc, rfl, ic1, ic2⟩ := kC.form
  have H := hide (And.intro hE (And.intro hR (And.intro hC (And.intro kE (And.intro kR kC)))))
  clear hE hR hC kE kR kC
  have HB0 := hide (((Below.refl w.heap.size w).alloc (Nat.le_refl _) (.cells #[.slice ae p.ents.length ce, .slice ar p.rules.length cr, .slice ac p.code.length cc] 43)).alloc (by simp) (.cells #[.slice be p.ents.length de, .slice br p.rules.length dr, .slice bc p.code.length dc] 43))
  go_enter Tryz.func48, Tryz.ntmps48
  go_wp2_with fail
  refine (sameInts_eq _ _ p.ents _ (H.out.1.below HB0.out) (H.out.2.2.2.1.below HB0.out)).mono ?_
  rintro e w1 ⟨rfl, hB1⟩
  have hbel1 : Below w.heap.size w w1 := HB0.out.trans (hB1.mono (by simp; omega))
  have hc1' := (bcell hB1).1
  have hz1 : w.heap.size + 1 < w1.heap.size := by have := hB1.size; simp at this; omega
  have hy1 : w.heap.size < w1.heap.size := by omega
  go_wp2_with fail
  clear hB1
  refine (sameRules_eq _ _ p.rules _ (H.out.2.1.below hbel1) (H.out.2.2.2.2.1.below hbel1)).mono ?_
  rintro e w2 ⟨rfl, hB2⟩
  have hbel2 := bel0 hbel1 hB2
  have hc2' := (bcell hB2).1
  have hz2 : w.heap.size + 1 < w2.heap.size := by have := hB2.size; omega
  have hy2 : w.heap.size < w2.heap.size := by omega
  go_wp2_with fail
  clear hB2
  refine (sameCode_eq _ _ p.code _ (H.out.2.2.1.below hbel2) (H.out.2.2.2.2.2.below hbel2)).mono ?_
  rintro e w3 ⟨rfl, hB3⟩
  have hbel3 := bel0 hbel2 hB3
  go_wp2
  go_ret
  exact ⟨rfl, hbel3⟩

end Go.Proofs.YtmccnmgaoppogaaGreat

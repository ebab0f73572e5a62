/-
  The walks: is a program right? (program)
-/
import Derived.Test.YtmccnmgaoppogaaGreatW3a
import Derived.Test.YtmccnmgaoppogaaGreatW4c
namespace Go.Proofs.YtmccnmgaoppogaaGreat
open Go.RowKit

theorem Ints.form {w : World} {v : Value} {l : List Int} (h : Ints w v l) : ∃ ao cap, v = .slice ao l.length cap ∧ l.length ≤ cap ∧ cap ≤ 9223372036854775807 := by
  obtain ⟨ao, cap, h1, h2, h3, _⟩ := h.read; exact ⟨ao, cap, h1, h2, h3⟩
theorem Rules.form {w : World} {v : Value} {l : List Pure.Rule} (h : Rules w v l) : ∃ ao cap, v = .slice ao l.length cap ∧ l.length ≤ cap ∧ cap ≤ 9223372036854775807 := by
  obtain ⟨ao, cap, h1, h2, h3, _⟩ := h.read; exact ⟨ao, cap, h1, h2, h3⟩
theorem Code.form {w : World} {v : Value} {l : List Pure.Ins} (h : Code w v l) : ∃ ao cap, v = .slice ao l.length cap ∧ l.length ≤ cap ∧ cap ≤ 9223372036854775807 := by
  obtain ⟨ao, cap, h1, h2, h3, _⟩ := h.read; exact ⟨ao, cap, h1, h2, h3⟩

theorem bcell {W w1 : World} (hb : Below W.heap.size W w1) : (∀ b o, b < W.heap.size → w1.cell? ⟨b, o, none⟩ = W.cell? ⟨b, o, none⟩) ∧ (∀ b o, b < W.heap.size → w1.frozen? ⟨b, o, none⟩ = W.frozen? ⟨b, o, none⟩) :=
  ⟨fun b _ h => hb.cell (p := ⟨b, _, none⟩) h, fun b _ h => hb.frozen (p := ⟨b, _, none⟩) h⟩

set_option maxHeartbeats 1000000 in
theorem right_any (ve vr vc : Value) (p : Pure.Prg) (w : World) (hE : Ints w ve p.ents) (hR : Rules w vr p.rules) (hC : Code w vc p.code) :
    Calls Tryz.prog 75 #[.agg #[ve, vr, vc]] w (RetB (Pure.RightP p) w) := by
  obtain ⟨ae, ce, rfl, he1, he2⟩ := hE.form
  obtain ⟨ar, cr, rfl, hr1, hr2⟩ := hR.form
  obtain ⟨ac, cc, rfl, hc1, hc2⟩ := hC.form
  have HE := hide hE
  have HR := hide hR
  have HC := hide hC
  clear hE hR hC
  go_enter Tryz.func75, Tryz.ntmps75
  go_wp2_with fail
  have b0 := (Below.refl w.heap.size w).alloc (Nat.le_refl _) (.cells #[.slice ae p.ents.length ce, .slice ar p.rules.length cr, .slice ac p.code.length cc] 43)
  have HB0 := hide b0
  clear b0
  refine (entriesRight_any _ p.ents p.code.length _ (HE.out.below HB0.out) (by omega)).mono ?_
  rintro e w1 ⟨b1, rfl, hb1, hB1⟩
  have hbel1 := bel1 (Below.refl _ _) hB1
  have hc1' := (bcell hB1).1
  cases b1
  · go_wp2
    go_ret
    exact retB (Pure.false_iff_of (fun h => Bool.noConfusion (hb1.2 h.1))) hbel1
  have hE1 := hb1.1 rfl
  have hel := hE1.1
  have HE1 := hide hE1
  clear hE1 hb1
  go_wp2_with fail
  have hz1 : w.heap.size < w1.heap.size := by have := hB1.size; simp at this; omega
  clear hB1
  refine (rulesRight_any _ p.rules p.ents.length _ (HR.out.below hbel1) (by omega) (by omega)).mono ?_
  rintro e w2 ⟨b2, rfl, hb2, hB2⟩
  have hbel2 := bel0 hbel1 hB2
  have hc2' := (bcell hB2).1
  cases b2
  · go_wp2
    go_ret
    exact retB (Pure.false_iff_of (fun h => Bool.noConfusion (hb2.2 h.2.1))) hbel2
  have hR1 := hb2.1 rfl
  have hrl := hR1.1
  have HR1 := hide hR1
  clear hR1 hb2
  go_wp2_with fail
  have hz2 : w.heap.size < w2.heap.size := by have := hB2.size; omega
  clear hB2
  refine (codeRight_any _ p.code p.rules.length _ (HC.out.below hbel2) (by omega)).mono ?_
  rintro e w3 ⟨b3, rfl, hb3, hB3⟩
  have hbel3 := bel0 hbel2 hB3
  have hc3' := (bcell hB3).1
  cases b3
  · go_wp2
    go_ret
    exact retB (Pure.false_iff_of (fun h => Bool.noConfusion (hb3.2 h.2.2.1))) hbel3
  have hC1 := hb3.1 rfl
  have hcl := hC1.1
  have HC1 := hide hC1
  clear hC1 hb3
  go_wp2_with fail
  have hz3 : w.heap.size < w3.heap.size := by have := hB3.size; omega
  clear hB3
  refine (hasLoop_any _ p.code _ (HC.out.below hbel3) HC1.out.tight (by omega)).mono ?_
  rintro e w4 ⟨b4, rfl, hb4, hB4⟩
  have hbel4 := bel0 hbel3 hB4
  go_wp2
  go_ret
  refine retB ?_ hbel4
  constructor
  · intro h
    have h4 : b4 = false := by simpa using h
    refine ⟨HE1.out, HR1.out, HC1.out, ?_⟩
    apply Classical.byContradiction
    intro hn
    have := hb4.2 hn
    rw [h4] at this
    cases this
  · intro h
    cases b4
    · rfl
    · exact absurd h.2.2.2 (hb4.1 rfl)

end Go.Proofs.YtmccnmgaoppogaaGreat

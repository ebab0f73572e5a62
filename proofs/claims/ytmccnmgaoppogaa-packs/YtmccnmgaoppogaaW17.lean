/-
  The walks: every Pack. (weirlaw)
-/
import Derived.Test.YtmccnmgaoppogaaW16
namespace Go.Proofs.Ytmccnmgaoppogaa
open Go.RowKit

theorem Try.info96 : (Try.prog.info? 96).map (fun i => (i.zero, i.size, i.bytes)) = some (some (.agg #[.string ⟨#[]⟩, .pointer none]), 2, 24) := by kernel_rfl

theorem cell_list2 {w : World} {xs : List Value} {t : TypeId} {n : Nat} (hn : n = w.heap.size) (j : Nat) (u : Value) (h : xs[j]? = some u) : (w.alloc (.cells xs.toArray t)).cell? ((⟨n, 0, none⟩ : Addr).add j) = some u := cell_list hn j u h

def RetTB (B : Nat) (w : World) (e : Ending) (w' : World) : Prop := e = .returned (.bool true) ∧ Below B w w'

set_option maxRecDepth 100000 in
set_option maxHeartbeats 2000000 in
theorem packed_any (B bw : Nat) (dv : Value) (ve vr vc : Value) (p : Pure.Prg) (w : World) (hw : Blk w bw 38 [.slice none 0 0, .slice none 0 0, dv]) (hB : B ≤ bw) (hE : Ints w ve p.ents) (hR : Rules w vr p.rules) (hC : Code w vc p.code)
    (hm : p.ents.length * 8 ≤ 140737488351232) (hk : p.rules.length * 24 ≤ 140737488351232) (hn : p.code.length * 32 ≤ 140737488351232) :
    Calls Try.prog 12 #[.pointer (some ⟨bw, 0, none⟩), .agg #[ve, vr, vc]] w (RetTB B w) := by
  obtain ⟨i0, hi, hz0, hz1, hz2⟩ := info_parts Try.info96
  obtain ⟨ae, ce, rfl, he1, he2⟩ := hE.form
  obtain ⟨ar, cr, rfl, hr1, hr2⟩ := hR.form
  obtain ⟨ac, cc, rfl, hc1, hc2⟩ := hC.form
  have H := hide (And.intro hE (And.intro hR hC))
  have HW := hide hw
  have hbw := blk_lt hw
  clear hE hR hC hw
  have HB0 := hide ((Below.refl w.heap.size w).alloc (Nat.le_refl _) (.cells #[.slice ae p.ents.length ce, .slice ar p.rules.length cr, .slice ac p.code.length cc] 26))
  have hbox : Blk (w.alloc (.cells #[.slice ae p.ents.length ce, .slice ar p.rules.length cr, .slice ac p.code.length cc] 26)) w.heap.size 26 [.slice ae p.ents.length ce, .slice ar p.rules.length cr, .slice ac p.code.length cc] := heap_alloc_new _ _
  have HBX := hide hbox
  clear hbox
  go_enter Try.func12, Try.ntmps12
  go_wp2_with fail
  refine (handed_any _ _ _ p _ (H.out.1.below HB0.out) (H.out.2.1.below HB0.out) (H.out.2.2.below HB0.out) hm hk hn).mono ?_
  rintro e w1 ⟨ge, gr, gc, rfl, hh⟩
  have bx1 := blk_below HBX.out hh.bel (by simp)
  have bel1 : Below w.heap.size w w1 := HB0.out.trans (hh.bel.mono (by simp))
  have hz1' : w.heap.size < w1.heap.size := blk_lt bx1
  have hge := hh.e0
  have hgr := hh.r0
  have hgc := hh.c0
  simp only [World.size_alloc] at hge hgr hgc
  have HH := hide hh
  clear hh
  go_wp2_with fail
  have HB1 := hide ((Below.refl w1.heap.size w1).alloc (Nat.le_refl _) (.cells #[.slice (some ⟨ge, 0, none⟩) p.ents.length (p.ents.length + 1), .slice (some ⟨gr, 0, none⟩) p.rules.length (p.rules.length + 1), .slice (some ⟨gc, 0, none⟩) p.code.length (p.code.length + 1)] 26))
  have bo1 : Blk (w1.alloc (.cells #[.slice (some ⟨ge, 0, none⟩) p.ents.length (p.ents.length + 1), .slice (some ⟨gr, 0, none⟩) p.rules.length (p.rules.length + 1), .slice (some ⟨gc, 0, none⟩) p.code.length (p.code.length + 1)] 26)) w1.heap.size 26 [.slice (some ⟨ge, 0, none⟩) p.ents.length (p.ents.length + 1), .slice (some ⟨gr, 0, none⟩) p.rules.length (p.rules.length + 1), .slice (some ⟨gc, 0, none⟩) p.code.length (p.code.length + 1)] := heap_alloc_new _ _
  refine (pack_any _ _ _ p _ (blk_ints (blk_alloc HH.out.ents _) (by omega) (by omega)) (blk_rules (blk_alloc HH.out.rules _) (by omega) (by omega)) (blk_code (blk_alloc HH.out.code _) (by omega) (by omega))).mono ?_
  rintro e w2 ⟨s, c, rfl, hB2, hok2⟩
  have bo2 := blk_below bo1 hB2 (by simp)
  have bx2 := blk_below (blk_alloc bx1 _) hB2 (by simp; omega)
  have be2 := blk_below (blk_alloc HH.out.ents _) hB2 (by have := blk_lt HH.out.ents; simp; omega)
  have br2 := blk_below (blk_alloc HH.out.rules _) hB2 (by have := blk_lt HH.out.rules; simp; omega)
  have bc2 := blk_below (blk_alloc HH.out.code _) hB2 (by have := blk_lt HH.out.code; simp; omega)
  have bel2 : Below w.heap.size w w2 := bel1.trans ((HB1.out.trans (hB2.mono (by simp))).mono (by omega))
  have o0 := blk_cell (j := 0) bo2 rfl
  have o1 := blk_cell (j := 1) bo2 rfl
  have o2 := blk_cell (j := 2) bo2 rfl
  have p0 := blk_cell (j := 0) bx2 rfl
  have p1 := blk_cell (j := 1) bx2 rfl
  have p2 := blk_cell (j := 2) bx2 rfl
  have HK2 := hide hok2
  have HX := hide (And.intro bo2 (And.intro bx2 (And.intro be2 (And.intro br2 bc2))))
  clear bo1 bo2 bx1 bx2 be2 br2 bc2 HB1 hB2 hok2 HH
  go_wp2_with fail
  refine (still_any ge gr gc _ _ _ p _ HX.out.2.2.1 HX.out.2.2.2.1 HX.out.2.2.2.2 (H.out.1.below bel2) (H.out.2.1.below bel2) (H.out.2.2.below bel2) (by omega) (by omega) (by omega)).mono ?_
  rintro e w3 ⟨rfl, hB3⟩
  clear o0 o1 o2 p0 p1 p2
  have bo3 := blk_below HX.out.1 hB3 (blk_lt HX.out.1)
  have bx3 := blk_below HX.out.2.1 hB3 (blk_lt HX.out.2.1)
  have be3 := blk_below HX.out.2.2.1 hB3 (blk_lt HX.out.2.2.1)
  have br3 := blk_below HX.out.2.2.2.1 hB3 (blk_lt HX.out.2.2.2.1)
  have bc3 := blk_below HX.out.2.2.2.2 hB3 (blk_lt HX.out.2.2.2.2)
  have bel3 := bel0 bel2 hB3
  have o0 := blk_cell (j := 0) bo3 rfl
  have o1 := blk_cell (j := 1) bo3 rfl
  have o2 := blk_cell (j := 2) bo3 rfl
  have HY := hide (And.intro bx3 (And.intro be3 (And.intro br3 bc3)))
  clear bo3 bx3 be3 br3 bc3 HX hB3
  go_wp2_with fail
  refine (blotted_any (w.heap.size + 1) ge gr gc p.ents.length p.rules.length p.code.length _ _ _ _ HY.out.2.1 HY.out.2.2.1 HY.out.2.2.2 (by simp [intCells_length]) (by simp [ruleCells_length]; omega) (by simp [insCells_length]; omega) (by omega) (by omega) (by omega) (by have := blk_lt HY.out.1; omega) (by omega) (by omega) (by omega)).mono ?_
  rintro e w4 ⟨rfl, hB4⟩
  clear o0 o1 o2
  have bx4 := blk_below HY.out.1 hB4 (by omega)
  have bel4 : Below w.heap.size w w4 := bel3.trans (hB4.mono (by omega))
  have p0 := blk_cell (j := 0) bx4 rfl
  have p1 := blk_cell (j := 1) bx4 rfl
  have p2 := blk_cell (j := 2) bx4 rfl
  clear HY hB4 bx4 hge hgr hgc
  go_wp2_with fail
  refine (refPack_any _ _ _ p _ (H.out.1.below bel4) (H.out.2.1.below bel4) (H.out.2.2.below bel4)).mono ?_
  rintro e w5 ⟨t, d, rfl, hB5, hok5⟩
  clear p0 p1 p2
  obtain ⟨rfl, rfl⟩ := HK2.out.same hok5
  have bel5 := bel0 bel4 hB5
  have bw5 := blk_below HW.out bel5 hbw
  have v0 := blk_cell (j := 0) bw5 rfl
  have f0 := blk_frozen bw5 0
  have BW5 := hide bw5
  clear hB5 bw5 HW H
  rcases hok5 with ⟨hp, hs, rfl⟩ | ⟨hp, hs, rfl⟩
  · clear hp hs HK2
    go_wp2_with (first | (at_builtin; refine wpList_append_own _ rfl (.tmp 47) (.tmp 50) 35 rfl w5.heap.size 96 i0 (.agg #[.string ⟨#[]⟩, .pointer none]) 2 24 Try.underlying35 hi hz0 hz1 hz2 rfl (by decide) (.slice none 0 0) 0 [] rfl (World.ownsRow_nil _ _ _ _) ⟨w5.heap.size, 0, none⟩ 1 1 [.string s, .pointer none] rfl rfl (cell_list2 rfl) (by intro u hu; simp at hu; rcases hu with rfl | rfl <;> rfl) (by unfold maxLen; omega) (by omega) (by simp) ?_; intro v1 w6 hown hgrow _; have bw6 := blk_grown (blk_alloc BW5.out _) hgrow (by simp [Value.ownBlock]); have v6 := blk_cell (j := 0) bw6 rfl; have f6 := blk_frozen bw6 0; obtain ⟨aq, cq, rfl, -⟩ := own_read hown) | go_in)
    have bel6 : Below B w w6 := ((bel5.mono (by omega)).alloc (by have := bel5.size; omega) _).grown hgrow (by have := bel5.size; simp; omega) (fun k hk => by simp [Value.ownBlock] at hk)
    go_ret
    exact ⟨rfl, bel6.setCell hB _⟩
  · clear hp hs HK2
    go_wp2
    go_ret
    exact ⟨rfl, bel5.mono (by omega)⟩

set_option maxHeartbeats 400000 in
theorem packs_any (ve vr vc : Value) (p : Pure.Prg) (w : World) (hE : Ints w ve p.ents) (hR : Rules w vr p.rules) (hC : Code w vc p.code)
    (hm : p.ents.length * 8 ≤ 140737488351232) (hk : p.rules.length * 24 ≤ 140737488351232) (hn : p.code.length * 32 ≤ 140737488351232) :
    Calls Try.prog 3 #[.agg #[ve, vr, vc]] w (RetT w) := by
  obtain ⟨ae, ce, rfl, he1, he2⟩ := hE.form
  obtain ⟨ar, cr, rfl, hr1, hr2⟩ := hR.form
  obtain ⟨ac, cc, rfl, hc1, hc2⟩ := hC.form
  have H := hide (And.intro hE (And.intro hR hC))
  clear hE hR hC
  go_enter Try.func3, Try.ntmps3
  go_wp2_with fail
  have hb : Below w.heap.size w (((w.alloc (.cells #[.slice ae p.ents.length ce, .slice ar p.rules.length cr, .slice ac p.code.length cc] 26)).alloc (.cells #[.int .i64 0, .slice none 0 0, .slice none 0 0, .slice none 0 0, .slice none 0 0, .slice none 0 0, .slice none 0 0, .slice none 0 0, .slice none 0 0] 34)).alloc (.cells #[.slice none 0 0, .slice none 0 0, .pointer (some ⟨w.heap.size + 1, 0, none⟩)] 38)) := (((Below.refl _ _).alloc (Nat.le_refl _) _).alloc (by simp) _).alloc (by simp; omega) _
  have hw : Blk (((w.alloc (.cells #[.slice ae p.ents.length ce, .slice ar p.rules.length cr, .slice ac p.code.length cc] 26)).alloc (.cells #[.int .i64 0, .slice none 0 0, .slice none 0 0, .slice none 0 0, .slice none 0 0, .slice none 0 0, .slice none 0 0, .slice none 0 0, .slice none 0 0] 34)).alloc (.cells #[.slice none 0 0, .slice none 0 0, .pointer (some ⟨w.heap.size + 1, 0, none⟩)] 38)) (w.heap.size + 1 + 1) 38 [.slice none 0 0, .slice none 0 0, .pointer (some ⟨w.heap.size + 1, 0, none⟩)] := by
    have := heap_alloc_new ((w.alloc (.cells #[.slice ae p.ents.length ce, .slice ar p.rules.length cr, .slice ac p.code.length cc] 26)).alloc (.cells #[.int .i64 0, .slice none 0 0, .slice none 0 0, .slice none 0 0, .slice none 0 0, .slice none 0 0, .slice none 0 0, .slice none 0 0, .slice none 0 0] 34)) (.cells #[.slice none 0 0, .slice none 0 0, .pointer (some ⟨w.heap.size + 1, 0, none⟩)] 38)
    simp only [World.size_alloc] at this
    exact this
  refine (packed_any w.heap.size (w.heap.size + 1 + 1) _ _ _ _ p _ hw (by omega) (H.out.1.below hb) (H.out.2.1.below hb) (H.out.2.2.below hb) hm hk hn).mono ?_
  rintro e w1 ⟨rfl, hB1⟩
  have hbel1 := hb.trans hB1
  clear hB1 hw hb
  go_wp2
  go_ret
  exact ⟨rfl, hbel1⟩

end Go.Proofs.Ytmccnmgaoppogaa

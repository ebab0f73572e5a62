/-
  The walks: shaped, no modes. (weirkeep)
-/
import Derived.Test.YtmccnmgaoppogaaB7a
namespace Go.Proofs.Ytmccnmgaoppogaa
open Go.RowKit

set_option maxRecDepth 100000 in
set_option maxHeartbeats 4000000 in
theorem shaped_none (ve vr vc : Value) (r : Pure.Prg) (w : World) (hE : Ints w ve r.ents) (hR : Rules w vr r.rules) (hC : Code w vc r.code) (rE : IntsR r.ents) (rR : RulesR r.rules) (rC : InsR r.code) (m0 : r.ents.length = 0) :
    Calls Try.prog 14 #[.agg #[ve, vr, vc]] w (RetShaped w) := by
  obtain ⟨i3, hi3, h30, h31, h32⟩ := info_parts Try.inf3
  obtain ⟨ir, hir, hr0, hr1, hr2⟩ := info_parts Try.info66
  obtain ⟨ae, ce, rfl, he1, he2, hreadE⟩ := hE.read
  obtain ⟨ar, cr, rfl, hr1', hr2', hreadR⟩ := hR.read
  obtain ⟨ac, cc, rfl, hc1', hc2', -⟩ := hC.read
  have HC := hide hC
  have RE := hide rE
  have RR := hide rR
  have RC := hide rC
  have HRE := hide hreadE
  have HRR := hide hreadR
  clear hE hR hC rE rR rC hreadE hreadR
  have s0 := Trio.start w [.slice ae r.ents.length ce, .slice ar r.rules.length cr, .slice ac r.code.length cc] [.slice none 0 0, .slice none 0 0, .slice none 0 0]
  have b0 := blk_cell (j := 0) s0.box rfl
  have S0 := hide s0
  clear s0
  have dm1 : decide ((r.ents.length : Int) < 1) = true := by simp; omega
  have M0 := hide m0
  clear m0
  go_enter Try.func14, Try.ntmps14
  go_wp2_with fail
  clear b0
  go_loopw [5] (fun i wr => ∃ (k : Nat) (v : Value) (q : List Pure.Rule), q.length = k ∧ k ≤ r.rules.length ∧ k ≤ 16 ∧ i = .int .i64 k ∧ (∀ j, j < q.length → Pure.RuleOK 1 (Pure.rg q j)) ∧ Trio w wr [.slice ae r.ents.length ce, .slice ar r.rules.length cr, .slice ac r.code.length cc] [.slice none 0 0, .slice none 0 0, .slice none 0 0] [.slice none 0 0, v, .slice none 0 0] ∧ wr.ownsRow (w.heap.size + 3) 66 3 v k (ruleCells q)) (fun i _ => 16 - (intOf i).toNat)
  case atStart => exact ⟨0, _, [], rfl, Nat.zero_le _, Nat.zero_le _, rfl, fun j hj => by simp at hj, S0.out, own_nil _ _ _ _⟩
  case round =>
    clear S0
    obtain ⟨k, v, q, hq, hk, hk2, rfl, hok, ht, hown⟩ := hrel
    have x1 := blk_cell (j := 1) ht.box rfl
    by_cases hlt : k < r.rules.length ∧ k < 16
    · obtain ⟨b, off, rfl, hbl, e0, e1, e2⟩ := HRR.out k hlt.1
      have q0 := (ht.bel.cell (p := ⟨b, off + k * 3, none⟩) hbl).trans e0
      have q1 := (ht.bel.cell (p := ⟨b, off + k * 3 + 1, none⟩) hbl).trans e1
      have q2 := (ht.bel.cell (p := ⟨b, off + k * 3 + 2, none⟩) hbl).trans e2
      obtain ⟨r0, r1, r2⟩ := RR.out k hlt.1
      generalize (Pure.rg r.rules k).emit = x at *
      generalize (Pure.rg r.rules k).act = y at *
      generalize (Pure.rg r.rules k).mode = z at *
      obtain ⟨r01, r02⟩ := r0
      obtain ⟨r11, r12⟩ := r1
      have P2 := hide (fun w => pick_any z 1 w r2.1 r2.2 (by omega) (by omega))
      have B0 := Pure.pk_bd x (n := 2) (by omega)
      have B1 := Pure.pk_bd y (n := 4) (by omega)
      have B2 := Pure.pk_bd z (n := 1) (by omega)
      generalize Pure.pk z 1 = pz at *
      have d1 : decide ((k : Int) < (r.rules.length : Int)) = true := by simp; omega
      have d2 : decide ((k : Int) < 16) = true := by simp; omega
      have i0 : (0 : Int) ≤ (k : Int) := by omega
      have i1 : (k : Int) < (r.rules.length : Int) := by omega
      have HT := hide ht
      have HO := hide hown
      have HQ := hide hq
      have OK := hide hok
      have HL := hide hlt
      have EE := hide e2
      clear ht hown hq hok e0 e1 e2 hlt r2
      go_wp2_with fail
      apply once
      · intro key
        go_region_held3 (fun w' => w'.cell? ⟨w.heap.size, 1, none⟩ = some (.slice (some ⟨b, off, none⟩) r.rules.length cr) ∧ w'.cell? ⟨b, off + k * 3, none⟩ = some (.int .i64 x) ∧ w'.cell? ⟨b, off + k * 3 + 1, none⟩ = some (.int .i64 y)) (go_keep) (first | (go_at_call 50; refine (pick_any _ _ _ (by omega) (by omega) (by omega) (by omega)).mono ?_; rintro e w' ⟨rfl, rfl⟩))
        all_goals exact key.out
      have T1 := hide ((HT.out.alloc (.cells #[.int .i64 (Pure.pk x 2), .int .i64 (Pure.pk y 4), .int .i64 0] 66)).drew)
      have O1 := hide (World.ownsRow.drew (World.ownsRow.alloc HO.out (.cells #[.int .i64 (Pure.pk x 2), .int .i64 (Pure.pk y 4), .int .i64 0] 66)))
      have KR : Hid (Blk (wr.alloc (.cells #[.int .i64 (Pure.pk x 2), .int .i64 (Pure.pk y 4), .int .i64 0] 66)).drew wr.heap.size 66 [.int .i64 (Pure.pk x 2), .int .i64 (Pure.pk y 4), .int .i64 0]) := heap_alloc_new _ _
      have VN : Hid (v.ownBlock ≠ some wr.heap.size) := fun h => by have := (World.ownsRow.lt HO.out _ h).2; omega
      have GW : Hid (w.heap.size + 3 ≤ wr.heap.size) := HT.out.sz
      have hq2 : (wr.alloc (.cells #[.int .i64 (Pure.pk x 2), .int .i64 (Pure.pk y 4), .int .i64 0] 66)).drew.cell? ⟨b, off + k * 3 + 2, none⟩ = some (.int .i64 z) := T1.out.bel.cell (p := ⟨b, off + k * 3 + 2, none⟩) hbl |>.trans EE.out
      generalize (wr.alloc (.cells #[.int .i64 (Pure.pk x 2), .int .i64 (Pure.pk y 4), .int .i64 0] 66)).drew = W1 at *
      generalize Pure.pk x 2 = px at *
      generalize Pure.pk y 4 = py at *
      clear x1 q0 q1 q2 HT HO
      have x1 := blk_cell (j := 1) T1.out.box rfl
      have n1 := blk_cell (j := 1) T1.out.own rfl
      have k0 := blk_cell (j := 0) KR.out rfl
      have k1 := blk_cell (j := 1) KR.out rfl
      have k2 := blk_cell (j := 2) KR.out rfl
      have kf := blk_frozen KR.out 2
      have hbw : b ≠ wr.heap.size := by have := GW.out; omega
      by_cases hy : py = 1 ∨ py = 2
      · have TX := hide (fun u : Value => T1.out.far GW.out 2 u)
        have OX := hide (fun u : Value => ownsRow_setCell_other O1.out (a := ⟨wr.heap.size, 2, none⟩) VN.out u)
        have j0 := fun u : Value => blk_cell (j := 0) (blk_set KR.out 2 u) rfl
        have j1 := fun u : Value => blk_cell (j := 1) (blk_set KR.out 2 u) rfl
        have j2 := fun u : Value => blk_cell (j := 2) (blk_set KR.out 2 u) rfl
        have jn := fun u : Value => blk_cell (j := 1) (TX.out u).own rfl
        have HY := hide hy
        have dy : ((py == 1) = true) ∨ ((py == 1) = false ∧ (py == 2) = true) := by simp; omega
        clear hy
        rcases dy with dy | ⟨dy, dy2⟩
        · go_wp2_with fail
          refine (P2.out _).mono ?_
          rintro e w' ⟨rfl, rfl⟩
          have hy := HY.out
          clear hq2 x1 n1 k0 k1
          go_wp2_with (at_builtin; refine wpList_append_own _ rfl (.tmp 60) (.tmp 62) 23 rfl (w.heap.size + 3) 66 ir (.agg #[.int .i64 0, .int .i64 0, .int .i64 0]) 3 24 Try.underlying23 hir hr0 hr1 hr2 rfl (by decide) v k (ruleCells q) rfl (World.ownsRow.alloc (OX.out (.int .i64 pz)) _) ⟨w'.heap.size, 0, none⟩ 1 1 [.int .i64 px, .int .i64 py, .int .i64 pz] rfl rfl (cell_list3 (by simp [World.setCell])) (by intro u hu; simp at hu; rcases hu with rfl | rfl | rfl <;> rfl) (by unfold maxLen; have := HL.out; omega) (by have := HL.out; omega) (by have := ((TX.out (.int .i64 pz)).alloc (.cells #[] 0)).sz; simp at this; simp; omega) ?_; intro v3 w3 hown3 hgrow3 _; obtain ⟨g3, c3, rfl, -, -⟩ := own_some hown3 (by omega); have t3 := ((TX.out (.int .i64 pz)).alloc _).grown hgrow3 (fun k' h => (World.ownsRow.lt (OX.out (.int .i64 pz)) k' h).1); have z3 := blk_cell (j := 1) t3.own rfl; have y3 := blk_frozen t3.own 1; rw [← rules_snoc] at hown3; have O3 := hide (And.intro t3 hown3); clear t3 hown3 hgrow3)
          go_roundw
          case rel =>
            have hlq := HQ.out
            refine ⟨k + 1, _, q ++ [⟨px, py, pz⟩], by rw [List.length_append, hlq]; rfl, by have := HL.out; omega, by have := HL.out; omega, by go_num, ?_, O3.out.1.set 1 _, ownsRow_setCell_below O3.out.2 (by show w.heap.size + 1 + 1 < w.heap.size + 3; omega) _⟩
            exact rg_snoc (P := Pure.RuleOK 1) OK.out (rule_ok 1 px py pz (by omega) B0 B1 B2 (by omega))
          case measure => have := HL.out; simp [intOf]; omega
        · go_wp2_with fail
          refine (P2.out _).mono ?_
          rintro e w' ⟨rfl, rfl⟩
          have hy := HY.out
          clear hq2 x1 n1 k0 k1
          go_wp2_with (at_builtin; refine wpList_append_own _ rfl (.tmp 60) (.tmp 62) 23 rfl (w.heap.size + 3) 66 ir (.agg #[.int .i64 0, .int .i64 0, .int .i64 0]) 3 24 Try.underlying23 hir hr0 hr1 hr2 rfl (by decide) v k (ruleCells q) rfl (World.ownsRow.alloc (OX.out (.int .i64 pz)) _) ⟨w'.heap.size, 0, none⟩ 1 1 [.int .i64 px, .int .i64 py, .int .i64 pz] rfl rfl (cell_list3 (by simp [World.setCell])) (by intro u hu; simp at hu; rcases hu with rfl | rfl | rfl <;> rfl) (by unfold maxLen; have := HL.out; omega) (by have := HL.out; omega) (by have := ((TX.out (.int .i64 pz)).alloc (.cells #[] 0)).sz; simp at this; simp; omega) ?_; intro v3 w3 hown3 hgrow3 _; obtain ⟨g3, c3, rfl, -, -⟩ := own_some hown3 (by omega); have t3 := ((TX.out (.int .i64 pz)).alloc _).grown hgrow3 (fun k' h => (World.ownsRow.lt (OX.out (.int .i64 pz)) k' h).1); have z3 := blk_cell (j := 1) t3.own rfl; have y3 := blk_frozen t3.own 1; rw [← rules_snoc] at hown3; have O3 := hide (And.intro t3 hown3); clear t3 hown3 hgrow3)
          go_roundw
          case rel =>
            have hlq := HQ.out
            refine ⟨k + 1, _, q ++ [⟨px, py, pz⟩], by rw [List.length_append, hlq]; rfl, by have := HL.out; omega, by have := HL.out; omega, by go_num, ?_, O3.out.1.set 1 _, ownsRow_setCell_below O3.out.2 (by show w.heap.size + 1 + 1 < w.heap.size + 3; omega) _⟩
            exact rg_snoc (P := Pure.RuleOK 1) OK.out (rule_ok 1 px py pz (by omega) B0 B1 B2 (by omega))
          case measure => have := HL.out; simp [intOf]; omega
      · have dy : (py == 1) = false := by simp; omega
        have dy2 : (py == 2) = false := by simp; omega
        go_wp2_with (at_builtin; refine wpList_append_own _ rfl (.tmp 60) (.tmp 62) 23 rfl (w.heap.size + 3) 66 ir (.agg #[.int .i64 0, .int .i64 0, .int .i64 0]) 3 24 Try.underlying23 hir hr0 hr1 hr2 rfl (by decide) v k (ruleCells q) rfl (World.ownsRow.alloc O1.out _) ⟨W1.heap.size, 0, none⟩ 1 1 [.int .i64 px, .int .i64 py, .int .i64 0] rfl rfl (cell_list3 (by simp)) (by intro u hu; simp at hu; rcases hu with rfl | rfl | rfl <;> rfl) (by unfold maxLen; have := HL.out; omega) (by have := HL.out; omega) (by have := (T1.out.alloc (.cells #[] 0)).sz; simp at this; simp; omega) ?_; intro v3 w3 hown3 hgrow3 _; obtain ⟨g3, c3, rfl, -, -⟩ := own_some hown3 (by omega); have t3 := (T1.out.alloc _).grown hgrow3 (fun k' h => (World.ownsRow.lt O1.out k' h).1); have z3 := blk_cell (j := 1) t3.own rfl; have y3 := blk_frozen t3.own 1; rw [← rules_snoc] at hown3; have O3 := hide (And.intro t3 hown3); clear t3 hown3 hgrow3)
        go_roundw
        case rel =>
          have hlq := HQ.out
          refine ⟨k + 1, _, q ++ [⟨px, py, 0⟩], by rw [List.length_append, hlq]; rfl, by have := HL.out; omega, by have := HL.out; omega, by go_num, ?_, O3.out.1.set 1 _, ownsRow_setCell_below O3.out.2 (by show w.heap.size + 1 + 1 < w.heap.size + 3; omega) _⟩
          exact rg_snoc (P := Pure.RuleOK 1) OK.out (rule_ok 1 px py 0 (by omega) B0 B1 (by omega) (by omega))
        case measure => have := HL.out; simp [intOf]; omega
    · obtain ⟨aR, cR, rfl, -, -, -⟩ := own_read hown
      have n1 := blk_cell (j := 1) ht.own rfl
      have hkk2 := hk2
      have HT := hide ht
      have HO := hide hown
      have OK := hide hok
      clear ht hown hok
      by_cases h1 : k < r.rules.length
      · have d1 : decide ((k : Int) < (r.rules.length : Int)) = true := by simp; omega
        have d2 : decide ((k : Int) < 16) = false := by simp; omega
        have d0 : ((k : Int) == 0) = false := by simp; omega
        have i1 : (k : Int) < (r.rules.length : Int) := by omega
        have i2 : (16 : Int) ≤ (k : Int) := by omega
        have i3' : 16 ≤ k := by omega
        have hkk1 : 1 ≤ k := by omega
        obtain ⟨gR, cR', eR, -, -⟩ := own_some HO.out (by omega)
        cases eR
        obtain ⟨Q, hQ⟩ : ∃ x, x = q := ⟨q, rfl⟩
        subst hQ
        obtain ⟨kk, hKK⟩ : ∃ x, x = k := ⟨k, rfl⟩
        subst hKK
        obtain ⟨W, hWW⟩ : ∃ x, x = wr := ⟨wr, rfl⟩
        subst hWW
        have T0 := HT
        have OR := HO
        have RK := OK
        have QL := hide hq
        clear hq HT HO OK hlt
        have x2 := blk_cell (j := 2) T0.out.box rfl
        have n1 := blk_cell (j := 1) T0.out.own rfl
        go_wp2_with fail
        clear x2 n1
        refine (operations_any _ r.code kk W (HC.out.below T0.out.bel) RC.out hkk1 hkk2).mono ?_
        rintro e w2 ⟨vC, l, rfl, hB2, ho2, hcode, hnw, hlast⟩
        have hl1 := hcode.1
        have hsz0 := T0.out.sz
        have t2 := T0.out.below (hB2.mono hsz0)
        have or2 := own_below OR.out hB2 (Nat.le_refl _)
        have oc2 := own_mono (base' := w.heap.size + 3) ho2 hsz0
        obtain ⟨gC, cC, rfl, hgc1, hgc2⟩ := own_some oc2 (by omega)
        have n2 := blk_cell (j := 2) t2.own rfl
        have f2 := blk_frozen t2.own 2
        have T2 := hide (t2.set 2 (.slice (some ⟨gC, 0, none⟩) l.length cC))
        have OR2 := hide (ownsRow_setCell_below or2 (a := ⟨w.heap.size + 1 + 1, 2, none⟩) (by show w.heap.size + 1 + 1 < w.heap.size + 3; omega) (.slice (some ⟨gC, 0, none⟩) l.length cC))
        have OC2 := hide (ownsRow_setCell_below oc2 (a := ⟨w.heap.size + 1 + 1, 2, none⟩) (by show w.heap.size + 1 + 1 < w.heap.size + 3; omega) (.slice (some ⟨gC, 0, none⟩) l.length cC))
        have CD := hide (And.intro hcode (And.intro hnw hlast))
        clear t2 or2 oc2 ho2 hB2 hcode hnw hlast hsz0 T0 OR
        go_wp2_with fail
        clear n2 f2
        go_loopw [7] (fun i wr => ∃ (k : Nat) (v : Value) (es : List Int), es.length = k ∧ k ≤ 1 ∧ i = .int .i64 k ∧ (∀ j, j < es.length → 0 ≤ Pure.ig es j ∧ Pure.ig es j < l.length) ∧ Trio w wr [.slice ae r.ents.length ce, .slice ar r.rules.length cr, .slice ac r.code.length cc] [.slice none 0 0, .slice none 0 0, .slice none 0 0] [v, .slice (some ⟨gR, 0, none⟩) kk cR, .slice (some ⟨gC, 0, none⟩) l.length cC] ∧ wr.ownsRow (w.heap.size + 3) 3 1 v k (intCells es) ∧ wr.ownsRow (w.heap.size + 3) 66 3 (.slice (some ⟨gR, 0, none⟩) kk cR) kk (ruleCells Q) ∧ wr.ownsRow (w.heap.size + 3) 103 4 (.slice (some ⟨gC, 0, none⟩) l.length cC) l.length (insCells l)) (fun i _ => 16 - (intOf i).toNat)
        case atStart => exact ⟨0, _, [], rfl, Nat.zero_le _, rfl, fun j hj => by simp at hj, T2.out, own_nil _ _ _ _, OR2.out, OC2.out⟩
        case round =>
          clear T2 OR2 OC2
          obtain ⟨k, v, es, hes, hk, rfl, hev, ht, hoE, hoR, hoC⟩ := hrel
          by_cases hlt : k < 1
          · have x0 := blk_cell (j := 0) ht.box rfl
            have z0 := blk_cell (j := 0) ht.own rfl
            have z2 := blk_cell (j := 2) ht.own rfl
            have HT := hide ht
            have HOE := hide hoE
            have HOR := hide hoR
            have HOC := hide hoC
            have HES := hide hes
            have HEV := hide hev
            have d1 : decide ((k : Int) < (r.ents.length : Int)) = false := by have := M0.out; simp; omega
            have i1 : (r.ents.length : Int) ≤ (k : Int) := by have := M0.out; omega
            have HT1 := HT
            have HOE1 := HOE
            have HOR1 := HOR
            have HOC1 := HOC
            clear ht hoE hoR hoC hes hev
            go_wp2_with (at_builtin; refine wpList_append_own _ rfl (.tmp 102) (.tmp 104) 22 rfl (w.heap.size + 3) 3 i3 (.int .i64 0) 1 8 Try.underlying22 hi3 h30 h31 h32 rfl (by decide) v k (intCells es) rfl (World.ownsRow.alloc HOE1.out _) ⟨wr.heap.size, 0, none⟩ 1 1 [.int .i64 0] rfl rfl (cell_list3 (by simp)) (by intro u hu; simp at hu; rcases hu with rfl; rfl) (by unfold maxLen; omega) (by omega) (by have := (HT1.out.alloc (.cells #[] 0)).sz; simp at this; simp; omega) ?_; intro v3 w3 hown3 hgrow3 _; obtain ⟨g3, c3, rfl, -, -⟩ := own_some hown3 (by omega); have t3 := (HT1.out.alloc (.cells #[.int .i64 0] 3)).grown hgrow3 (fun k' h => (World.ownsRow.lt HOE1.out k' h).1); have z3 := blk_cell (j := 0) t3.own rfl; have y3 := blk_frozen t3.own 0; rw [← ints_snoc] at hown3; have or3 := own_else (World.ownsRow.alloc HOR1.out (.cells #[.int .i64 0] 3)) (World.ownsRow.alloc HOE1.out (.cells #[.int .i64 0] 3)) (by decide) hgrow3; have oc3 := own_else (World.ownsRow.alloc HOC1.out (.cells #[.int .i64 0] 3)) (World.ownsRow.alloc HOE1.out (.cells #[.int .i64 0] 3)) (by decide) hgrow3; have O3 := hide (And.intro t3 (And.intro hown3 (And.intro or3 oc3))); clear t3 hown3 hgrow3 or3 oc3)
            go_roundw
            case rel =>
              have he := HES.out
              refine ⟨k + 1, _, es ++ [0], by rw [List.length_append, he]; rfl, hlt, by go_num, ig_snoc (P := fun x => 0 ≤ x ∧ x < l.length) HEV.out ⟨by omega, by omega⟩, O3.out.1.set 0 _, ownsRow_setCell_below O3.out.2.1 (by show w.heap.size + 1 + 1 < w.heap.size + 3; omega) _, ownsRow_setCell_below O3.out.2.2.1 (by show w.heap.size + 1 + 1 < w.heap.size + 3; omega) _, ownsRow_setCell_below O3.out.2.2.2 (by show w.heap.size + 1 + 1 < w.heap.size + 3; omega) _⟩
            case measure => simp [intOf]; omega
          · have hkm : k = 1 := by omega
            subst hkm
            have z0 := blk_cell (j := 0) ht.own rfl
            have z1 := blk_cell (j := 1) ht.own rfl
            have z2 := blk_cell (j := 2) ht.own rfl
            have o0 := blk_cell (j := 0) ht.out rfl
            have o1 := blk_cell (j := 1) ht.out rfl
            have o2 := blk_cell (j := 2) ht.out rfl
            have f0 := blk_frozen ht.out 0
            have f1 := blk_frozen ht.out 1
            have f2 := blk_frozen ht.out 2
            obtain ⟨gE, cE, rfl, -, -⟩ := own_some hoE (by omega)
            have HT := hide ht
            have HOE := hide hoE
            have HOR := hide hoR
            have HOC := hide hoC
            have HES := hide hes
            have HEV := hide hev
            clear ht hoE hoR hoC hes hev
            go_wp2
            refine bodyPost_ret (v := .agg #[.slice (some ⟨gE, 0, none⟩) 1 cE, .slice (some ⟨gR, 0, none⟩) kk cR, .slice (some ⟨gC, 0, none⟩) l.length cC]) (by simp [results, Try.results14, go_sem, o0, o1, o2]) rfl ⟨⟨es, Q, l⟩, ?_, ?_, ?_⟩
            · have he := HES.out
              have hq := QL.out
              refine ⟨⟨by simp only; omega, HEV.out⟩, ⟨by simp only; omega, ?_⟩, ?_, CD.out.2.1⟩
              · simp only; rw [he]; exact RK.out
              · simp only; rw [hq]; exact CD.out.1
            · exact CD.out.2.2
            · refine ⟨_, _, _, rfl, ?_, ?_, ?_, ?_⟩
              · exact ((HT.out.bel.setCell (by show w.heap.size ≤ w.heap.size + 1; omega) _).setCell (by show w.heap.size ≤ w.heap.size + 1; omega) _).setCell (by show w.heap.size ≤ w.heap.size + 1; omega) _
              · have e := HES.out
                simp only
                rw [e]
                exact own_out3 HOE.out _ _ _
              · have e := QL.out
                simp only
                rw [e]
                exact own_out3 HOR.out _ _ _
              · exact own_out3 HOC.out _ _ _
      · by_cases h0 : k = 0
        · have d1 : decide ((k : Int) < (r.rules.length : Int)) = false := by simp; omega
          have d0 : ((k : Int) == 0) = true := by simp; omega
          have hqn : q = [] := List.eq_nil_of_length_eq_zero (by omega)
          subst h0 hqn
          have OK1 : Hid (∀ j, j < ([⟨1, 0, 0⟩] : List Pure.Rule).length → Pure.RuleOK 1 (Pure.rg [⟨1, 0, 0⟩] j)) := rg_snoc (P := Pure.RuleOK 1) (q := []) (fun j hj => by simp at hj) (rule_ok 1 1 0 0 (by omega) (by omega) (by omega) (by omega) (by omega))
          go_wp2_with (at_builtin; refine wpList_append_own _ rfl (.tmp 70) (.tmp 72) 23 rfl (w.heap.size + 3) 66 ir (.agg #[.int .i64 0, .int .i64 0, .int .i64 0]) 3 24 Try.underlying23 hir hr0 hr1 hr2 rfl (by decide) (.slice aR 0 cR) 0 [] rfl (World.ownsRow.alloc HO.out _) ⟨wr.heap.size, 0, none⟩ 1 1 [.int .i64 1, .int .i64 0, .int .i64 0] rfl rfl (cell_list3 (by simp)) (by intro u hu; simp at hu; rcases hu with rfl | rfl <;> rfl) (by unfold maxLen; omega) (by omega) (by have := (HT.out.alloc (.cells #[] 0)).sz; simp at this; simp; omega) ?_; intro v3 w3 hown3 hgrow3 _; obtain ⟨gR, cR3, rfl, -, -⟩ := own_some hown3 (by omega); have t3 := (HT.out.alloc _).grown hgrow3 (fun k' h => (World.ownsRow.lt HO.out k' h).1); have z3 := blk_cell (j := 1) t3.own rfl; have y3 := blk_frozen t3.own 1; have x2 := blk_cell (j := 2) t3.box rfl; have O3 := hide (And.intro t3 hown3); clear t3 hown3 hgrow3)
          have T0 := hide (O3.out.1.set 1 (.slice (some ⟨gR, 0, none⟩) 1 cR3))
          have OR := hide (ownsRow_setCell_below O3.out.2 (a := ⟨w.heap.size + 1 + 1, 1, none⟩) (by show w.heap.size + 1 + 1 < w.heap.size + 3; omega) (.slice (some ⟨gR, 0, none⟩) 1 cR3))
          have RK := OK1
          have QL : Hid (([⟨1, 0, 0⟩] : List Pure.Rule).length = 1) := rfl
          rw [Nat.zero_add, List.nil_append, ← single_rule] at OR
          generalize ([⟨1, 0, 0⟩] : List Pure.Rule) = Q at *
          generalize w3.setCell ⟨w.heap.size + 1 + 1, 1, none⟩ (.slice (some ⟨gR, 0, none⟩) 1 cR3) = W at *
          clear z3 y3 x2 n1 O3 HO HT OK OK1
          refine (operations_any _ r.code 1 W (HC.out.below T0.out.bel) RC.out (by omega) (by omega)).mono ?_
          rintro e w2 ⟨vC, l, rfl, hB2, ho2, hcode, hnw, hlast⟩
          have hl1 := hcode.1
          have hsz0 := T0.out.sz
          have t2 := T0.out.below (hB2.mono hsz0)
          have or2 := own_below OR.out hB2 (Nat.le_refl _)
          have oc2 := own_mono (base' := w.heap.size + 3) ho2 hsz0
          obtain ⟨gC, cC, rfl, hgc1, hgc2⟩ := own_some oc2 (by omega)
          have n2 := blk_cell (j := 2) t2.own rfl
          have f2 := blk_frozen t2.own 2
          have T2 := hide (t2.set 2 (.slice (some ⟨gC, 0, none⟩) l.length cC))
          have OR2 := hide (ownsRow_setCell_below or2 (a := ⟨w.heap.size + 1 + 1, 2, none⟩) (by show w.heap.size + 1 + 1 < w.heap.size + 3; omega) (.slice (some ⟨gC, 0, none⟩) l.length cC))
          have OC2 := hide (ownsRow_setCell_below oc2 (a := ⟨w.heap.size + 1 + 1, 2, none⟩) (by show w.heap.size + 1 + 1 < w.heap.size + 3; omega) (.slice (some ⟨gC, 0, none⟩) l.length cC))
          have CD := hide (And.intro hcode (And.intro hnw hlast))
          clear t2 or2 oc2 ho2 hB2 hcode hnw hlast hsz0 T0 OR
          go_wp2_with fail
          clear n2 f2
          go_loopw [7] (fun i wr => ∃ (k : Nat) (v : Value) (es : List Int), es.length = k ∧ k ≤ 1 ∧ i = .int .i64 k ∧ (∀ j, j < es.length → 0 ≤ Pure.ig es j ∧ Pure.ig es j < l.length) ∧ Trio w wr [.slice ae r.ents.length ce, .slice ar r.rules.length cr, .slice ac r.code.length cc] [.slice none 0 0, .slice none 0 0, .slice none 0 0] [v, .slice (some ⟨gR, 0, none⟩) 1 cR3, .slice (some ⟨gC, 0, none⟩) l.length cC] ∧ wr.ownsRow (w.heap.size + 3) 3 1 v k (intCells es) ∧ wr.ownsRow (w.heap.size + 3) 66 3 (.slice (some ⟨gR, 0, none⟩) 1 cR3) 1 (ruleCells Q) ∧ wr.ownsRow (w.heap.size + 3) 103 4 (.slice (some ⟨gC, 0, none⟩) l.length cC) l.length (insCells l)) (fun i _ => 16 - (intOf i).toNat)
          case atStart => exact ⟨0, _, [], rfl, Nat.zero_le _, rfl, fun j hj => by simp at hj, T2.out, own_nil _ _ _ _, OR2.out, OC2.out⟩
          case round =>
            clear T2 OR2 OC2
            obtain ⟨k, v, es, hes, hk, rfl, hev, ht, hoE, hoR, hoC⟩ := hrel
            by_cases hlt : k < 1
            · have x0 := blk_cell (j := 0) ht.box rfl
              have z0 := blk_cell (j := 0) ht.own rfl
              have z2 := blk_cell (j := 2) ht.own rfl
              have HT := hide ht
              have HOE := hide hoE
              have HOR := hide hoR
              have HOC := hide hoC
              have HES := hide hes
              have HEV := hide hev
              have d1 : decide ((k : Int) < (r.ents.length : Int)) = false := by have := M0.out; simp; omega
              have i1 : (r.ents.length : Int) ≤ (k : Int) := by have := M0.out; omega
              have HT1 := HT
              have HOE1 := HOE
              have HOR1 := HOR
              have HOC1 := HOC
              clear ht hoE hoR hoC hes hev
              go_wp2_with (at_builtin; refine wpList_append_own _ rfl (.tmp 102) (.tmp 104) 22 rfl (w.heap.size + 3) 3 i3 (.int .i64 0) 1 8 Try.underlying22 hi3 h30 h31 h32 rfl (by decide) v k (intCells es) rfl (World.ownsRow.alloc HOE1.out _) ⟨wr.heap.size, 0, none⟩ 1 1 [.int .i64 0] rfl rfl (cell_list3 (by simp)) (by intro u hu; simp at hu; rcases hu with rfl; rfl) (by unfold maxLen; omega) (by omega) (by have := (HT1.out.alloc (.cells #[] 0)).sz; simp at this; simp; omega) ?_; intro v3 w3 hown3 hgrow3 _; obtain ⟨g3, c3, rfl, -, -⟩ := own_some hown3 (by omega); have t3 := (HT1.out.alloc (.cells #[.int .i64 0] 3)).grown hgrow3 (fun k' h => (World.ownsRow.lt HOE1.out k' h).1); have z3 := blk_cell (j := 0) t3.own rfl; have y3 := blk_frozen t3.own 0; rw [← ints_snoc] at hown3; have or3 := own_else (World.ownsRow.alloc HOR1.out (.cells #[.int .i64 0] 3)) (World.ownsRow.alloc HOE1.out (.cells #[.int .i64 0] 3)) (by decide) hgrow3; have oc3 := own_else (World.ownsRow.alloc HOC1.out (.cells #[.int .i64 0] 3)) (World.ownsRow.alloc HOE1.out (.cells #[.int .i64 0] 3)) (by decide) hgrow3; have O3 := hide (And.intro t3 (And.intro hown3 (And.intro or3 oc3))); clear t3 hown3 hgrow3 or3 oc3)
              go_roundw
              case rel =>
                have he := HES.out
                refine ⟨k + 1, _, es ++ [0], by rw [List.length_append, he]; rfl, hlt, by go_num, ig_snoc (P := fun x => 0 ≤ x ∧ x < l.length) HEV.out ⟨by omega, by omega⟩, O3.out.1.set 0 _, ownsRow_setCell_below O3.out.2.1 (by show w.heap.size + 1 + 1 < w.heap.size + 3; omega) _, ownsRow_setCell_below O3.out.2.2.1 (by show w.heap.size + 1 + 1 < w.heap.size + 3; omega) _, ownsRow_setCell_below O3.out.2.2.2 (by show w.heap.size + 1 + 1 < w.heap.size + 3; omega) _⟩
              case measure => simp [intOf]; omega
            · have hkm : k = 1 := by omega
              subst hkm
              have z0 := blk_cell (j := 0) ht.own rfl
              have z1 := blk_cell (j := 1) ht.own rfl
              have z2 := blk_cell (j := 2) ht.own rfl
              have o0 := blk_cell (j := 0) ht.out rfl
              have o1 := blk_cell (j := 1) ht.out rfl
              have o2 := blk_cell (j := 2) ht.out rfl
              have f0 := blk_frozen ht.out 0
              have f1 := blk_frozen ht.out 1
              have f2 := blk_frozen ht.out 2
              obtain ⟨gE, cE, rfl, -, -⟩ := own_some hoE (by omega)
              have HT := hide ht
              have HOE := hide hoE
              have HOR := hide hoR
              have HOC := hide hoC
              have HES := hide hes
              have HEV := hide hev
              clear ht hoE hoR hoC hes hev
              go_wp2
              refine bodyPost_ret (v := .agg #[.slice (some ⟨gE, 0, none⟩) 1 cE, .slice (some ⟨gR, 0, none⟩) 1 cR3, .slice (some ⟨gC, 0, none⟩) l.length cC]) (by simp [results, Try.results14, go_sem, o0, o1, o2]) rfl ⟨⟨es, Q, l⟩, ?_, ?_, ?_⟩
              · have he := HES.out
                have hq := QL.out
                refine ⟨⟨by simp only; omega, HEV.out⟩, ⟨by simp only; omega, ?_⟩, ?_, CD.out.2.1⟩
                · simp only; rw [he]; exact RK.out
                · simp only; rw [hq]; exact CD.out.1
              · exact CD.out.2.2
              · refine ⟨_, _, _, rfl, ?_, ?_, ?_, ?_⟩
                · exact ((HT.out.bel.setCell (by show w.heap.size ≤ w.heap.size + 1; omega) _).setCell (by show w.heap.size ≤ w.heap.size + 1; omega) _).setCell (by show w.heap.size ≤ w.heap.size + 1; omega) _
                · have e := HES.out
                  simp only
                  rw [e]
                  exact own_out3 HOE.out _ _ _
                · have e := QL.out
                  simp only
                  rw [e]
                  exact own_out3 HOR.out _ _ _
                · exact own_out3 HOC.out _ _ _
        · have d1 : decide ((k : Int) < (r.rules.length : Int)) = false := by simp; omega
          have d0 : ((k : Int) == 0) = false := by simp; omega
          have i1 : (r.rules.length : Int) ≤ (k : Int) := by omega
          have i2 : r.rules.length ≤ k := by omega
          have hkk1 : 1 ≤ k := by omega
          obtain ⟨gR, cR', eR, -, -⟩ := own_some HO.out (by omega)
          cases eR
          obtain ⟨Q, hQ⟩ : ∃ x, x = q := ⟨q, rfl⟩
          subst hQ
          obtain ⟨kk, hKK⟩ : ∃ x, x = k := ⟨k, rfl⟩
          subst hKK
          obtain ⟨W, hWW⟩ : ∃ x, x = wr := ⟨wr, rfl⟩
          subst hWW
          have T0 := HT
          have OR := HO
          have RK := OK
          have QL := hide hq
          clear hq HT HO OK hlt h0
          have x2 := blk_cell (j := 2) T0.out.box rfl
          have n1 := blk_cell (j := 1) T0.out.own rfl
          go_wp2_with fail
          clear x2 n1
          refine (operations_any _ r.code kk W (HC.out.below T0.out.bel) RC.out hkk1 hkk2).mono ?_
          rintro e w2 ⟨vC, l, rfl, hB2, ho2, hcode, hnw, hlast⟩
          have hl1 := hcode.1
          have hsz0 := T0.out.sz
          have t2 := T0.out.below (hB2.mono hsz0)
          have or2 := own_below OR.out hB2 (Nat.le_refl _)
          have oc2 := own_mono (base' := w.heap.size + 3) ho2 hsz0
          obtain ⟨gC, cC, rfl, hgc1, hgc2⟩ := own_some oc2 (by omega)
          have n2 := blk_cell (j := 2) t2.own rfl
          have f2 := blk_frozen t2.own 2
          have T2 := hide (t2.set 2 (.slice (some ⟨gC, 0, none⟩) l.length cC))
          have OR2 := hide (ownsRow_setCell_below or2 (a := ⟨w.heap.size + 1 + 1, 2, none⟩) (by show w.heap.size + 1 + 1 < w.heap.size + 3; omega) (.slice (some ⟨gC, 0, none⟩) l.length cC))
          have OC2 := hide (ownsRow_setCell_below oc2 (a := ⟨w.heap.size + 1 + 1, 2, none⟩) (by show w.heap.size + 1 + 1 < w.heap.size + 3; omega) (.slice (some ⟨gC, 0, none⟩) l.length cC))
          have CD := hide (And.intro hcode (And.intro hnw hlast))
          clear t2 or2 oc2 ho2 hB2 hcode hnw hlast hsz0 T0 OR
          go_wp2_with fail
          clear n2 f2
          go_loopw [7] (fun i wr => ∃ (k : Nat) (v : Value) (es : List Int), es.length = k ∧ k ≤ 1 ∧ i = .int .i64 k ∧ (∀ j, j < es.length → 0 ≤ Pure.ig es j ∧ Pure.ig es j < l.length) ∧ Trio w wr [.slice ae r.ents.length ce, .slice ar r.rules.length cr, .slice ac r.code.length cc] [.slice none 0 0, .slice none 0 0, .slice none 0 0] [v, .slice (some ⟨gR, 0, none⟩) kk cR, .slice (some ⟨gC, 0, none⟩) l.length cC] ∧ wr.ownsRow (w.heap.size + 3) 3 1 v k (intCells es) ∧ wr.ownsRow (w.heap.size + 3) 66 3 (.slice (some ⟨gR, 0, none⟩) kk cR) kk (ruleCells Q) ∧ wr.ownsRow (w.heap.size + 3) 103 4 (.slice (some ⟨gC, 0, none⟩) l.length cC) l.length (insCells l)) (fun i _ => 16 - (intOf i).toNat)
          case atStart => exact ⟨0, _, [], rfl, Nat.zero_le _, rfl, fun j hj => by simp at hj, T2.out, own_nil _ _ _ _, OR2.out, OC2.out⟩
          case round =>
            clear T2 OR2 OC2
            obtain ⟨k, v, es, hes, hk, rfl, hev, ht, hoE, hoR, hoC⟩ := hrel
            by_cases hlt : k < 1
            · have x0 := blk_cell (j := 0) ht.box rfl
              have z0 := blk_cell (j := 0) ht.own rfl
              have z2 := blk_cell (j := 2) ht.own rfl
              have HT := hide ht
              have HOE := hide hoE
              have HOR := hide hoR
              have HOC := hide hoC
              have HES := hide hes
              have HEV := hide hev
              have d1 : decide ((k : Int) < (r.ents.length : Int)) = false := by have := M0.out; simp; omega
              have i1 : (r.ents.length : Int) ≤ (k : Int) := by have := M0.out; omega
              have HT1 := HT
              have HOE1 := HOE
              have HOR1 := HOR
              have HOC1 := HOC
              clear ht hoE hoR hoC hes hev
              go_wp2_with (at_builtin; refine wpList_append_own _ rfl (.tmp 102) (.tmp 104) 22 rfl (w.heap.size + 3) 3 i3 (.int .i64 0) 1 8 Try.underlying22 hi3 h30 h31 h32 rfl (by decide) v k (intCells es) rfl (World.ownsRow.alloc HOE1.out _) ⟨wr.heap.size, 0, none⟩ 1 1 [.int .i64 0] rfl rfl (cell_list3 (by simp)) (by intro u hu; simp at hu; rcases hu with rfl; rfl) (by unfold maxLen; omega) (by omega) (by have := (HT1.out.alloc (.cells #[] 0)).sz; simp at this; simp; omega) ?_; intro v3 w3 hown3 hgrow3 _; obtain ⟨g3, c3, rfl, -, -⟩ := own_some hown3 (by omega); have t3 := (HT1.out.alloc (.cells #[.int .i64 0] 3)).grown hgrow3 (fun k' h => (World.ownsRow.lt HOE1.out k' h).1); have z3 := blk_cell (j := 0) t3.own rfl; have y3 := blk_frozen t3.own 0; rw [← ints_snoc] at hown3; have or3 := own_else (World.ownsRow.alloc HOR1.out (.cells #[.int .i64 0] 3)) (World.ownsRow.alloc HOE1.out (.cells #[.int .i64 0] 3)) (by decide) hgrow3; have oc3 := own_else (World.ownsRow.alloc HOC1.out (.cells #[.int .i64 0] 3)) (World.ownsRow.alloc HOE1.out (.cells #[.int .i64 0] 3)) (by decide) hgrow3; have O3 := hide (And.intro t3 (And.intro hown3 (And.intro or3 oc3))); clear t3 hown3 hgrow3 or3 oc3)
              go_roundw
              case rel =>
                have he := HES.out
                refine ⟨k + 1, _, es ++ [0], by rw [List.length_append, he]; rfl, hlt, by go_num, ig_snoc (P := fun x => 0 ≤ x ∧ x < l.length) HEV.out ⟨by omega, by omega⟩, O3.out.1.set 0 _, ownsRow_setCell_below O3.out.2.1 (by show w.heap.size + 1 + 1 < w.heap.size + 3; omega) _, ownsRow_setCell_below O3.out.2.2.1 (by show w.heap.size + 1 + 1 < w.heap.size + 3; omega) _, ownsRow_setCell_below O3.out.2.2.2 (by show w.heap.size + 1 + 1 < w.heap.size + 3; omega) _⟩
              case measure => simp [intOf]; omega
            · have hkm : k = 1 := by omega
              subst hkm
              have z0 := blk_cell (j := 0) ht.own rfl
              have z1 := blk_cell (j := 1) ht.own rfl
              have z2 := blk_cell (j := 2) ht.own rfl
              have o0 := blk_cell (j := 0) ht.out rfl
              have o1 := blk_cell (j := 1) ht.out rfl
              have o2 := blk_cell (j := 2) ht.out rfl
              have f0 := blk_frozen ht.out 0
              have f1 := blk_frozen ht.out 1
              have f2 := blk_frozen ht.out 2
              obtain ⟨gE, cE, rfl, -, -⟩ := own_some hoE (by omega)
              have HT := hide ht
              have HOE := hide hoE
              have HOR := hide hoR
              have HOC := hide hoC
              have HES := hide hes
              have HEV := hide hev
              clear ht hoE hoR hoC hes hev
              go_wp2
              refine bodyPost_ret (v := .agg #[.slice (some ⟨gE, 0, none⟩) 1 cE, .slice (some ⟨gR, 0, none⟩) kk cR, .slice (some ⟨gC, 0, none⟩) l.length cC]) (by simp [results, Try.results14, go_sem, o0, o1, o2]) rfl ⟨⟨es, Q, l⟩, ?_, ?_, ?_⟩
              · have he := HES.out
                have hq := QL.out
                refine ⟨⟨by simp only; omega, HEV.out⟩, ⟨by simp only; omega, ?_⟩, ?_, CD.out.2.1⟩
                · simp only; rw [he]; exact RK.out
                · simp only; rw [hq]; exact CD.out.1
              · exact CD.out.2.2
              · refine ⟨_, _, _, rfl, ?_, ?_, ?_, ?_⟩
                · exact ((HT.out.bel.setCell (by show w.heap.size ≤ w.heap.size + 1; omega) _).setCell (by show w.heap.size ≤ w.heap.size + 1; omega) _).setCell (by show w.heap.size ≤ w.heap.size + 1; omega) _
                · have e := HES.out
                  simp only
                  rw [e]
                  exact own_out3 HOE.out _ _ _
                · have e := QL.out
                  simp only
                  rw [e]
                  exact own_out3 HOR.out _ _ _
                · exact own_out3 HOC.out _ _ _

end Go.Proofs.Ytmccnmgaoppogaa

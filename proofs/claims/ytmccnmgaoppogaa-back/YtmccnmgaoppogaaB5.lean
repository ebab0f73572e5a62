/-
  The walks: operations. (weirkeep)
-/
import Derived.Test.YtmccnmgaoppogaaB4
namespace Go.Proofs.Ytmccnmgaoppogaa
open Go.RowKit

/-- what operations gives -/
def RetOps (m : Nat) (w : World) (e : Ending) (w' : World) : Prop := ∃ v l, e = .returned v ∧ Below w.heap.size w w' ∧ w'.ownsRow w.heap.size 103 4 v l.length (insCells l) ∧ Pure.CodeOK l m ∧ Pure.NoWay l ∧ Pure.cg l (l.length - 1) = ⟨5, 0, 0, 0⟩

set_option maxRecDepth 10000 in
set_option maxHeartbeats 2000000 in
theorem operations_any (v : Value) (r : List Pure.Ins) (m : Nat) (w : World) (hv : Code w v r) (hr : InsR r) (hm : 1 ≤ m) (hm2 : m ≤ 16) :
    Calls Try.prog 51 #[v, .int .i64 m] w (RetOps m w) := by
  obtain ⟨ic, hi, hz0, hz1, hz2⟩ := info_parts Try.info103
  obtain ⟨ao, cap, rfl, hc1, hc2, hread⟩ := hv.read
  have HR := hide hr
  clear hv hr
  have HO := hide (own_nil w w.heap.size 103 4)
  go_enter Try.func51, Try.ntmps51
  go_wp2_with fail
  go_loopw [5, 6] (fun f i wr => ∃ (k : Nat) (f' : Value), k ≤ r.length ∧ k ≤ 49999 ∧ i = .int .i64 k ∧ f' = f ∧ Below w.heap.size w wr ∧ wr.ownsRow w.heap.size 103 4 f' k (insCells (opsOf r k))) (fun _ i _ => r.length - (intOf i).toNat)
  case atStart => exact ⟨0, _, Nat.zero_le _, Nat.zero_le _, rfl, rfl, Below.refl _ _, HO.out⟩
  case round =>
    clear HO
    obtain ⟨k, f, hk, hk2, rfl, rfl, hbel, hown⟩ := hrel
    by_cases hlt : k < r.length ∧ k < 49999
    · obtain ⟨b, off, rfl, hbl, e0, -, -, -⟩ := hread k hlt.1
      have g0 := (hbel.cell (p := ⟨b, off + k * 4, none⟩) hbl).trans e0
      have hrr := (HR.out k hlt.1).1
      have HST := hide (ops_step r k)
      have P1 := hide (fun w => pick_any (Pure.cg r k).op 5 w hrr.1 hrr.2 (by omega) (by omega))
      have hb := Pure.pk_bd (Pure.cg r k).op (n := 5) (by omega)
      generalize Pure.pk (Pure.cg r k).op 5 = z at *
      generalize (Pure.cg r k).op = y at *
      have HO := hide hown
      have hszr := hbel.size
      have h1 := hlt.1
      have h2 := hide hlt.2
      have d1 : decide ((k : Int) < (r.length : Int)) = true := by simpa using hlt.1
      have d2 : decide ((k : Int) < 49999) = true := by have := hlt.2; simp; omega
      have K2 := hide hk2
      clear hk2
      clear hown hread e0 hlt hrr
      go_wp2_with fail
      refine (P1.out _).mono ?_
      rintro e w' ⟨rfl, rfl⟩
      go_wp2_with (at_builtin; refine wpList_append_own _ rfl (.tmp 18) (.tmp 27) 24 rfl w.heap.size 103 ic (.agg #[.int .i64 0, .int .i64 0, .int .i64 0, .int .i64 0]) 4 32 Try.underlying24 hi hz0 hz1 hz2 rfl (by decide) f k (insCells (opsOf r k)) rfl (World.ownsRow.alloc HO.out _) ⟨w'.heap.size, 0, none⟩ 1 1 [.int .i64 (1 + z), .int .i64 0, .int .i64 0, .int .i64 0] rfl rfl (cell_list3 (by simp)) (by intro u hu; simp at hu; rcases hu with rfl | rfl | rfl | rfl <;> rfl) (by unfold maxLen; have := h2.out; omega) (by have := h2.out; omega) (by simp; omega) ?_; intro v2 w2 hown2 hgrow2 _)
      have hbel2 : Below w.heap.size w w2 := (hbel.alloc hszr _).grown hgrow2 (by simp; omega) (fun k' h => (World.ownsRow.lt HO.out k' h).1)
      rw [← HST.out] at hown2
      clear hgrow2
      go_roundw
      case rel => exact ⟨k + 1, _, h1, h2.out, by go_num, rfl, hbel2, hown2⟩
      case measure => simp [intOf]; omega
    · have HO := hide hown
      have hszr := hbel.size
      have K2 := hide hk2
      have KR := hide hk
      have hlt' := hide hlt
      clear hown hk2 hlt hk
      by_cases h1 : k < r.length
      · have hke : k = 49999 := by have := hlt'.out; have := K2.out; omega
        have KI : Hid ((k : Int) = 49999) := by show (k : Int) = 49999; omega
        have d1 : decide ((49999 : Int) < (r.length : Int)) = true := by simp; omega
        rw [KI.out]
        have HK := hide (And.intro K2.out (And.intro KR.out trivial))
        clear h1 hke K2 KR hlt' KI
        go_wp2_with (at_builtin; refine wpList_append_own _ rfl (.tmp 29) (.tmp 31) 24 rfl w.heap.size 103 ic (.agg #[.int .i64 0, .int .i64 0, .int .i64 0, .int .i64 0]) 4 32 Try.underlying24 hi hz0 hz1 hz2 rfl (by decide) f k (insCells (opsOf r k)) rfl (World.ownsRow.alloc HO.out _) ⟨wr.heap.size, 0, none⟩ 1 1 [.int .i64 5, .int .i64 0, .int .i64 0, .int .i64 0] rfl rfl (cell_list3 (by simp)) (by intro u hu; simp at hu; rcases hu with rfl | rfl | rfl | rfl <;> rfl) (by unfold maxLen; have := HK.out; omega) (by have := HK.out; omega) (by simp; omega) ?_; intro v2 w2 hown2 hgrow2 _)
        rw [← ops_last] at hown2
        have hbel2 : Below w.heap.size w w2 := (hbel.alloc hszr _).grown hgrow2 (by simp; omega) (fun k' h => (World.ownsRow.lt HO.out k' h).1)
        obtain ⟨g, cap2, rfl, hg1, hg2⟩ := own_some hown2 (by omega)
        have HMD := hide (And.intro hown2 (ops_made m r _ HK.out.1))
        have HL0 : Hid ((opsOf r k ++ [(⟨5, 0, 0, 0⟩ : Pure.Ins)]).length = k + 1) := by show _ = _; simp [opsOf_len]
        have HN : Hid ((∀ j, j + 1 < k + 1 → j < r.length) ∧ k + 1 ≤ 50000) := by have := HK.out; exact ⟨fun j hj => by omega, by omega⟩
        generalize opsOf r k ++ [(⟨5, 0, 0, 0⟩ : Pure.Ins)] = l0 at *
        generalize k + 1 = n at *
        clear hown2 hgrow2 HO hbel hszr HK
        go_loopw [7] (fun i wr => ∃ (j : Nat) (l : List Pure.Ins), l.length = n ∧ i = .int .i64 j ∧ Below w.heap.size w wr ∧ wr.ownsRow w.heap.size 103 4 (.slice (some ⟨g, 0, none⟩) n cap2) n (insCells l) ∧ Pure.Made m l j) (fun i _ => n - (intOf i).toNat)
        case atStart => exact ⟨0, l0, HL0.out, rfl, hbel2, HMD.out.1, HMD.out.2⟩
        case round =>
          clear HMD HL0 hbel2
          obtain ⟨j, l, hl, rfl, hbel, hown, hmade⟩ := hrel
          have hn2 := HN.out.2
          by_cases hlt : j + 1 < n
          · have hjr : j < r.length := HN.out.1 j hlt
            obtain ⟨b, off, rfl, hbl, e0, e1, e2, e3⟩ := hread j hjr
            have q1 := (hbel.cell (p := ⟨b, off + j * 4 + 1, none⟩) hbl).trans e1
            have q2 := (hbel.cell (p := ⟨b, off + j * 4 + 2, none⟩) hbl).trans e2
            have q3 := (hbel.cell (p := ⟨b, off + j * 4 + 3, none⟩) hbl).trans e3
            obtain ⟨-, r1, r2, r3⟩ := HR.out j hjr
            have hjl : j < l.length := by omega
            obtain ⟨c0, c1, c2, c3⟩ := own_ins hown hjl
            obtain ⟨hop, ha0, hb0, ht0⟩ := hmade.raw j (Nat.le_refl _) hjl
            have f1 := own_frozen hown (j * 4 + 1)
            have f2 := own_frozen hown (j * 4 + 2)
            have f3 := own_frozen hown (j * 4 + 3)
            have hgb := own_base hown
            have hne : b ≠ g := by omega
            have hne' : g ≠ b := by omega
            have HO := hide hown
            have HM := hide hmade
            have HB := hide hbel
            have HL := hide hl
            have HJL := hide hjl
            have HGB := hide hgb
            have HHB := hide hg2
            generalize hy : Pure.cg l j = y at *
            obtain ⟨yo, ya, yb, yt⟩ := y
            simp only at hop ha0 hb0 ht0 c0 c1 c2 c3
            subst ha0 hb0 ht0
            have HY := hide hy
            generalize (Pure.cg r j).a = xa at *
            generalize (Pure.cg r j).b = xb at *
            generalize (Pure.cg r j).to = xt at *
            have E2 := hide e2
            have E3 := hide e3
            clear e0 e1 e2 e3 hread hown hmade hbel hl hjl hgb hy hn2
            by_cases o1 : yo = 1
            · subst o1
              have P1 := hide (fun w => pick_at xa m w r1 hm (by omega))
              have hz := Pure.pk_bd xa (n := (m : Int)) (by omega)
              generalize Pure.pk xa (m : Int) = z at *
              clear q2 q3 r1 r2 r3 f2 f3 c2 c3
              go_wp2_with fail
              refine (P1.out _).mono ?_
              rintro e w' ⟨rfl, rfl⟩
              go_wp2_with fail
              go_roundw
              case rel =>
                have hs := (insCells_set l j HJL.out ⟨1, z, 0, 0⟩).1 (by rw [HY.out]) (by rw [HY.out]) (by rw [HY.out])
                refine ⟨j + 1, l.set j ⟨1, z, 0, 0⟩, by rw [List.length_set]; exact HL.out, by go_num, HB.out.setCell (by show w.heap.size ≤ g; exact HGB.out.1) _, ?_, ?_⟩
                · rw [← hs]; exact own_set HO.out
                · refine HM.out.step (by rw [HL.out]; exact hlt) _ (by rw [HY.out]) (.inl ⟨rfl, hz.1, hz.2, rfl, rfl⟩) (fun h => by simp at h)
              case measure => simp [intOf]; omega
            by_cases o3 : yo = 3
            · subst o3
              have P1 := hide (fun w => pick_any xa 256 w r1.1 r1.2 (by omega) (by omega))
              have hz := Pure.pk_bd xa (n := 256) (by omega)
              generalize Pure.pk xa 256 = z at *
              have P2 := hide (fun w => pick_any xb (256 - z) w r2.1 r2.2 (by omega) (by omega))
              have hz2 := Pure.pk_bd xb (n := 256 - z) (by omega)
              generalize Pure.pk xb (256 - z) = z2 at *
              clear r1 r2
              go_wp2_with fail
              refine (P1.out _).mono ?_
              rintro e w' ⟨rfl, rfl⟩
              go_wp2_with fail
              have hs1 := (insCells_set l j HJL.out ⟨3, z, 0, 0⟩).1 (by rw [HY.out]) (by rw [HY.out]) (by rw [HY.out])
              have ho1 := own_set (j := j * 4 + 1) (u := .int .i64 z) HO.out
              rw [hs1] at ho1
              have hb1 : Below w.heap.size w (w'.setCell ⟨g, j * 4 + 1, none⟩ (.int .i64 z)) := HB.out.setCell (by show w.heap.size ≤ g; exact HGB.out.1) _
              clear q1 q2 q3 c0 c1 c2 c3 f1 f2 f3 hs1
              generalize w'.setCell ⟨g, j * 4 + 1, none⟩ (.int .i64 z) = W1 at *
              clear HO HB
              have ll1 : (l.set j (⟨3, z, 0, 0⟩ : Pure.Ins)).length = n := by rw [List.length_set]; exact HL.out
              have hg1' : Pure.cg (l.set j (⟨3, z, 0, 0⟩ : Pure.Ins)) j = ⟨3, z, 0, 0⟩ := by rw [Pure.cg_set _ _ _ _ HJL.out, if_pos rfl]
              obtain ⟨-, c1, c2, -⟩ := own_ins ho1 (i := j) (by omega)
              rw [hg1'] at c1 c2
              simp only at c1 c2
              have f2 := own_frozen ho1 (j * 4 + 2)
              have q2 := (hb1.cell (p := ⟨b, off + j * 4 + 2, none⟩) hbl).trans E2.out
              have HO1 := hide ho1
              have HB1 := hide hb1
              clear ho1 hb1 ll1 hg1'
              have i0 : (0 : Int) ≤ (j : Int) := by omega
              have i1 : (j : Int) < (n : Int) := by omega
              have i2 : (j : Int) < (r.length : Int) := by omega
              have wr1 : IntKind.i64.wrap (256 - z) = 256 - z := wrap_in _ (by omega) (by omega)
              have wr2 : IntKind.i64.wrap (z + z2) = z + z2 := wrap_in _ (by omega) (by omega)
              have k1 : ∀ v, (W1.setCell ⟨g, j * 4 + 2, none⟩ v).cell? ⟨g, j * 4 + 1, none⟩ = some (.int .i64 z) := fun v => (World.cell?_setCell_other _ _ _ _ (by simp)).trans c1
              go_region_held3 (fun w' => w'.cell? ⟨g, j * 4 + 1, none⟩ = some (.int .i64 z) ∧ w'.cell? ⟨b, off + j * 4 + 2, none⟩ = some (.int .i64 xb)) (go_keep) (first | (go_at_call 50; refine (P2.out _).mono ?_; rintro e w' ⟨rfl, rfl⟩))
              have hs2 := (insCells_set (l.set j (⟨3, z, 0, 0⟩ : Pure.Ins)) j (by rw [List.length_set]; exact HJL.out) ⟨3, z, z + z2, 0⟩).2.1 (by rw [Pure.cg_set _ _ _ _ HJL.out, if_pos rfl]) (by rw [Pure.cg_set _ _ _ _ HJL.out, if_pos rfl]) (by rw [Pure.cg_set _ _ _ _ HJL.out, if_pos rfl])
              have ho2 := World.ownsRow.drew (own_set (j := j * 4 + 2) (u := .int .i64 (z + z2)) HO1.out)
              rw [hs2, List.set_set] at ho2
              have hb2 : Below w.heap.size w (W1.setCell ⟨g, j * 4 + 2, none⟩ (.int .i64 (z + z2))).drew := (HB1.out.setCell (by show w.heap.size ≤ g; exact HGB.out.1) _).drew
              clear q2 c1 c2 f2 hs2 k1
              generalize (W1.setCell ⟨g, j * 4 + 2, none⟩ (.int .i64 (z + z2))).drew = W2 at *
              clear HO1 HB1
              have LN2 : Hid ((l.set j (⟨3, z, z + z2, 0⟩ : Pure.Ins)).length = n) := by show _ = _; rw [List.length_set]; exact HL.out
              have LJ2 : Hid (j < (l.set j (⟨3, z, z + z2, 0⟩ : Pure.Ins)).length) := by show j < _; rw [List.length_set]; exact HJL.out
              have LY2 : Hid (Pure.cg (l.set j (⟨3, z, z + z2, 0⟩ : Pure.Ins)) j = ⟨3, z, z + z2, 0⟩) := by show _ = _; rw [Pure.cg_set _ _ _ _ HJL.out, if_pos rfl]
              obtain ⟨-, -, -, c3⟩ := own_ins ho2 (i := j) LJ2.out
              rw [LY2.out] at c3
              simp only at c3
              have f3 := own_frozen ho2 (j * 4 + 3)
              have q3 := (hb2.cell (p := ⟨b, off + j * 4 + 3, none⟩) hbl).trans E3.out
              have HO2 := hide ho2
              have HB2 := hide hb2
              clear ho2 hb2
              go_wp2_with fail
              refine (target_any (.slice (some ⟨g, 0, none⟩) n cap2) (l.set j (⟨3, z, z + z2, 0⟩ : Pure.Ins)) j xt _ (own_code HO2.out LN2.out.symm) (by rw [LN2.out]; exact HN.out.2) (by rw [LN2.out]; exact hlt) r3).mono ?_
              rintro e w4 ⟨t, rfl, htg, rfl⟩
              go_wp2_with fail
              go_roundw
              case rel =>
                have hs := (insCells_set (l.set j (⟨3, z, z + z2, 0⟩ : Pure.Ins)) j LJ2.out ⟨3, z, z + z2, t⟩).2.2.1 (by rw [LY2.out]) (by rw [LY2.out]) (by rw [LY2.out])
                refine ⟨j + 1, l.set j ⟨3, z, z + z2, t⟩, by rw [List.length_set]; exact HL.out, by go_num, HB2.out.setCell (by show w.heap.size ≤ g; exact HGB.out.1) _, ?_, ?_⟩
                · have hs2 := own_set (j := j * 4 + 3) (u := .int .i64 t) HO2.out
                  rw [hs] at hs2
                  rw [List.set_set] at hs2
                  exact hs2
                · obtain ⟨ht1, ht2⟩ := htg
                  rw [LN2.out] at ht1
                  have hok : Pure.InsOK m l.length ⟨3, z, z + z2, t⟩ := .inr (.inr (.inl ⟨rfl, hz.1, (by show z ≤ z + z2; omega), (by show z + z2 ≤ 255; omega), ht1.1, (by rw [HL.out]; exact ht1.2)⟩))
                  refine HM.out.step (by rw [HL.out]; exact hlt) _ (by rw [HY.out]) hok (fun _ => ?_)
                  rcases ht2 with h | h
                  · exact .inl h
                  · refine .inr ?_
                    rw [Pure.cg_set _ _ _ _ HJL.out] at h
                    split at h
                    · exfalso; simp at h
                    · exact h
              case measure => simp [intOf]; omega
            by_cases o4 : yo = 4
            · subst o4
              have LN2 := HL
              have LY2 := HY
              have LJ2 := HJL
              clear q1 q2 f1 f2 c1 c2
              go_wp2_with fail
              refine (target_any (.slice (some ⟨g, 0, none⟩) n cap2) l j xt _ (own_code HO.out LN2.out.symm) (by rw [LN2.out]; exact HN.out.2) (by rw [LN2.out]; exact hlt) r3).mono ?_
              rintro e w4 ⟨t, rfl, htg, rfl⟩
              go_wp2_with fail
              go_roundw
              case rel =>
                have hs := (insCells_set l j LJ2.out ⟨4, 0, 0, t⟩).2.2.1 (by rw [LY2.out]) (by rw [LY2.out]) (by rw [LY2.out])
                refine ⟨j + 1, l.set j ⟨4, 0, 0, t⟩, by rw [List.length_set]; exact HL.out, by go_num, HB.out.setCell (by show w.heap.size ≤ g; exact HGB.out.1) _, ?_, ?_⟩
                · have hs2 := own_set (j := j * 4 + 3) (u := .int .i64 t) HO.out
                  rw [hs] at hs2
                  exact hs2
                · obtain ⟨ht1, ht2⟩ := htg
                  rw [LN2.out] at ht1
                  have hok : Pure.InsOK m l.length ⟨4, 0, 0, t⟩ := .inr (.inr (.inr ⟨rfl, rfl, rfl, ht1.1, (by rw [HL.out]; exact ht1.2)⟩))
                  refine HM.out.step (by rw [HL.out]; exact hlt) _ (by rw [HY.out]) hok (fun _ => ?_)
                  rcases ht2 with h | h
                  · exact .inl h
                  · refine .inr ?_
                    exact h
              case measure => simp [intOf]; omega
            · have d1 : (yo == 1) = false := by simpa using o1
              have d3 : (yo == 3) = false := by simpa using o3
              have d4 : (yo == 4) = false := by simpa using o4
              clear q1 q2 q3 f1 f2 f3 c1 c2 c3
              go_wp2_with fail
              go_roundw
              case rel => exact ⟨j + 1, l, HL.out, by go_num, HB.out, HO.out, HM.out.skip (by rw [HL.out]; exact hlt) (by rw [HY.out]; show yo = 2 ∨ yo = 5; omega)⟩
              case measure => simp [intOf]; omega
          · have HO := hide hown
            have HM := hide hmade
            have HB := hide hbel
            have HL := hide hl
            have hjn : j + 1 ≤ n := by have := hmade.at_; omega
            clear hown hmade hbel hl hread
            go_wp2
            go_ret
            have hcode := HM.out.code (by rw [HL.out]; exact hlt)
            have hlast := HM.out.last
            have ho := HO.out
            have hle := HL.out
            subst hle
            exact ⟨_, l, rfl, HB.out, ho, hcode.1, hcode.2, hlast⟩
      · have hke : k = r.length := by have := KR.out; omega
        have HK := hide (And.intro K2.out (And.intro KR.out trivial))
        clear h1 K2 KR hlt'
        subst hke
        go_wp2_with (at_builtin; refine wpList_append_own _ rfl (.tmp 29) (.tmp 31) 24 rfl w.heap.size 103 ic (.agg #[.int .i64 0, .int .i64 0, .int .i64 0, .int .i64 0]) 4 32 Try.underlying24 hi hz0 hz1 hz2 rfl (by decide) f r.length (insCells (opsOf r r.length)) rfl (World.ownsRow.alloc HO.out _) ⟨wr.heap.size, 0, none⟩ 1 1 [.int .i64 5, .int .i64 0, .int .i64 0, .int .i64 0] rfl rfl (cell_list3 (by simp)) (by intro u hu; simp at hu; rcases hu with rfl | rfl | rfl | rfl <;> rfl) (by unfold maxLen; have := HK.out; omega) (by have := HK.out; omega) (by simp; omega) ?_; intro v2 w2 hown2 hgrow2 _)
        rw [← ops_last] at hown2
        have hbel2 : Below w.heap.size w w2 := (hbel.alloc hszr _).grown hgrow2 (by simp; omega) (fun k' h => (World.ownsRow.lt HO.out k' h).1)
        obtain ⟨g, cap2, rfl, hg1, hg2⟩ := own_some hown2 (by omega)
        have HMD := hide (And.intro hown2 (ops_made m r _ HK.out.1))
        have HL0 : Hid ((opsOf r r.length ++ [(⟨5, 0, 0, 0⟩ : Pure.Ins)]).length = r.length + 1) := by show _ = _; simp [opsOf_len]
        have HN : Hid ((∀ j, j + 1 < r.length + 1 → j < r.length) ∧ r.length + 1 ≤ 50000) := by have := HK.out; exact ⟨fun j hj => by omega, by omega⟩
        generalize opsOf r r.length ++ [(⟨5, 0, 0, 0⟩ : Pure.Ins)] = l0 at *
        generalize r.length + 1 = n at *
        clear hown2 hgrow2 HO hbel hszr HK
        go_loopw [7] (fun i wr => ∃ (j : Nat) (l : List Pure.Ins), l.length = n ∧ i = .int .i64 j ∧ Below w.heap.size w wr ∧ wr.ownsRow w.heap.size 103 4 (.slice (some ⟨g, 0, none⟩) n cap2) n (insCells l) ∧ Pure.Made m l j) (fun i _ => n - (intOf i).toNat)
        case atStart => exact ⟨0, l0, HL0.out, rfl, hbel2, HMD.out.1, HMD.out.2⟩
        case round =>
          clear HMD HL0 hbel2
          obtain ⟨j, l, hl, rfl, hbel, hown, hmade⟩ := hrel
          have hn2 := HN.out.2
          by_cases hlt : j + 1 < n
          · have hjr : j < r.length := HN.out.1 j hlt
            obtain ⟨b, off, rfl, hbl, e0, e1, e2, e3⟩ := hread j hjr
            have q1 := (hbel.cell (p := ⟨b, off + j * 4 + 1, none⟩) hbl).trans e1
            have q2 := (hbel.cell (p := ⟨b, off + j * 4 + 2, none⟩) hbl).trans e2
            have q3 := (hbel.cell (p := ⟨b, off + j * 4 + 3, none⟩) hbl).trans e3
            obtain ⟨-, r1, r2, r3⟩ := HR.out j hjr
            have hjl : j < l.length := by omega
            obtain ⟨c0, c1, c2, c3⟩ := own_ins hown hjl
            obtain ⟨hop, ha0, hb0, ht0⟩ := hmade.raw j (Nat.le_refl _) hjl
            have f1 := own_frozen hown (j * 4 + 1)
            have f2 := own_frozen hown (j * 4 + 2)
            have f3 := own_frozen hown (j * 4 + 3)
            have hgb := own_base hown
            have hne : b ≠ g := by omega
            have hne' : g ≠ b := by omega
            have HO := hide hown
            have HM := hide hmade
            have HB := hide hbel
            have HL := hide hl
            have HJL := hide hjl
            have HGB := hide hgb
            have HHB := hide hg2
            generalize hy : Pure.cg l j = y at *
            obtain ⟨yo, ya, yb, yt⟩ := y
            simp only at hop ha0 hb0 ht0 c0 c1 c2 c3
            subst ha0 hb0 ht0
            have HY := hide hy
            generalize (Pure.cg r j).a = xa at *
            generalize (Pure.cg r j).b = xb at *
            generalize (Pure.cg r j).to = xt at *
            have E2 := hide e2
            have E3 := hide e3
            clear e0 e1 e2 e3 hread hown hmade hbel hl hjl hgb hy hn2
            by_cases o1 : yo = 1
            · subst o1
              have P1 := hide (fun w => pick_at xa m w r1 hm (by omega))
              have hz := Pure.pk_bd xa (n := (m : Int)) (by omega)
              generalize Pure.pk xa (m : Int) = z at *
              clear q2 q3 r1 r2 r3 f2 f3 c2 c3
              go_wp2_with fail
              refine (P1.out _).mono ?_
              rintro e w' ⟨rfl, rfl⟩
              go_wp2_with fail
              go_roundw
              case rel =>
                have hs := (insCells_set l j HJL.out ⟨1, z, 0, 0⟩).1 (by rw [HY.out]) (by rw [HY.out]) (by rw [HY.out])
                refine ⟨j + 1, l.set j ⟨1, z, 0, 0⟩, by rw [List.length_set]; exact HL.out, by go_num, HB.out.setCell (by show w.heap.size ≤ g; exact HGB.out.1) _, ?_, ?_⟩
                · rw [← hs]; exact own_set HO.out
                · refine HM.out.step (by rw [HL.out]; exact hlt) _ (by rw [HY.out]) (.inl ⟨rfl, hz.1, hz.2, rfl, rfl⟩) (fun h => by simp at h)
              case measure => simp [intOf]; omega
            by_cases o3 : yo = 3
            · subst o3
              have P1 := hide (fun w => pick_any xa 256 w r1.1 r1.2 (by omega) (by omega))
              have hz := Pure.pk_bd xa (n := 256) (by omega)
              generalize Pure.pk xa 256 = z at *
              have P2 := hide (fun w => pick_any xb (256 - z) w r2.1 r2.2 (by omega) (by omega))
              have hz2 := Pure.pk_bd xb (n := 256 - z) (by omega)
              generalize Pure.pk xb (256 - z) = z2 at *
              clear r1 r2
              go_wp2_with fail
              refine (P1.out _).mono ?_
              rintro e w' ⟨rfl, rfl⟩
              go_wp2_with fail
              have hs1 := (insCells_set l j HJL.out ⟨3, z, 0, 0⟩).1 (by rw [HY.out]) (by rw [HY.out]) (by rw [HY.out])
              have ho1 := own_set (j := j * 4 + 1) (u := .int .i64 z) HO.out
              rw [hs1] at ho1
              have hb1 : Below w.heap.size w (w'.setCell ⟨g, j * 4 + 1, none⟩ (.int .i64 z)) := HB.out.setCell (by show w.heap.size ≤ g; exact HGB.out.1) _
              clear q1 q2 q3 c0 c1 c2 c3 f1 f2 f3 hs1
              generalize w'.setCell ⟨g, j * 4 + 1, none⟩ (.int .i64 z) = W1 at *
              clear HO HB
              have ll1 : (l.set j (⟨3, z, 0, 0⟩ : Pure.Ins)).length = n := by rw [List.length_set]; exact HL.out
              have hg1' : Pure.cg (l.set j (⟨3, z, 0, 0⟩ : Pure.Ins)) j = ⟨3, z, 0, 0⟩ := by rw [Pure.cg_set _ _ _ _ HJL.out, if_pos rfl]
              obtain ⟨-, c1, c2, -⟩ := own_ins ho1 (i := j) (by omega)
              rw [hg1'] at c1 c2
              simp only at c1 c2
              have f2 := own_frozen ho1 (j * 4 + 2)
              have q2 := (hb1.cell (p := ⟨b, off + j * 4 + 2, none⟩) hbl).trans E2.out
              have HO1 := hide ho1
              have HB1 := hide hb1
              clear ho1 hb1 ll1 hg1'
              have i0 : (0 : Int) ≤ (j : Int) := by omega
              have i1 : (j : Int) < (n : Int) := by omega
              have i2 : (j : Int) < (r.length : Int) := by omega
              have wr1 : IntKind.i64.wrap (256 - z) = 256 - z := wrap_in _ (by omega) (by omega)
              have wr2 : IntKind.i64.wrap (z + z2) = z + z2 := wrap_in _ (by omega) (by omega)
              have k1 : ∀ v, (W1.setCell ⟨g, j * 4 + 2, none⟩ v).cell? ⟨g, j * 4 + 1, none⟩ = some (.int .i64 z) := fun v => (World.cell?_setCell_other _ _ _ _ (by simp)).trans c1
              go_region_held3 (fun w' => w'.cell? ⟨g, j * 4 + 1, none⟩ = some (.int .i64 z) ∧ w'.cell? ⟨b, off + j * 4 + 2, none⟩ = some (.int .i64 xb)) (go_keep) (first | (go_at_call 50; refine (P2.out _).mono ?_; rintro e w' ⟨rfl, rfl⟩))
              have hs2 := (insCells_set (l.set j (⟨3, z, 0, 0⟩ : Pure.Ins)) j (by rw [List.length_set]; exact HJL.out) ⟨3, z, z + z2, 0⟩).2.1 (by rw [Pure.cg_set _ _ _ _ HJL.out, if_pos rfl]) (by rw [Pure.cg_set _ _ _ _ HJL.out, if_pos rfl]) (by rw [Pure.cg_set _ _ _ _ HJL.out, if_pos rfl])
              have ho2 := World.ownsRow.drew (own_set (j := j * 4 + 2) (u := .int .i64 (z + z2)) HO1.out)
              rw [hs2, List.set_set] at ho2
              have hb2 : Below w.heap.size w (W1.setCell ⟨g, j * 4 + 2, none⟩ (.int .i64 (z + z2))).drew := (HB1.out.setCell (by show w.heap.size ≤ g; exact HGB.out.1) _).drew
              clear q2 c1 c2 f2 hs2 k1
              generalize (W1.setCell ⟨g, j * 4 + 2, none⟩ (.int .i64 (z + z2))).drew = W2 at *
              clear HO1 HB1
              have LN2 : Hid ((l.set j (⟨3, z, z + z2, 0⟩ : Pure.Ins)).length = n) := by show _ = _; rw [List.length_set]; exact HL.out
              have LJ2 : Hid (j < (l.set j (⟨3, z, z + z2, 0⟩ : Pure.Ins)).length) := by show j < _; rw [List.length_set]; exact HJL.out
              have LY2 : Hid (Pure.cg (l.set j (⟨3, z, z + z2, 0⟩ : Pure.Ins)) j = ⟨3, z, z + z2, 0⟩) := by show _ = _; rw [Pure.cg_set _ _ _ _ HJL.out, if_pos rfl]
              obtain ⟨-, -, -, c3⟩ := own_ins ho2 (i := j) LJ2.out
              rw [LY2.out] at c3
              simp only at c3
              have f3 := own_frozen ho2 (j * 4 + 3)
              have q3 := (hb2.cell (p := ⟨b, off + j * 4 + 3, none⟩) hbl).trans E3.out
              have HO2 := hide ho2
              have HB2 := hide hb2
              clear ho2 hb2
              go_wp2_with fail
              refine (target_any (.slice (some ⟨g, 0, none⟩) n cap2) (l.set j (⟨3, z, z + z2, 0⟩ : Pure.Ins)) j xt _ (own_code HO2.out LN2.out.symm) (by rw [LN2.out]; exact HN.out.2) (by rw [LN2.out]; exact hlt) r3).mono ?_
              rintro e w4 ⟨t, rfl, htg, rfl⟩
              go_wp2_with fail
              go_roundw
              case rel =>
                have hs := (insCells_set (l.set j (⟨3, z, z + z2, 0⟩ : Pure.Ins)) j LJ2.out ⟨3, z, z + z2, t⟩).2.2.1 (by rw [LY2.out]) (by rw [LY2.out]) (by rw [LY2.out])
                refine ⟨j + 1, l.set j ⟨3, z, z + z2, t⟩, by rw [List.length_set]; exact HL.out, by go_num, HB2.out.setCell (by show w.heap.size ≤ g; exact HGB.out.1) _, ?_, ?_⟩
                · have hs2 := own_set (j := j * 4 + 3) (u := .int .i64 t) HO2.out
                  rw [hs] at hs2
                  rw [List.set_set] at hs2
                  exact hs2
                · obtain ⟨ht1, ht2⟩ := htg
                  rw [LN2.out] at ht1
                  have hok : Pure.InsOK m l.length ⟨3, z, z + z2, t⟩ := .inr (.inr (.inl ⟨rfl, hz.1, (by show z ≤ z + z2; omega), (by show z + z2 ≤ 255; omega), ht1.1, (by rw [HL.out]; exact ht1.2)⟩))
                  refine HM.out.step (by rw [HL.out]; exact hlt) _ (by rw [HY.out]) hok (fun _ => ?_)
                  rcases ht2 with h | h
                  · exact .inl h
                  · refine .inr ?_
                    rw [Pure.cg_set _ _ _ _ HJL.out] at h
                    split at h
                    · exfalso; simp at h
                    · exact h
              case measure => simp [intOf]; omega
            by_cases o4 : yo = 4
            · subst o4
              have LN2 := HL
              have LY2 := HY
              have LJ2 := HJL
              clear q1 q2 f1 f2 c1 c2
              go_wp2_with fail
              refine (target_any (.slice (some ⟨g, 0, none⟩) n cap2) l j xt _ (own_code HO.out LN2.out.symm) (by rw [LN2.out]; exact HN.out.2) (by rw [LN2.out]; exact hlt) r3).mono ?_
              rintro e w4 ⟨t, rfl, htg, rfl⟩
              go_wp2_with fail
              go_roundw
              case rel =>
                have hs := (insCells_set l j LJ2.out ⟨4, 0, 0, t⟩).2.2.1 (by rw [LY2.out]) (by rw [LY2.out]) (by rw [LY2.out])
                refine ⟨j + 1, l.set j ⟨4, 0, 0, t⟩, by rw [List.length_set]; exact HL.out, by go_num, HB.out.setCell (by show w.heap.size ≤ g; exact HGB.out.1) _, ?_, ?_⟩
                · have hs2 := own_set (j := j * 4 + 3) (u := .int .i64 t) HO.out
                  rw [hs] at hs2
                  exact hs2
                · obtain ⟨ht1, ht2⟩ := htg
                  rw [LN2.out] at ht1
                  have hok : Pure.InsOK m l.length ⟨4, 0, 0, t⟩ := .inr (.inr (.inr ⟨rfl, rfl, rfl, ht1.1, (by rw [HL.out]; exact ht1.2)⟩))
                  refine HM.out.step (by rw [HL.out]; exact hlt) _ (by rw [HY.out]) hok (fun _ => ?_)
                  rcases ht2 with h | h
                  · exact .inl h
                  · refine .inr ?_
                    exact h
              case measure => simp [intOf]; omega
            · have d1 : (yo == 1) = false := by simpa using o1
              have d3 : (yo == 3) = false := by simpa using o3
              have d4 : (yo == 4) = false := by simpa using o4
              clear q1 q2 q3 f1 f2 f3 c1 c2 c3
              go_wp2_with fail
              go_roundw
              case rel => exact ⟨j + 1, l, HL.out, by go_num, HB.out, HO.out, HM.out.skip (by rw [HL.out]; exact hlt) (by rw [HY.out]; show yo = 2 ∨ yo = 5; omega)⟩
              case measure => simp [intOf]; omega
          · have HO := hide hown
            have HM := hide hmade
            have HB := hide hbel
            have HL := hide hl
            have hjn : j + 1 ≤ n := by have := hmade.at_; omega
            clear hown hmade hbel hl hread
            go_wp2
            go_ret
            have hcode := HM.out.code (by rw [HL.out]; exact hlt)
            have hlast := HM.out.last
            have ho := HO.out
            have hle := HL.out
            subst hle
            exact ⟨_, l, rfl, HB.out, ho, hcode.1, hcode.2, hlast⟩

end Go.Proofs.Ytmccnmgaoppogaa

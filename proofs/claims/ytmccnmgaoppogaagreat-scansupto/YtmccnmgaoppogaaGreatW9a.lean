/-
  The walks: the image of a program. (weirref)
-/
import Derived.Test.YtmccnmgaoppogaaGreatW8
import Derived.Test.YtmccnmgaoppogaaGreatW5a
import Derived.Test.YtmccnmgaoppogaaGreatPure6
namespace Go.Proofs.YtmccnmgaoppogaaGreat
open Go.RowKit

set_option maxRecDepth 100000 in
set_option maxHeartbeats 4000000 in
theorem written_any (ve vr vc : Value) (p : Pure.Prg) (w : World) (hE : Ints w ve p.ents) (hR : Rules w vr p.rules) (hC : Code w vc p.code) (hp : Pure.RightP p) :
    Calls Tryz.prog 33 #[.agg #[ve, vr, vc]] w (RetStr (Pure.img p) w) := by
  obtain ⟨i0, hi, hz0, hz1, hz2⟩ := info_parts Tryz.info5
  obtain ⟨ae, ce, rfl, he1, he2, hreadE⟩ := hE.read
  obtain ⟨ar, cr, rfl, hr1, hr2, hreadR⟩ := hR.read
  obtain ⟨ac, cc, rfl, hc1, hc2, hreadC⟩ := hC.read
  clear hE hR hC
  have hm := hp.1.1
  have hk := hp.2.1.1
  have hn := hp.2.2.1.1
  have HP := hide hp
  clear hp
  go_enter Tryz.func33, Tryz.ntmps33
  go_wp2_with fail
  have hW0b : Below w.heap.size w (w.alloc (.cells #[.slice ae p.ents.length ce, .slice ar p.rules.length cr, .slice ac p.code.length cc] 43)) := (Below.refl _ _).alloc (Nat.le_refl _) _
  have hW0s : (w.alloc (.cells #[.slice ae p.ents.length ce, .slice ar p.rules.length cr, .slice ac p.code.length cc] 43)).heap.size = w.heap.size + 1 := by simp
  have c0 : (w.alloc (.cells #[.slice ae p.ents.length ce, .slice ar p.rules.length cr, .slice ac p.code.length cc] 43)).cell? ⟨w.heap.size, 0, none⟩ = some (.slice ae p.ents.length ce) := by simp
  have c1 : (w.alloc (.cells #[.slice ae p.ents.length ce, .slice ar p.rules.length cr, .slice ac p.code.length cc] 43)).cell? ⟨w.heap.size, 1, none⟩ = some (.slice ar p.rules.length cr) := by simp
  have c2 : (w.alloc (.cells #[.slice ae p.ents.length ce, .slice ar p.rules.length cr, .slice ac p.code.length cc] 43)).cell? ⟨w.heap.size, 2, none⟩ = some (.slice ac p.code.length cc) := by simp
  generalize w.alloc (.cells #[.slice ae p.ents.length ce, .slice ar p.rules.length cr, .slice ac p.code.length cc] 43) = W0 at *
  have HS := hide hW0s
  clear hW0s
  refine (two_any (w.heap.size + 1) _ (Pure.hdr4 p) p.code.length _ (own_lit (by rw [HS.out]; exact Nat.le_refl _) rfl (by simp [Pure.hdr4]) (by rw [HS.out])) (by have := HS.out; simp; omega) (by simp [Pure.hdr4]) (by omega) (by omega)).mono ?_
  rintro e w1 ⟨vb, rfl, hby, hB1⟩
  have hbelA : Below (w.heap.size + 1) W0 w1 := ((Below.refl _ _).alloc (by rw [HS.out]; exact Nat.le_refl _) _).trans hB1
  have HBY : Hid (Bytes (w.heap.size + 1) w1 vb (Pure.wA p 0)) := by show Bytes _ _ _ _; rw [Pure.wA_zero]; exact hby
  clear hby hB1
  go_wp2_with fail
  go_loopw [3, 4] (fun b i wr => ∃ (k : Nat) (b' : Value), k ≤ p.ents.length ∧ i = .int .i64 k ∧ b' = b ∧ Below (w.heap.size + 1) W0 wr ∧ Bytes (w.heap.size + 1) wr b' (Pure.wA p k)) (fun _ i _ => p.ents.length - (intOf i).toNat)
  case atStart => exact ⟨0, _, Nat.zero_le _, rfl, rfl, hbelA, HBY.out⟩
  case round =>
    clear HBY hbelA
    obtain ⟨k, b, hk', rfl, rfl, hbel, hby⟩ := hrel
    have hsz := hbel.size
    rw [HS.out] at hsz
    have q0 := (hbel.cell (p := ⟨w.heap.size, 0, none⟩) (by simp)).trans c0
    by_cases hlt : k < p.ents.length
    · obtain ⟨b', off, rfl, hb, e0⟩ := hreadE k hlt
      have g0 := (hbel.cell (p := ⟨b', off + k, none⟩) (by simp; omega)).trans ((hW0b.cell (p := ⟨b', off + k, none⟩) hb).trans e0)
      have hbd := Pure.right_ent HP.out hlt
      have hln := Pure.wA_len p k hk'
      have HLN := hide hln
      clear hreadE hreadR hreadC e0 hln
      have HBY := hide hby
      clear hby
      go_wp2_with fail
      refine (two_any (w.heap.size + 1) _ (Pure.wA p k) (Pure.ig p.ents k) _ HBY.out hsz (by rw [HLN.out]; omega) hbd.1 hbd.2).mono ?_
      rintro e w2 ⟨v2, rfl, hby2, hB2⟩
      have hbel2 := hbel.trans hB2
      rw [← Pure.wA_step p k hlt] at hby2
      clear hB2 g0 q0 HBY
      go_wp2
      go_roundw
      case rel => exact ⟨k + 1, _, by omega, by go_num, rfl, hbel2, hby2⟩
      case measure => simp [intOf]; omega
    · have hke : k = p.ents.length := by omega
      subst hke
      have HBY : Hid (Bytes (w.heap.size + 1) wr b (Pure.wB p 0)) := by show Bytes _ _ _ _; rw [Pure.wB_zero]; exact hby
      clear hby hreadE hlt hk'
      go_wp2_with fail
      clear q0
      go_loopw [3, 5] (fun b i wr => ∃ (k : Nat) (b' : Value), k ≤ p.rules.length ∧ i = .int .i64 k ∧ b' = b ∧ Below (w.heap.size + 1) W0 wr ∧ Bytes (w.heap.size + 1) wr b' (Pure.wB p k)) (fun _ i _ => p.rules.length - (intOf i).toNat)
      case atStart => exact ⟨0, _, Nat.zero_le _, rfl, rfl, hbel, HBY.out⟩
      case round =>
        clear HBY hbel hsz
        obtain ⟨k, b, hk', rfl, rfl, hbel, hby⟩ := hrel
        have hsz := hbel.size
        rw [HS.out] at hsz
        have q1 := (hbel.cell (p := ⟨w.heap.size, 1, none⟩) (by simp)).trans c1
        by_cases hlt : k < p.rules.length
        · obtain ⟨b', off, rfl, hb, e0, e1, e2⟩ := hreadR k hlt
          have g0 := (hbel.cell (p := ⟨b', off + k * 3, none⟩) (by simp; omega)).trans ((hW0b.cell (p := ⟨b', off + k * 3, none⟩) hb).trans e0)
          have g1 := (hbel.cell (p := ⟨b', off + k * 3 + 1, none⟩) (by simp; omega)).trans ((hW0b.cell (p := ⟨b', off + k * 3 + 1, none⟩) hb).trans e1)
          have g2 := (hbel.cell (p := ⟨b', off + k * 3 + 2, none⟩) (by simp; omega)).trans ((hW0b.cell (p := ⟨b', off + k * 3 + 2, none⟩) hb).trans e2)
          obtain ⟨hx0, hx1, hx2⟩ := Pure.right_rule HP.out hlt
          have hst := Pure.wB_step p k hlt
          have HST := hide hst
          clear hst
          have hln := Pure.wB_len p k hk'
          generalize Pure.rg p.rules k = r at *
          obtain ⟨re, ra, rm⟩ := r
          simp only at g0 g1 g2 hx0 hx1 hx2 HST
          clear hreadR hreadC e0 e1 e2
          have s0 : St (w.heap.size + 1) W0 (wr.alloc (.cells #[.int .i64 re, .int .i64 ra, .int .i64 rm] 59)) b (Pure.wB p k) wr.heap.size #[.int .i64 re, .int .i64 ra, .int .i64 rm] 59 := ⟨hbel.alloc hsz _, World.ownsRow.alloc hby _, heap_alloc_new _ _, by simp; omega⟩
          generalize hxs : Pure.wB p k = xs at *
          clear hxs hby
          have hxl : xs.length ≤ 1000 := by omega
          have S0 := hide s0
          clear s0 hln
          go_wp2_with (first | (at_builtin; refine wpList_append_own _ rfl (.tmp 49) (.tmp 53) 152 rfl (w.heap.size + 1) 5 i0 (.int .u8 0) 1 1 Tryz.underlying152 hi hz0 hz1 hz2 rfl (by decide) b (xs).length (u8s (xs)) rfl (World.ownsRow.alloc S0.out.byt _) ⟨wr.heap.size + 1, 0, none⟩ 1 1 (u8s [re]) rfl rfl (cell_list (by simp)) (by intro u hu; simp [u8s] at hu; subst hu; rfl) (by unfold maxLen; simp; omega) (by simp; omega) (by have := S0.out.sz; simp; omega) ?_; intro v1 w1 hown hgrow _; have s1 := S0.out.app (by decide) rfl hown hgrow; clear hown hgrow; have d1 := loc_cell (j := 1) s1.loc rfl; have d1' := loc_cell (j := 2) s1.loc rfl) | (at_builtin; refine wpList_append_own _ rfl (.tmp 55) (.tmp 59) 152 rfl (w.heap.size + 1) 5 i0 (.int .u8 0) 1 1 Tryz.underlying152 hi hz0 hz1 hz2 rfl (by decide) v1 (xs ++ [re]).length (u8s (xs ++ [re])) rfl (World.ownsRow.alloc s1.byt _) ⟨w1.heap.size, 0, none⟩ 1 1 (u8s [ra]) rfl rfl (cell_list (by simp)) (by intro u hu; simp [u8s] at hu; subst hu; rfl) (by unfold maxLen; simp; omega) (by simp; omega) (by have := s1.sz; simp; omega) ?_; intro v2 w2 hown hgrow _; have s2 := s1.app (by decide) rfl hown hgrow; clear hown hgrow; have d2 := loc_cell (j := 2) s2.loc rfl) | (at_builtin; refine wpList_append_own _ rfl (.tmp 61) (.tmp 65) 152 rfl (w.heap.size + 1) 5 i0 (.int .u8 0) 1 1 Tryz.underlying152 hi hz0 hz1 hz2 rfl (by decide) v2 (xs ++ [re] ++ [ra]).length (u8s (xs ++ [re] ++ [ra])) rfl (World.ownsRow.alloc s2.byt _) ⟨w2.heap.size, 0, none⟩ 1 1 (u8s [rm]) rfl rfl (cell_list (by simp)) (by intro u hu; simp [u8s] at hu; subst hu; rfl) (by unfold maxLen; simp; omega) (by simp; omega) (by have := s2.sz; simp; omega) ?_; intro v3 w3 hown hgrow _; have s3 := s2.app (by decide) rfl hown hgrow; clear hown hgrow))
          go_roundw
          case rel => exact ⟨k + 1, _, by omega, by go_num, rfl, s3.bel, by have := s3.byt; rw [HST.out]; simpa using this⟩
          case measure => simp [intOf]; omega
        · have hke : k = p.rules.length := by omega
          subst hke
          have HBY : Hid (Bytes (w.heap.size + 1) wr b (Pure.wC p 0)) := by show Bytes _ _ _ _; rw [Pure.wC_zero]; exact hby
          clear hby hreadR hlt hk'
          go_wp2_with fail
          clear q1
          go_loopw [3, 7] (fun b i wr => ∃ (k : Nat) (b' : Value), k ≤ p.code.length ∧ i = .int .i64 k ∧ b' = b ∧ Below (w.heap.size + 1) W0 wr ∧ Bytes (w.heap.size + 1) wr b' (Pure.wC p k)) (fun _ i _ => p.code.length - (intOf i).toNat)
          case atStart => exact ⟨0, _, Nat.zero_le _, rfl, rfl, hbel, HBY.out⟩
          case round =>
            clear HBY hbel hsz
            obtain ⟨k, b, hk', rfl, rfl, hbel, hby⟩ := hrel
            have hsz := hbel.size
            rw [HS.out] at hsz
            have q2 := (hbel.cell (p := ⟨w.heap.size, 2, none⟩) (by simp)).trans c2
            by_cases hlt : k < p.code.length
            · obtain ⟨b', off, rfl, hb, e0, e1, e2, e3⟩ := hreadC k hlt
              have g0 := (hbel.cell (p := ⟨b', off + k * 4, none⟩) (by simp; omega)).trans ((hW0b.cell (p := ⟨b', off + k * 4, none⟩) hb).trans e0)
              have g1 := (hbel.cell (p := ⟨b', off + k * 4 + 1, none⟩) (by simp; omega)).trans ((hW0b.cell (p := ⟨b', off + k * 4 + 1, none⟩) hb).trans e1)
              have g2 := (hbel.cell (p := ⟨b', off + k * 4 + 2, none⟩) (by simp; omega)).trans ((hW0b.cell (p := ⟨b', off + k * 4 + 2, none⟩) hb).trans e2)
              have g3 := (hbel.cell (p := ⟨b', off + k * 4 + 3, none⟩) (by simp; omega)).trans ((hW0b.cell (p := ⟨b', off + k * 4 + 3, none⟩) hb).trans e3)
              obtain ⟨hx0, hx1, hx2, hx3⟩ := Pure.right_ins HP.out hlt
              have hst := Pure.wC_step p k hlt
              have HST := hide hst
              clear hst
              have hln := Pure.wC_len p k hk'
              generalize Pure.cg p.code k = r at *
              obtain ⟨xo, xa, xb, xt⟩ := r
              simp only at g0 g1 g2 g3 hx0 hx1 hx2 hx3 HST
              clear hreadC e0 e1 e2 e3
              have s0 : St (w.heap.size + 1) W0 (wr.alloc (.cells #[.int .i64 xo, .int .i64 xa, .int .i64 xb, .int .i64 xt] 61)) b (Pure.wC p k) wr.heap.size #[.int .i64 xo, .int .i64 xa, .int .i64 xb, .int .i64 xt] 61 := ⟨hbel.alloc hsz _, World.ownsRow.alloc hby _, heap_alloc_new _ _, by simp; omega⟩
              generalize hxs : Pure.wC p k = xs at *
              clear hxs hby
              have hxl : xs.length ≤ 300000 := by omega
              have S0 := hide s0
              clear s0 hln
              go_wp2_with (first | (at_builtin; refine wpList_append_own _ rfl (.tmp 79) (.tmp 83) 152 rfl (w.heap.size + 1) 5 i0 (.int .u8 0) 1 1 Tryz.underlying152 hi hz0 hz1 hz2 rfl (by decide) b (xs).length (u8s (xs)) rfl (World.ownsRow.alloc S0.out.byt _) ⟨wr.heap.size + 1, 0, none⟩ 1 1 (u8s [xo]) rfl rfl (cell_list (by simp)) (by intro u hu; simp [u8s] at hu; subst hu; rfl) (by unfold maxLen; simp; omega) (by simp; omega) (by have := S0.out.sz; simp; omega) ?_; intro v1 w1 hown hgrow _; have s1 := S0.out.app (by decide) rfl hown hgrow; clear hown hgrow; have d1 := loc_cell (j := 1) s1.loc rfl) | (at_builtin; refine wpList_append_own _ rfl (.tmp 85) (.tmp 89) 152 rfl (w.heap.size + 1) 5 i0 (.int .u8 0) 1 1 Tryz.underlying152 hi hz0 hz1 hz2 rfl (by decide) v1 (xs ++ [xo]).length (u8s (xs ++ [xo])) rfl (World.ownsRow.alloc s1.byt _) ⟨w1.heap.size, 0, none⟩ 1 1 (u8s [xa]) rfl rfl (cell_list (by simp)) (by intro u hu; simp [u8s] at hu; subst hu; rfl) (by unfold maxLen; simp; omega) (by simp; omega) (by have := s1.sz; simp; omega) ?_; intro v2 w2 hown hgrow _; have s2 := s1.app (by decide) rfl hown hgrow; clear hown hgrow; have d2 := loc_cell (j := 2) s2.loc rfl) | (at_builtin; refine wpList_append_own _ rfl (.tmp 91) (.tmp 95) 152 rfl (w.heap.size + 1) 5 i0 (.int .u8 0) 1 1 Tryz.underlying152 hi hz0 hz1 hz2 rfl (by decide) v2 (xs ++ [xo] ++ [xa]).length (u8s (xs ++ [xo] ++ [xa])) rfl (World.ownsRow.alloc s2.byt _) ⟨w2.heap.size, 0, none⟩ 1 1 (u8s [xb]) rfl rfl (cell_list (by simp)) (by intro u hu; simp [u8s] at hu; subst hu; rfl) (by unfold maxLen; simp; omega) (by simp; omega) (by have := s2.sz; simp; omega) ?_; intro v3 w3 hown hgrow _; have s3 := s2.app (by decide) rfl hown hgrow; clear hown hgrow; have d3 := loc_cell (j := 3) s3.loc rfl))
              refine (two_any (w.heap.size + 1) _ (xs ++ [xo] ++ [xa] ++ [xb]) xt _ s3.byt s3.sz (by simp; omega) hx3.1 hx3.2).mono ?_
              rintro e w4 ⟨v4, rfl, hby4, hB4⟩
              have hbel4 := s3.bel.trans hB4
              clear hB4 s1 s2 s3 d1 d2 d3
              go_wp2
              go_roundw
              case rel => exact ⟨k + 1, _, by omega, by go_num, rfl, hbel4, by rw [HST.out]; simpa using hby4⟩
              case measure => simp [intOf]; omega
            · have hke : k = p.code.length := by omega
              subst hke
              have hln := Pure.wC_len p p.code.length (Nat.le_refl _)
              obtain ⟨g, cap, rfl, hcv⟩ := hby.str (by omega)
              clear hby hreadC hlt hk' hln
              go_wp2
              go_ret
              exact ⟨rfl, hW0b.trans (hbel.mono (by omega))⟩

end Go.Proofs.YtmccnmgaoppogaaGreat

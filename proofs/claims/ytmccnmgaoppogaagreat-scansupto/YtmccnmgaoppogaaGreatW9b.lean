/-
  The walks: the image of a program. (images)
-/
import Derived.Test.YtmccnmgaoppogaaGreatW8
import Derived.Test.YtmccnmgaoppogaaGreatW5a
import Derived.Test.YtmccnmgaoppogaaGreatPure6
namespace Go.Proofs.YtmccnmgaoppogaaGreat
open Go.RowKit

set_option maxRecDepth 100000 in
set_option maxHeartbeats 4000000 in
theorem write_any (ve vr vc : Value) (p : Pure.Prg) (w : World) (hE : Ints w ve p.ents) (hR : Rules w vr p.rules) (hC : Code w vc p.code) (hp : Pure.RightP p) :
    Calls Tryz.prog 26 #[.agg #[ve, vr, vc]] w (RetStr (Pure.img p) w) := by
  obtain ⟨i0, hi, hz0, hz1, hz2⟩ := info_parts Tryz.info5
  obtain ⟨ae, ce, rfl, he1, he2, hreadE⟩ := hE.read
  obtain ⟨ar, cr, rfl, hr1, hr2, hreadR⟩ := hR.read
  obtain ⟨ac, cc, rfl, hc1, hc2, hreadC⟩ := hC.read
  clear hE hR hC
  have hm := hp.1.1
  have hk := hp.2.1.1
  have hn := hp.2.2.1.1
  have HP := hide hp
  clear hp
  have hbox : (w.alloc (.cells #[.slice ae p.ents.length ce, .slice ar p.rules.length cr, .slice ac p.code.length cc] 43)).heap[w.heap.size]? = some (.cells #[.slice ae p.ents.length ce, .slice ar p.rules.length cr, .slice ac p.code.length cc] 43 (0, 0)) := heap_alloc_new _ _
  have HBX := hide hbox
  clear hbox
  go_enter Tryz.func26, Tryz.ntmps26
  go_wp2_with (first | (at_make; refine wpList_make_own _ rfl _ _ 152 rfl (w.heap.size + 1) 5 i0 (.int .u8 0) 1 Tryz.underlying152 hi hz0 hz1 _ _ _ (6 + p.ents.length * 2 + p.rules.length * 3 + p.code.length * 5) rfl rfl (by omega) (by rw [hz2]; omega) (by unfold maxLen; omega) (by simp) ?_; intro w1 hown1 hgrow1; have s1 := St.made hgrow1 (by simp) hown1 HBX.out; simp only [World.size_alloc] at s1; clear hown1 hgrow1; have k0 := loc_cell (j := 0) s1.loc rfl; have k1 := loc_cell (j := 1) s1.loc rfl; have k2 := loc_cell (j := 2) s1.loc rfl) | (at_builtin; refine wpList_append_own _ rfl (.tmp 26) (.tmp 35) 152 rfl (w.heap.size + 1) 5 i0 (.int .u8 0) 1 1 Tryz.underlying152 hi hz0 hz1 hz2 rfl (by decide) _ 0 [] rfl (World.ownsRow.alloc s1.byt _) ⟨w1.heap.size, 0, none⟩ 4 4 (u8s [87, 82, (p.ents.length : Int), (p.rules.length : Int)]) rfl rfl (cell_list rfl) (by intro u hu; simp [u8s] at hu; rcases hu with rfl | rfl | rfl | rfl <;> rfl) (by unfold maxLen; omega) (by omega) (by have := s1.sz; simp; omega) ?_; intro v2 w2 hown2 hgrow2 _; have s2 := s1.app (by decide) rfl hown2 hgrow2; clear hown2 hgrow2; have l2 := loc_cell (j := 2) s2.loc rfl) | (at_builtin; refine wpList_append_own _ rfl (.tmp 37) (.tmp 47) 152 rfl (w.heap.size + 1) 5 i0 (.int .u8 0) 1 1 Tryz.underlying152 hi hz0 hz1 hz2 rfl (by decide) v2 ([] ++ [87, 82, (p.ents.length : Int), (p.rules.length : Int)]).length (u8s ([] ++ [87, 82, (p.ents.length : Int), (p.rules.length : Int)])) rfl (World.ownsRow.alloc s2.byt _) ⟨w2.heap.size, 0, none⟩ 2 2 (u8s [(p.code.length : Int) % 256, (p.code.length : Int) / 256]) rfl rfl (cell_list rfl) (by intro u hu; simp [u8s] at hu; rcases hu with rfl | rfl <;> rfl) (by unfold maxLen; simp) (by simp) (by have := s2.sz; simp; omega) ?_; intro v3 w3 hown3 hgrow3 _; have s3 := s2.app (by decide) rfl hown3 hgrow3; clear hown3 hgrow3; have m0 := loc_cell (j := 0) s3.loc rfl))
  clear k0 k1 k2 l2 s1 s2
  have S3 : Hid (St (w.heap.size + 1) (w.alloc (.cells #[.slice ae p.ents.length ce, .slice ar p.rules.length cr, .slice ac p.code.length cc] 43)) w3 v3 (Pure.wA p 0) w.heap.size #[.slice ae p.ents.length ce, .slice ar p.rules.length cr, .slice ac p.code.length cc] 43) := by show St _ _ _ _ _ _ _ _; rw [Pure.wA_zero]; exact s3
  clear s3
  go_wp2_with fail
  clear m0
  have hW0b : Below w.heap.size w (w.alloc (.cells #[.slice ae p.ents.length ce, .slice ar p.rules.length cr, .slice ac p.code.length cc] 43)) := (Below.refl _ _).alloc (Nat.le_refl _) _
  go_loopw [3, 52] (fun b i wr => ∃ (k : Nat) (b' : Value), k ≤ p.ents.length ∧ i = .int .i64 k ∧ b' = b ∧ St (w.heap.size + 1) (w.alloc (.cells #[.slice ae p.ents.length ce, .slice ar p.rules.length cr, .slice ac p.code.length cc] 43)) wr b' (Pure.wA p k) w.heap.size #[.slice ae p.ents.length ce, .slice ar p.rules.length cr, .slice ac p.code.length cc] 43) (fun _ i _ => p.ents.length - (intOf i).toNat)
  case atStart => exact ⟨0, _, Nat.zero_le _, rfl, rfl, S3.out⟩
  case round =>
    clear S3
    obtain ⟨k, b, hk', rfl, rfl, s0⟩ := hrel
    have hbel := s0.bel
    by_cases hlt : k < p.ents.length
    · obtain ⟨b', off, rfl, hb, e0⟩ := hreadE k hlt
      have g0 := (hbel.cell (p := ⟨b', off + k, none⟩) (by simp; omega)).trans ((hW0b.cell (p := ⟨b', off + k, none⟩) hb).trans e0)
      have hbd := Pure.right_ent HP.out hlt
      have hst := Pure.wA_step p k hlt
      have HST := hide hst
      have hln := Pure.wA_len p k hk'
      generalize hxs : Pure.wA p k = xs at *
      have hxl : xs.length ≤ 300000 := by omega
      have S0 := hide s0
      clear hreadE hreadR hreadC e0 hln hst s0 hxs hbel hW0b
      go_wp2_with (at_builtin; refine wpList_append_own _ rfl (.tmp 56) (.tmp 62) 152 rfl (w.heap.size + 1) 5 i0 (.int .u8 0) 1 1 Tryz.underlying152 hi hz0 hz1 hz2 rfl (by decide) b xs.length (u8s xs) rfl (World.ownsRow.alloc S0.out.byt _) ⟨wr.heap.size, 0, none⟩ 2 2 (u8s [Pure.ig p.ents k % 256, Pure.ig p.ents k / 256]) rfl rfl (cell_list (by simp)) (by intro u hu; simp [u8s] at hu; rcases hu with rfl | rfl <;> rfl) (by unfold maxLen; omega) (by omega) (by have := S0.out.sz; simp; omega) ?_; intro v2 w2 hown2 hgrow2 _; have s2 := S0.out.app (by decide) rfl hown2 hgrow2; clear hown2 hgrow2)
      have s2' := s2
      rw [← HST.out] at s2'
      clear s2 g0
      go_roundw
      case rel => exact ⟨k + 1, _, by omega, by go_num, rfl, s2'⟩
      case measure => simp [intOf]; omega
    · have hke : k = p.ents.length := by omega
      subst hke
      have S0 : Hid (St (w.heap.size + 1) (w.alloc (.cells #[.slice ae p.ents.length ce, .slice ar p.rules.length cr, .slice ac p.code.length cc] 43)) wr b (Pure.wB p 0) w.heap.size #[.slice ae p.ents.length ce, .slice ar p.rules.length cr, .slice ac p.code.length cc] 43) := by show St _ _ _ _ _ _ _ _; rw [Pure.wB_zero]; exact s0
      have m1 := loc_cell (j := 1) s0.loc rfl
      clear s0 hreadE hlt hk' hbel
      go_wp2_with fail
      clear m1
      go_loopw [3, 68] (fun b i wr => ∃ (k : Nat) (b' : Value), k ≤ p.rules.length ∧ i = .int .i64 k ∧ b' = b ∧ St (w.heap.size + 1) (w.alloc (.cells #[.slice ae p.ents.length ce, .slice ar p.rules.length cr, .slice ac p.code.length cc] 43)) wr b' (Pure.wB p k) w.heap.size #[.slice ae p.ents.length ce, .slice ar p.rules.length cr, .slice ac p.code.length cc] 43) (fun _ i _ => p.rules.length - (intOf i).toNat)
      case atStart => exact ⟨0, _, Nat.zero_le _, rfl, rfl, S0.out⟩
      case round =>
        clear S0
        obtain ⟨k, b, hk', rfl, rfl, s0⟩ := hrel
        have hbel := s0.bel
        have hsz := s0.sz
        by_cases hlt : k < p.rules.length
        · obtain ⟨b', off, rfl, hb, e0, e1, e2⟩ := hreadR k hlt
          have g0 := (hbel.cell (p := ⟨b', off + k * 3, none⟩) (by simp; omega)).trans ((hW0b.cell (p := ⟨b', off + k * 3, none⟩) hb).trans e0)
          have g1 := (hbel.cell (p := ⟨b', off + k * 3 + 1, none⟩) (by simp; omega)).trans ((hW0b.cell (p := ⟨b', off + k * 3 + 1, none⟩) hb).trans e1)
          have g2 := (hbel.cell (p := ⟨b', off + k * 3 + 2, none⟩) (by simp; omega)).trans ((hW0b.cell (p := ⟨b', off + k * 3 + 2, none⟩) hb).trans e2)
          obtain ⟨hx0, hx1, hx2⟩ := Pure.right_rule HP.out hlt
          have hst := Pure.wB_step p k hlt
          have HST := hide hst
          have hln := Pure.wB_len p k hk'
          generalize Pure.rg p.rules k = r at *
          obtain ⟨re, ra, rm⟩ := r
          simp only at g0 g1 g2 hx0 hx1 hx2 HST
          generalize hxs : Pure.wB p k = xs at *
          have hxl : xs.length ≤ 300000 := by omega
          have S0 := hide (s0.step (.cells #[.int .i64 re, .int .i64 ra, .int .i64 rm] 59))
          clear hreadR hreadC e0 e1 e2 hln hst s0 hxs hbel hW0b
          go_wp2_with (at_builtin; refine wpList_append_own _ rfl (.tmp 72) (.tmp 82) 152 rfl (w.heap.size + 1) 5 i0 (.int .u8 0) 1 1 Tryz.underlying152 hi hz0 hz1 hz2 rfl (by decide) b xs.length (u8s xs) rfl (World.ownsRow.alloc S0.out.byt _) ⟨wr.heap.size + 1, 0, none⟩ 3 3 (u8s [re, ra, rm]) rfl rfl (cell_list (by simp)) (by intro u hu; simp [u8s] at hu; rcases hu with rfl | rfl | rfl <;> rfl) (by unfold maxLen; omega) (by omega) (by have := S0.out.sz; simp; omega) ?_; intro v2 w2 hown2 hgrow2 _; have s2 := S0.out.app (by decide) rfl hown2 hgrow2; clear hown2 hgrow2)
          have s2' := s2
          rw [← HST.out] at s2'
          clear s2 g0 g1 g2
          go_roundw
          case rel => exact ⟨k + 1, _, by omega, by go_num, rfl, s2'⟩
          case measure => simp [intOf]; omega
        · have hke : k = p.rules.length := by omega
          subst hke
          have S0 : Hid (St (w.heap.size + 1) (w.alloc (.cells #[.slice ae p.ents.length ce, .slice ar p.rules.length cr, .slice ac p.code.length cc] 43)) wr b (Pure.wC p 0) w.heap.size #[.slice ae p.ents.length ce, .slice ar p.rules.length cr, .slice ac p.code.length cc] 43) := by show St _ _ _ _ _ _ _ _; rw [Pure.wC_zero]; exact s0
          have m2 := loc_cell (j := 2) s0.loc rfl
          clear s0 hreadR hlt hk' hbel hsz
          go_wp2_with fail
          clear m2
          go_loopw [3, 88] (fun b i wr => ∃ (k : Nat) (b' : Value), k ≤ p.code.length ∧ i = .int .i64 k ∧ b' = b ∧ St (w.heap.size + 1) (w.alloc (.cells #[.slice ae p.ents.length ce, .slice ar p.rules.length cr, .slice ac p.code.length cc] 43)) wr b' (Pure.wC p k) w.heap.size #[.slice ae p.ents.length ce, .slice ar p.rules.length cr, .slice ac p.code.length cc] 43) (fun _ i _ => p.code.length - (intOf i).toNat)
          case atStart => exact ⟨0, _, Nat.zero_le _, rfl, rfl, S0.out⟩
          case round =>
            clear S0
            obtain ⟨k, b, hk', rfl, rfl, s0⟩ := hrel
            have hbel := s0.bel
            have hsz := s0.sz
            by_cases hlt : k < p.code.length
            · obtain ⟨b', off, rfl, hb, e0, e1, e2, e3⟩ := hreadC k hlt
              have g0 := (hbel.cell (p := ⟨b', off + k * 4, none⟩) (by simp; omega)).trans ((hW0b.cell (p := ⟨b', off + k * 4, none⟩) hb).trans e0)
              have g1 := (hbel.cell (p := ⟨b', off + k * 4 + 1, none⟩) (by simp; omega)).trans ((hW0b.cell (p := ⟨b', off + k * 4 + 1, none⟩) hb).trans e1)
              have g2 := (hbel.cell (p := ⟨b', off + k * 4 + 2, none⟩) (by simp; omega)).trans ((hW0b.cell (p := ⟨b', off + k * 4 + 2, none⟩) hb).trans e2)
              have g3 := (hbel.cell (p := ⟨b', off + k * 4 + 3, none⟩) (by simp; omega)).trans ((hW0b.cell (p := ⟨b', off + k * 4 + 3, none⟩) hb).trans e3)
              obtain ⟨hx0, hx1, hx2, hx3⟩ := Pure.right_ins HP.out hlt
              have hst := Pure.wC_step p k hlt
              have HST := hide hst
              have hln := Pure.wC_len p k hk'
              generalize Pure.cg p.code k = r at *
              obtain ⟨xo, xa, xb, xt⟩ := r
              simp only at g0 g1 g2 g3 hx0 hx1 hx2 hx3 HST
              generalize hxs : Pure.wC p k = xs at *
              have hxl : xs.length ≤ 300000 := by omega
              have S0 := hide (s0.step (.cells #[.int .i64 xo, .int .i64 xa, .int .i64 xb, .int .i64 xt] 61))
              clear hreadC e0 e1 e2 e3 hln hst s0 hxs hbel hW0b
              go_wp2_with (at_builtin; refine wpList_append_own _ rfl (.tmp 92) (.tmp 109) 152 rfl (w.heap.size + 1) 5 i0 (.int .u8 0) 1 1 Tryz.underlying152 hi hz0 hz1 hz2 rfl (by decide) b xs.length (u8s xs) rfl (World.ownsRow.alloc S0.out.byt _) ⟨wr.heap.size + 1, 0, none⟩ 5 5 (u8s [xo, xa, xb, xt % 256, xt / 256]) rfl rfl (cell_list (by simp)) (by intro u hu; simp [u8s] at hu; rcases hu with rfl | rfl | rfl | rfl | rfl <;> rfl) (by unfold maxLen; omega) (by omega) (by have := S0.out.sz; simp; omega) ?_; intro v2 w2 hown2 hgrow2 _; have s2 := S0.out.app (by decide) rfl hown2 hgrow2; clear hown2 hgrow2)
              have s2' := s2
              rw [← HST.out] at s2'
              clear s2 g0 g1 g2 g3
              go_roundw
              case rel => exact ⟨k + 1, _, by omega, by go_num, rfl, s2'⟩
              case measure => simp [intOf]; omega
            · have hke : k = p.code.length := by omega
              subst hke
              have hln := Pure.wC_len p p.code.length (Nat.le_refl _)
              obtain ⟨g, cap, rfl, hcv⟩ := s0.byt.str (by omega)
              clear hreadC hlt hk' hln s0 hsz
              go_wp2
              go_ret
              exact ⟨rfl, hW0b.trans (hbel.mono (by omega))⟩

end Go.Proofs.YtmccnmgaoppogaaGreat

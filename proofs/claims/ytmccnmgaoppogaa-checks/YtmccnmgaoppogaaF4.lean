/-
  The walks: the number of a set. (sets)
-/
import Derived.Test.YtmccnmgaoppogaaFA
namespace Go.Proofs.Ytmccnmgaoppogaa
open Go.RowKit

namespace Pure
theorem idxSt_drop (t : List Nat) (ss : List St) : ∀ (k : Nat) (x : St), ss[k]? = some x → idxSt t (ss.drop k) = if x.places = t then 0 else idxSt t (ss.drop (k + 1)) + 1 := by
  intro k x h
  rw [List.drop_eq_getElem?_toList_append, h]
  rfl
theorem idxSt_le (t : List Nat) : ∀ ss : List St, idxSt t ss ≤ ss.length := by
  intro ss
  induction ss with
  | nil => exact Nat.le_refl _
  | cons s r ih =>
    unfold idxSt
    split
    · exact Nat.zero_le _
    · simp; exact ih
end Pure

/-- a number comes back; the sets have become others -/
def RetNum (B g : Nat) (ps : List Pure.Pl) (ss' : List Pure.St) (n : Nat) (w : World) (e : Ending) (w' : World) : Prop :=
  e = .returned (.int .i64 n) ∧ Sk B w w' ∧ ∃ vp vs ts, Fd B g ps ss' vp vs ts w'

theorem z256C : natCells Pure.z256 = List.replicate 256 (Value.int .i64 0) := by
  unfold natCells Pure.z256
  rw [List.map_replicate]
  rfl
theorem stC1_new (l : List Nat) (v : Value) : stC1 (⟨l, Pure.z256⟩, v) = v :: List.replicate 256 (Value.int .i64 0) := by
  unfold stC1
  rw [z256C]

set_option maxRecDepth 100000 in
set_option maxHeartbeats 4000000 in
theorem number_any (B g : Nat) (ps : List Pure.Pl) (ss : List Pure.St) (vp vs : Value) (ts : List (Pure.St × Value)) (vr : Value) (t : List Nat) (w : World) (h : Fd B g ps ss vp vs ts w) (hl : ss.length ≤ 500) (hr : Nats w vr t) (hi : t.length ≤ 1000) (hss : ∀ x ∈ ss, x.places.length ≤ 1000) :
    Calls Try.prog 147 #[.pointer (some ⟨g, 0, none⟩), vr] w (RetNum B g ps (Pure.numbSt ss t) (Pure.idxSt t ss) w) := by
  obtain ⟨av, cv, rfl, hv1, hv2, hv3⟩ := hr.form
  obtain ⟨as2, cs2, rfl, hs1, hs2⟩ := own_fm h.own
  obtain ⟨is, his, hz0, hz1, hz2⟩ := info_parts set_info
  have hlen := h.len
  have H0 := hide h
  have HR := hide hr
  have HS := hide hss
  have zv := set_zeroV
  have BL : B ≤ w.heap.size := by have := h.up; have := blk_lt h.fb; omega
  have c1 := blk_cell (j := 1) h.fb rfl
  rw [hlen] at c1
  clear h hr hss
  go_enter Try.func147, Try.ntmps147
  go_wp2_with fail
  clear c1
  go_loopg [5, 6, 12] ss.length (fun gk _ _ kv wx => ∃ k : Nat, k ≤ ss.length ∧ gk = ss.length - k ∧ kv = .int .i64 k ∧ Pure.idxSt t ss = k + Pure.idxSt t (ss.drop k) ∧ Below w.heap.size w wx)
  case atStart => exact ⟨0, Nat.zero_le _, rfl, rfl, by simp, Below.refl _ _⟩
  case round =>
    obtain ⟨k, kl, rfl, rfl, hf, hb⟩ := hrel
    have HF := hide hf
    have HB := hide hb
    clear hf hb
    by_cases hlt : k < ss.length
    · have d1 : decide ((k : Int) < (ss.length : Int)) = true := decide_eq_true (by omega)
      obtain ⟨x, hx⟩ : ∃ x, ss[k]? = some x := ⟨_, List.getElem?_eq_getElem hlt⟩
      have hxl := HS.out x (List.mem_of_getElem? hx)
      have F1 := H0.out.below HB.out
      obtain ⟨gs, cap, ax, nx, cx, ev, _, hrg, hn, hlg⟩ := F1.get hx
      rw [← hlen] at ev
      cases ev
      have wi : IntKind.i64.wrap ((k : Int) + 1) = (k : Int) + 1 := wrap_in _ (by omega) (by omega)
      have ik0 : (0 : Int) ≤ (k : Int) := by omega
      have ik1 : (k : Int) < (ss.length : Int) := by omega
      have DR := hide (Pure.idxSt_drop t ss k x hx)
      have BX0 : Hid (Blk (wr.alloc (.cells setZ.toArray 175)) wr.heap.size 175 setZ) := heap_alloc_new _ _
      have sl : (stC1 (x, .slice ax nx cx)).length = 257 := stC1_length hlg
      have B2 : Hid (Below w.heap.size w (wr.alloc (.cells setZ.toArray 175))) := HB.out.alloc HB.out.size _
      have B3 := hide (below_cells (g := wr.heap.size) HB.out.size (stC1 (x, .slice ax nx cx)) 0 _ B2.out)
      have BX := hide (blk_stored (stC1 (x, .slice ax nx cx)) BX0.out (by rw [setZ_length, sl]))
      have HRG := hide hrg
      have N1 := hide hn
      clear hrg hn F1
      go_upto_region 4 with (first | (refine wpList_load_mid rfl 175 (.tmp 15) rfl gs (k * 257) rfl _ _ HRG.out Try.underlying175 rfl (by rw [sl]; exact set_size) ?_) | (refine wpList_store_mid rfl 175 (.tmp 6) (.tmp 16) rfl wr.heap.size 0 (stC1 (x, .slice ax nx cx)).toArray rfl rfl (by have := blk_there BX0.out; rw [setZ_length] at this; simpa [sl] using this) (by simp only [List.size_toArray, sl]; exact set_size) (all_oneCell_toArray (stC1_one rfl)) ?_))
      have bw : Below wr.heap.size wr ((wr.alloc (.cells setZ.toArray 175)).setCells wr.heap.size 0 (stC1 (x, .slice ax nx cx))) := below_cells (g := wr.heap.size) (Nat.le_refl _) _ 0 _ ((Below.refl wr.heap.size wr).alloc (Nat.le_refl _) _)
      have N2 := hide (N1.out.below bw)
      have R2 := hide (HR.out.below B3.out)
      have x0 := blk_cell (j := 0) BX.out rfl
      clear bw N1 BX BX0 HRG B2
      generalize (wr.alloc (.cells setZ.toArray 175)).setCells wr.heap.size 0 (stC1 (x, .slice ax nx cx)) = W2 at *
      go_wp2_with fail
      refine (same_any _ _ x.places t W2 N2.out R2.out (by omega) (by omega)).mono ?_
      rintro e w3 ⟨rfl, hb3⟩
      have B4 := hide (bel0 B3.out hb3)
      clear hb3 B3 N2 R2 x0
      by_cases heq : x.places = t
      · rw [decide_eq_true heq]
        have e0 := DR.out
        rw [if_pos heq] at e0
        have E1 : Hid (Pure.idxSt t ss = k) := by show _ = _; rw [HF.out, e0]; rfl
        have E2 : Hid (Pure.numbSt ss t = ss) := by show _ = _; unfold Pure.numbSt; rw [E1.out, if_pos hlt]
        clear e0 DR HF heq
        go_wp2
        go_ret
        refine ⟨?_, .below BL B4.out, ?_⟩
        · rw [E1.out]; rfl
        · rw [E2.out]; exact ⟨_, _, _, H0.out.below B4.out⟩
      · rw [decide_eq_false heq]
        have e0 := DR.out
        rw [if_neg heq] at e0
        have E1 : Hid (Pure.idxSt t ss = (k + 1 : Nat) + Pure.idxSt t (ss.drop (k + 1))) := by show _ = _; rw [HF.out, e0]; omega
        clear e0 DR HF heq
        go_wp2
        go_roundg (ss.length - (k + 1))
        case measure => omega
        case rel => exact ⟨k + 1, by omega, rfl, by go_num, E1.out, B4.out⟩
    · have d1 : decide ((k : Int) < (ss.length : Int)) = false := decide_eq_false (by omega)
      have e : k = ss.length := by omega
      have E1 : Hid (Pure.idxSt t ss = ss.length) := by
        have := HF.out
        rw [e, List.drop_length] at this
        exact this
      have E2 : Hid (Pure.numbSt ss t = ss ++ [⟨t, Pure.z256⟩]) := by show _ = _; unfold Pure.numbSt; rw [E1.out, if_neg (by omega)]
      clear HF e
      have F1 := hide (H0.out.below HB.out)
      have c1 := blk_cell (j := 1) F1.out.fb rfl
      have f1 := blk_frozen F1.out.fb 1
      rw [hlen] at c1
      have hb2 := (Below.refl wr.heap.size wr).alloc (Nat.le_refl _) (.cells (stC1 (⟨t, Pure.z256⟩, .slice av t.length cv)).toArray 175)
      have F2 := hide (F1.out.below hb2)
      have R2 := hide ((HR.out.below HB.out).below hb2)
      have BN : Hid (Blk (wr.alloc (.cells (stC1 (⟨t, Pure.z256⟩, .slice av t.length cv)).toArray 175)) wr.heap.size 175 (stC1 (⟨t, Pure.z256⟩, .slice av t.length cv))) := heap_alloc_new _ _
      have B2 := hide (bel0 HB.out hb2)
      have SB := hide (set_built av t.length cv)
      rw [← stC1_new t] at SB
      have wn : Pure.z256.length = 256 := by unfold Pure.z256; rw [List.length_replicate]
      have sl : (stC1 (⟨t, Pure.z256⟩, .slice av t.length cv)).length = 257 := stC1_length wn
      have sz2 := B2.out.size
      have bb : B ≤ (wr.alloc (.cells (stC1 (⟨t, Pure.z256⟩, .slice av t.length cv)).toArray 175)).heap.size := Nat.le_trans BL sz2
      have gls := blk_lt F1.out.fb
      have gne : g ≠ wr.heap.size := by omega
      clear hb2
      go_upto_region 8 with (first | (refine wpList_build1 rfl 175 0 (.tmp 28) (.slice av t.length cv) rfl rfl _ SB.out ?_) | (refine wpList_bs1 rfl 128 175 (.tmp 29) (stC1 (⟨t, Pure.z256⟩, .slice av t.length cv)) rfl rfl is setZ 257 Try.underlying128 his hz0 hz1 setZ_length sl (by omega) (by omega) ?_) | (at_builtin; refine wpList_append_set rfl (.tmp 27) (.tmp 30) rfl B _ ts (by rw [← hlen]; rfl) F2.out.own wr.heap.size (⟨t, Pure.z256⟩, .slice av t.length cv) rfl BN.out (stC1_one rfl) wn (by omega) bb ?_; intro v4 w4 hown4 hgrow4; obtain ⟨a4, c4, rfl, _, _⟩ := own_fm hown4; have fb4 := row_far F2.out.own F2.out.fb (by decide) hgrow4; have k1 := blk_cell (j := 1) fb4 rfl; have kf1 := blk_frozen fb4 1; have FB4 := hide fb4; have HO4 := hide hown4; have HG4 := hide hgrow4; clear fb4 hown4 hgrow4 c1 f1))
      have l4 : (ts ++ [((⟨t, Pure.z256⟩ : Pure.St), Value.slice av t.length cv)]).length = ss.length + 1 := by simp [hlen]
      have g5 := Lib.grownBy_setCell w4 g 1 (.slice a4 (ts ++ [((⟨t, Pure.z256⟩ : Pure.St), Value.slice av t.length cv)]).length c4)
      have K4 := Sk.row F2.out.own bb HG4.out
      have K5 := K4.trans (.grown FB4.out F2.out.up (.inl rfl) g5)
      have FD5 : Hid (Fd B g ps (ss ++ [⟨t, Pure.z256⟩]) vp (.slice a4 (ts ++ [((⟨t, Pure.z256⟩ : Pure.St), Value.slice av t.length cv)]).length c4) (ts ++ [(⟨t, Pure.z256⟩, .slice av t.length cv)]) (w4.setCell ⟨g, 1, none⟩ (.slice a4 (ts ++ [((⟨t, Pure.z256⟩ : Pure.St), Value.slice av t.length cv)]).length c4))) := by
        refine ⟨blk_set FB4.out 1 _, F2.out.up, K5.plm F2.out.pl, row_apart HO4.out FB4.out (by decide) g5, by simp [F2.out.ss], fun q hq => ?_, fun q hq => ?_⟩
        · rcases List.mem_append.1 hq with h | h
          · exact K5.nats (F2.out.nx q h)
          · simp at h
            subst h
            exact K5.nats R2.out
        · rcases List.mem_append.1 hq with h | h
          · exact F2.out.ln q h
          · simp at h
            subst h
            exact wn
      have SK5 : Hid (Sk B w (w4.setCell ⟨g, 1, none⟩ (.slice a4 (ts ++ [((⟨t, Pure.z256⟩ : Pure.St), Value.slice av t.length cv)]).length c4))) := (Sk.below BL B2.out).trans K5
      rw [l4] at FD5 SK5
      clear g5 K4 K5 HO4 HG4 F2 R2 BN B2 SB F1 FB4
      generalize w4.setCell ⟨g, 1, none⟩ (.slice a4 (ss.length + 1) c4) = W5 at *
      have q1 := blk_cell (j := 1) FD5.out.fb rfl
      have ws : IntKind.i64.wrap ((ss.length : Int) + 1 - 1) = (ss.length : Int) := by rw [wrap_in _ (by omega) (by omega)]; omega
      clear k1 kf1
      go_wp2
      go_ret
      exact ⟨by rw [E1.out]; rfl, SK5.out, by rw [E2.out]; exact ⟨_, _, _, FD5.out⟩⟩

end Go.Proofs.Ytmccnmgaoppogaa

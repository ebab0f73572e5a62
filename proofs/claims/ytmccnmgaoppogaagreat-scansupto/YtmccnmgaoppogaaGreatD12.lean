/-
  The walks: the drawer's keepTokens. (weirlaw)
-/
import Derived.Test.YtmccnmgaoppogaaGreatDA
namespace Go.Proofs.YtmccnmgaoppogaaGreat
open Go.RowKit

theorem step_store_mid {P : Program} {w : World} {ops : Array Oper} {o : Oper} {a : Act} {K : Act → World → Prop} {Q : Exit → Act → World → Prop} {E : Prop} (hgd : o.guard = none) (ty : TypeId) (x y : Operand) (ho : o.op = .store ty x y)
    (b off : Nat) (cells : Array Value) (hx : a.eval x = .pointer (some ⟨b, off, none⟩)) (hy : a.eval y = .agg cells) (ht : w.there b off cells.size) (hi : (P.info? ty).map (·.size) = some cells.size) (h1 : cells.all (·.oneCell') = true)
    (h : K (a.put o.dst undef) (w.setCells b off cells.toList)) : if Region.wanted o (yielded ops a.tmps) = true then Oper.wp P o a w K Q else E := by
  have hw : Region.wanted o (yielded ops a.tmps) = true := by simp [Region.wanted, hgd]
  rw [if_pos hw]
  exact wp_store_mid ty x y ho b off cells hx hy ht hi h1 h

set_option maxRecDepth 100000 in
set_option maxHeartbeats 4000000 in
theorem keepTokens_any (Q : World → Prop) (gd : Nat) (ao : Option Addr) (len cap : Nat) (m : Int) (vts vnt : Value) (k k' : Nat) (xs ys : List Value) (w : World) (hQ : Lets gd ao vts vnt Q) (hm : 0 ≤ m ∧ m ≤ 1099511627776) (hcap : cap ≤ 9223372036854775807) (hk : k ≤ 1099511627776 ∧ k' ≤ 1099511627776)
    (h : KT Q gd ao cap 0 (.int .i64 (m + 1)) m vts vnt k k' xs ys w) :
    Calls Tryz.prog 42 #[.pointer (some ⟨gd, 0, none⟩), .slice ao len cap] w (RetKept Q gd ao cap (m + 1) (k + 1) (k' + 1) (xs ++ [.slice ao cap cap]) (ys ++ [.int .i64 (m + 1)]) vnt) := by
  obtain ⟨i3, hi3, h30, h31, h32⟩ := info_parts Tryz.info3
  obtain ⟨it, hit, ht0, ht1, ht2⟩ := info_parts Tryz.inft72
  have y1 := fun w => cut_all 72 74 5 Tryz.underlying72 size_token ao len cap h.t.nil w
  have H0 := hide (h.setD hQ 0 (.int .i64 (m + 1)) (m' := m + 1) rfl)
  have HQ := hide hQ
  have d0 := blk_cell (j := 0) h.d rfl
  have f0 := blk_frozen h.d 0
  clear h hQ
  go_enter Tryz.func42, Tryz.ntmps42
  go_wp2_with fail
  clear d0 f0 y1
  generalize w.setCell ⟨gd, 0, none⟩ (.int .i64 (m + 1)) = W0 at *
  go_loopg [5] cap (fun gk iv wr => ∃ i : Nat, i ≤ cap ∧ iv = .int .i64 i ∧ gk = cap - i ∧ KT Q gd ao cap i (.int .i64 (m + 1)) (m + 1) vts vnt k k' xs ys wr)
  case atStart => exact ⟨0, Nat.zero_le _, rfl, rfl, H0.out⟩
  case round =>
    clear H0
    obtain ⟨i, hi, rfl, rfl, hK⟩ := hrel
    have HK := hide hK
    by_cases hlt : i < cap
    · obtain ⟨g, old, rfl, hb, hl⟩ : ∃ g old, ao = some ⟨g, 0, none⟩ ∧ Blk wr g 74 (List.replicate (i * 5) (.int .i64 (m + 1)) ++ old) ∧ i * 5 + old.length = cap * 5 := by
        rcases hK.t with ⟨_, h2⟩ | h2
        · omega
        · exact h2
      have d0 := blk_cell (j := 0) hK.d rfl
      have TH : Hid (wr.drew.there g (i * 5) 5) := fun j hj => ⟨by
        have z : wr.cell? ⟨g, i * 5 + j, none⟩ = some _ := blk_cell hb (List.getElem?_eq_getElem (by simp; omega))
        show (wr.cell? ⟨g, i * 5 + j, none⟩).isSome = true
        rw [z]
        rfl, blk_frozen hb (i * 5 + j)⟩
      have ne1 : g ≠ gd := blk_ne' hb hK.d (by decide)
      have ne2 : gd ≠ g := fun e => ne1 e.symm
      have hlti : (i : Int) < (cap : Int) := by omega
      have K2 : Hid (KT Q gd (some ⟨g, 0, none⟩) cap (i + 1) (.int .i64 (m + 1)) (m + 1) vts vnt k k' xs ys (wr.drew.setCells g (i * 5) [(.int .i64 (m + 1)), (.int .i64 (m + 1)), (.int .i64 (m + 1)), (.int .i64 (m + 1)), (.int .i64 (m + 1))])) := (HK.out.below HQ.out (Below.refl _ _).drew).tok HQ.out hlt
      have S2 := hide (blk_cell (j := 0) K2.out.d rfl)
      clear hK hb hl
      go_wp2_with fail
      have S1 : wr.drew.cell? ⟨gd, 0, none⟩ = some (.int .i64 (m + 1)) := d0
      refine wp_region_held_drew (S := fun w' => w'.cell? ⟨gd, 0, none⟩ = some (.int .i64 (m + 1))) (by kernel_rfl) S1 (fun hHeld => ?_)
      refine wpAnyH_take (i := 0) (v := ?va0) rfl (by kernel_rfl) (by kernel_rfl) (by kernel_rfl) (fun _ _ _ h => h) (Or.inl ⟨by rfl, ?hya0⟩) (by assumption) ?resta0
      case hya0 => (intro w hSw; (try dsimp only at hSw); go_simp; try (with_reducible rfl))
      try simp only [Act.put, List.setIfInBounds_toArray]
      refine wpAnyH_take (i := 1) (v := ?va1) rfl (by kernel_rfl) (by kernel_rfl) (by kernel_rfl) (fun _ _ _ h => h) (Or.inl ⟨by rfl, ?hya1⟩) (by assumption) ?resta1
      case hya1 => (intro w hSw; (try dsimp only at hSw); go_simp; try (with_reducible rfl))
      try simp only [Act.put]
      refine wpAnyH_take (i := 2) (v := ?va2) rfl (by kernel_rfl) (by kernel_rfl) (by kernel_rfl) (fun _ _ _ h => h) (Or.inl ⟨by rfl, ?hya2⟩) (by assumption) ?resta2
      case hya2 => (intro w hSw; (try dsimp only at hSw); go_simp; try (with_reducible rfl))
      try simp only [Act.put]
      refine wpAnyH_take (i := 3) (v := ?va3) rfl (by kernel_rfl) (by kernel_rfl) (by kernel_rfl) (fun _ _ _ h => h) (Or.inl ⟨by rfl, ?hya3⟩) (by assumption) ?resta3
      case hya3 => (intro w hSw; (try dsimp only at hSw); go_simp; try (with_reducible rfl))
      try simp only [Act.put]
      refine wpAnyH_take (i := 4) (v := ?va4) rfl (by kernel_rfl) (by kernel_rfl) (by kernel_rfl) (fun _ _ _ h => h) (Or.inl ⟨by rfl, ?hya4⟩) (by assumption) ?resta4
      case hya4 => (intro w hSw; (try dsimp only at hSw); go_simp; try (with_reducible rfl))
      try simp only [Act.put]
      refine wpAnyH_take (i := 5) (v := ?va5) rfl (by kernel_rfl) (by kernel_rfl) (by kernel_rfl) (fun _ _ _ h => h) (Or.inl ⟨by rfl, ?hya5⟩) (by assumption) ?resta5
      case hya5 => (intro w hSw; (try dsimp only at hSw); go_simp; try (with_reducible rfl))
      try simp only [Act.put]
      refine wpAnyH_take (i := 6) (v := ?va6) rfl (by kernel_rfl) (by kernel_rfl) (by kernel_rfl) (fun _ _ _ h => h) (Or.inl ⟨by rfl, ?hya6⟩) (by assumption) ?resta6
      case hya6 => (intro w hSw; (try dsimp only at hSw); go_simp; try (with_reducible rfl))
      try simp only [Act.put]
      refine wpAnyH_take (i := 7) (v := ?va7) rfl (by kernel_rfl) (by kernel_rfl) (by kernel_rfl) (fun _ _ _ h => h) (Or.inl ⟨by rfl, ?hya7⟩) (by assumption) ?resta7
      case hya7 => (intro w hSw; (try dsimp only at hSw); go_simp; try (with_reducible rfl))
      try simp only [Act.put]
      refine wpAnyH_take (i := 8) (v := ?va8) rfl (by kernel_rfl) (by kernel_rfl) (by kernel_rfl) (fun _ _ _ h => h) (Or.inl ⟨by rfl, ?hya8⟩) (by assumption) ?resta8
      case hya8 => (intro w hSw; (try dsimp only at hSw); go_simp; try (with_reducible rfl))
      try simp only [Act.put]
      refine wpAnyH_take (i := 9) (v := ?va9) rfl (by kernel_rfl) (by kernel_rfl) (by kernel_rfl) (fun _ _ _ h => h) (Or.inl ⟨by rfl, ?hya9⟩) (by assumption) ?resta9
      case hya9 => (intro w hSw; (try dsimp only at hSw); go_simp; try (with_reducible rfl))
      try simp only [Act.put]
      refine wpAnyH_take (i := 10) (v := ?va10) rfl (by kernel_rfl) (by kernel_rfl) (by kernel_rfl) (fun _ _ _ h => h) (Or.inl ⟨by rfl, ?hya10⟩) (by assumption) ?resta10
      case hya10 => (intro w hSw; (try dsimp only at hSw); go_simp; try (with_reducible rfl))
      try simp only [Act.put]
      refine wpAnyH_take (i := 11) (v := ?va11) rfl (by kernel_rfl) (by kernel_rfl) (by kernel_rfl) (fun _ _ _ h => h) (Or.inl ⟨by rfl, ?hya11⟩) (by assumption) ?resta11
      case hya11 => (intro w hSw; (try dsimp only at hSw); go_simp; try (with_reducible rfl))
      try simp only [Act.put]
      refine wpAnyH_take (i := 12) (v := ?va12) rfl (by kernel_rfl) (by kernel_rfl) (by kernel_rfl) (fun _ _ _ h => h) (Or.inl ⟨by rfl, ?hya12⟩) (by assumption) ?resta12
      case hya12 => (intro w hSw; (try dsimp only at hSw); go_simp; try (with_reducible rfl))
      try simp only [Act.put]
      refine wpAnyH_take (i := 13) (v := ?va13) rfl (by kernel_rfl) (by kernel_rfl) (by kernel_rfl) (fun _ _ _ h => h) (Or.inl ⟨by rfl, ?hya13⟩) (by assumption) ?resta13
      case hya13 => (intro w hSw; (try dsimp only at hSw); go_simp; try (with_reducible rfl))
      try simp only [Act.put]
      refine wpAnyH_take (i := 14) (v := ?va14) rfl (by kernel_rfl) (by kernel_rfl) (by kernel_rfl) (fun _ _ _ h => h) (Or.inl ⟨by rfl, ?hya14⟩) (by assumption) ?resta14
      case hya14 => (intro w hSw; (try dsimp only at hSw); go_simp; try (with_reducible rfl))
      try simp only [Act.put]
      refine wpAnyH_take (i := 15) (v := ?va15) rfl (by kernel_rfl) (by kernel_rfl) (by kernel_rfl) (fun _ _ _ h => h) (Or.inl ⟨by rfl, ?hya15⟩) (by assumption) ?resta15
      case hya15 => (intro w hSw; (try dsimp only at hSw); go_simp; try (with_reducible rfl))
      try simp only [Act.put]
      refine wpAnyH_take (i := 16) (v := ?va16) rfl (by kernel_rfl) (by kernel_rfl) (by kernel_rfl) (fun _ _ _ h => h) (Or.inl ⟨by rfl, ?hya16⟩) (by assumption) ?resta16
      case hya16 => (intro w hSw; (try dsimp only at hSw); go_simp; try (with_reducible rfl))
      try simp only [Act.put]
      refine wpAnyH_take (i := 17) (v := ?va17) rfl (by kernel_rfl) (by kernel_rfl) (by kernel_rfl) (fun _ _ _ h => h) (Or.inl ⟨by rfl, ?hya17⟩) (by assumption) ?resta17
      case hya17 => (intro w hSw; (try dsimp only at hSw); go_simp; try (with_reducible rfl))
      try simp only [Act.put]
      refine wpAnyH_take (i := 18) (v := ?va18) rfl (by kernel_rfl) (by kernel_rfl) (by kernel_rfl) (fun _ _ _ h => h) (Or.inl ⟨by rfl, ?hya18⟩) (by assumption) ?resta18
      case hya18 => (intro w hSw; (try dsimp only at hSw); go_simp; try (with_reducible rfl))
      try simp only [Act.put]
      refine wpAnyH_take (i := 19) (v := ?va19) rfl (by kernel_rfl) (by kernel_rfl) (by kernel_rfl) (fun _ _ _ h => h) (Or.inl ⟨by rfl, ?hya19⟩) (by assumption) ?resta19
      case hya19 => (intro w hSw; (try dsimp only at hSw); go_simp; try (with_reducible rfl))
      try simp only [Act.put]
      refine wpAnyH_take (i := 20) (v := ?va20) rfl (by kernel_rfl) (by kernel_rfl) (by kernel_rfl) (fun _ _ _ h => h) (Or.inl ⟨by rfl, ?hya20⟩) (by assumption) ?resta20
      case hya20 => (intro w hSw; (try dsimp only at hSw); go_simp; try (with_reducible rfl))
      try simp only [Act.put]
      refine wpAnyH_take (i := 21) (v := ?va21) rfl (by kernel_rfl) (by kernel_rfl) (by kernel_rfl) (fun _ _ _ h => h) (Or.inl ⟨by rfl, ?hya21⟩) (by assumption) ?resta21
      case hya21 => (intro w hSw; (try dsimp only at hSw); go_simp; try (with_reducible rfl))
      try simp only [Act.put]
      refine wpAnyH_take (i := 22) (v := ?va22) rfl (by kernel_rfl) (by kernel_rfl) (by kernel_rfl) (fun _ _ _ h => h) (Or.inl ⟨by rfl, ?hya22⟩) (by assumption) ?resta22
      case hya22 => (intro w hSw; (try dsimp only at hSw); go_simp; try (with_reducible rfl))
      try simp only [Act.put]
      refine wpAnyH_take (i := 23) (v := ?va23) rfl (by kernel_rfl) (by kernel_rfl) (by kernel_rfl) (fun _ _ _ h => h) (Or.inl ⟨by rfl, ?hya23⟩) (by assumption) ?resta23
      case hya23 => (intro w hSw; (try dsimp only at hSw); go_simp; try (with_reducible rfl))
      try simp only [Act.put]
      try simp only [List.getElem_toArray, List.getElem_cons_succ, List.getElem_cons_zero, List.setIfInBounds_toArray, List.set_cons_zero, List.set_cons_succ]
      refine wpAnyH_ready (rs := [24]) (by kernel_rfl) (by simp) ?_
      refine AllReadyH.cons rfl (fun K hK => ?_) AllReadyH.nil
      refine step_store_mid rfl 74 (.tmp 46) (.tmp 45) rfl g (i * 5) #[(.int .i64 (m + 1)), (.int .i64 (m + 1)), (.int .i64 (m + 1)), (.int .i64 (m + 1)), (.int .i64 (m + 1))] rfl rfl TH.out size_token (by simp [Value.oneCell']) ?_
      refine hK.out _ _ S2.out (fun hHeld2 => ?_)
      clear hK K
      refine wpAnyH_done (by kernel_rfl) ?_ _
      clear S1 S2 hHeld hHeld2 d0 TH
      generalize wr.drew.setCells g (i * 5) #[(.int .i64 (m + 1)), (.int .i64 (m + 1)), (.int .i64 (m + 1)), (.int .i64 (m + 1)), (.int .i64 (m + 1))].toList = W5 at *
      go_wp2
      go_roundg (cap - (i + 1))
      case measure => omega
      case rel => exact ⟨i + 1, by omega, by go_num, rfl, K2.out⟩
    · have hin : i = cap := by omega
      subst hin
      have d4 := blk_cell (j := 4) hK.d rfl
      have d1 : decide ((i : Int) < (i : Int)) = false := decide_eq_false (by omega)
      have gl := blk_lt hK.d
      have ne1 : gd ≠ wr.heap.size := by omega
      have ne2 : wr.heap.size ≠ gd := by omega
      clear hK hlt hi
      go_upto_region 7 with (at_builtin; refine wpList_append_own _ rfl (.tmp 51) (.tmp 53) 30 rfl gd 72 it (.slice none 0 0) 1 24 Tryz.underlying30 hit ht0 ht1 ht2 rfl (by decide) vts k xs rfl (World.ownsRow.alloc HK.out.l _) ⟨wr.heap.size, 0, none⟩ 1 1 [.slice ao i i] rfl rfl (cell_list3 rfl) (by intro u hu; simp at hu; subst hu; rfl) (by unfold maxLen; omega) (by omega) (by simp; omega) ?_; intro v2 wa hown2 hgrow2 _; obtain ⟨aq, cq, rfl, h5, h6⟩ := own_form hown2; have k1 := (HK.out.below HQ.out ((Below.refl _ _).alloc (Nat.le_refl _) (.cells #[.slice ao i i] 72))); have b1 := far_blk k1.l k1.d (by decide) hgrow2; have c4 := blk_cell (j := 4) b1 rfl; have z4 := blk_frozen b1 4)
      have K2 := hide (k1.list HQ.out hgrow2 hown2)
      clear k1 b1 c4 z4 hown2 hgrow2 HK d4 d1 ne1 ne2 gl h5 h6
      generalize wa.setCell ⟨gd, 4, none⟩ (.slice aq (k + 1) cq) = W2 at *
      have d0 := blk_cell (j := 0) K2.out.d rfl
      have d8 := blk_cell (j := 8) K2.out.d rfl
      have gl2 := blk_lt K2.out.d
      have ne1 : gd ≠ W2.heap.size := by omega
      have ne2 : W2.heap.size ≠ gd := by omega
      have S1 : W2.drew.cell? ⟨gd, 0, none⟩ = some (.int .i64 (m + 1)) := d0
      refine wp_region_held_drew (S := fun w' => w'.cell? ⟨gd, 0, none⟩ = some (.int .i64 (m + 1))) (by kernel_rfl) S1 (fun hHeld => ?_)
      refine wpAnyH_take (i := 0) (v := ?vp0) rfl (by kernel_rfl) (by kernel_rfl) (by kernel_rfl) (fun _ _ _ h => h) (Or.inl ⟨by rfl, ?hyp0⟩) (by assumption) ?restp0
      case hyp0 => (intro w hSw; (try dsimp only at hSw); go_simp; try (with_reducible rfl))
      try simp only [Act.put, List.setIfInBounds_toArray]
      refine wpAnyH_take (i := 1) (v := ?vp1) rfl (by kernel_rfl) (by kernel_rfl) (by kernel_rfl) (fun _ _ _ h => h) (Or.inl ⟨by rfl, ?hyp1⟩) (by assumption) ?restp1
      case hyp1 => (intro w hSw; (try dsimp only at hSw); go_simp; try (with_reducible rfl))
      try simp only [Act.put]
      refine wpAnyH_take (i := 2) (v := ?vp2) rfl (by kernel_rfl) (by kernel_rfl) (by kernel_rfl) (fun _ _ _ h => h) (Or.inl ⟨by rfl, ?hyp2⟩) (by assumption) ?restp2
      case hyp2 => (intro w hSw; (try dsimp only at hSw); go_simp; try (with_reducible rfl))
      try simp only [Act.put]
      refine wpAnyH_take (i := 3) (v := ?vp3) rfl (by kernel_rfl) (by kernel_rfl) (by kernel_rfl) (fun _ _ _ h => h) (Or.inl ⟨by rfl, ?hyp3⟩) (by assumption) ?restp3
      case hyp3 => (intro w hSw; (try dsimp only at hSw); go_simp; try (with_reducible rfl))
      try simp only [Act.put]
      refine wpAnyH_take (i := 5) (v := ?vp5) rfl (by kernel_rfl) (by kernel_rfl) (by kernel_rfl) (fun _ _ _ h => h) (Or.inl ⟨by rfl, ?hyp5⟩) (by assumption) ?restp5
      case hyp5 => (intro w hSw; (try dsimp only at hSw); go_simp; try (with_reducible rfl))
      try simp only [Act.put]
      refine wpAnyH_take (i := 6) (v := ?vp6) rfl (by kernel_rfl) (by kernel_rfl) (by kernel_rfl) (fun _ _ _ h => h) (Or.inl ⟨by rfl, ?hyp6⟩) (by assumption) ?restp6
      case hyp6 => (intro w hSw; (try dsimp only at hSw); go_simp; try (with_reducible rfl))
      try simp only [Act.put]
      refine wpAnyH_take (i := 7) (v := ?vp7) rfl (by kernel_rfl) (by kernel_rfl) (by kernel_rfl) (fun _ _ _ h => h) (Or.inl ⟨by rfl, ?hyp7⟩) (by assumption) ?restp7
      case hyp7 => (intro w hSw; (try dsimp only at hSw); go_simp; try (with_reducible rfl))
      try simp only [Act.put]
      refine wpAnyH_take (i := 8) (v := ?vp8) rfl (by kernel_rfl) (by kernel_rfl) (by kernel_rfl) (fun _ _ _ h => h) (Or.inl ⟨by rfl, ?hyp8⟩) (by assumption) ?restp8
      case hyp8 => (intro w hSw; (try dsimp only at hSw); go_simp; try (with_reducible rfl))
      try simp only [Act.put]
      refine wpAnyH_ready (rs := [4, 9]) (by kernel_rfl) (by simp) ?_
      have K3 := hide (K2.out.below HQ.out (((Below.refl _ _).alloc (Nat.le_refl _) (.cells #[.int .i64 (m + 1)] 3)).drew))
      have S2 : (W2.alloc (.cells #[.int .i64 (m + 1)] 3)).drew.cell? ⟨gd, 0, none⟩ = some (.int .i64 (m + 1)) := blk_cell (j := 0) K3.out.d rfl
      refine AllReadyH.cons rfl (fun K hK => ?_) (AllReadyH.cons rfl (fun K hK => ?_) AllReadyH.nil)
      · go_simp
        refine hK.out _ _ hHeld (fun hHeld2 => ?_)
        clear hK K
        try simp only [Act.put, List.setIfInBounds_toArray]
        refine wpAnyH_ready (rs := [9]) (by kernel_rfl) (by simp) ?_
        refine AllReadyH.cons rfl (fun K hK => ?_) AllReadyH.nil
        go_simp
        refine hK.out _ _ S2 (fun hHeld3 => ?_)
        clear hK K
        try simp only [Act.put, List.setIfInBounds_toArray]
        refine wpAnyH_ready (rs := [10]) (by kernel_rfl) (by simp) ?_
        refine AllReadyH.cons rfl (fun K hK => ?_) AllReadyH.nil
        refine step_append_lies _ (by rfl) _ _ _ (by rfl) gd 3 i3 _ 1 8 Tryz.underlying31 hi3 h30 h31 h32 rfl (by omega) vnt k' ys (by rfl) K3.out.n ⟨W2.heap.size, 0, none⟩ 1 1 [.int .i64 (m + 1)] (by rfl) (by rfl) (World.news_of_block (cs := #[.int .i64 (m + 1)]) (t := 3) (fr := (0, 0)) (heap_alloc_new _ _)) (by simp [Value.oneCell']) (by omega) (by unfold maxLen; omega) (by omega) (by simp; omega) (W2.heap.size + 1) (by simp) ?_
        intro g2 cap2 w2 hown2 hgrow2 hat2 hlt2
        have HA := hide hat2
        clear hat2
        have mb2 := far_blk K3.out.n K3.out.d (by decide) hgrow2
        have mb3 := blk_set mb2 8 (.slice (some ⟨g2, 0, none⟩) (k' + 1) cap2)
        refine hK.out _ _ (blk_cell (j := 0) mb2 rfl) (fun hHeld4 => ?_)
        have k5 := blk_cell (j := 8) mb2 rfl
        have f5' := blk_frozen mb2 8
        clear hK K
        try simp only [Act.put, List.setIfInBounds_toArray]
        refine wpAnyH_take (i := 11) (v := ?vq11) rfl (by kernel_rfl) (by kernel_rfl) (by kernel_rfl) (fun _ _ _ h => h) (Or.inl ⟨by rfl, ?hyq11⟩) (by assumption) ?restq11
        case hyq11 => (intro w hSw; (try dsimp only at hSw); go_simp; try (with_reducible rfl))
        try simp only [Act.put]
        refine wpAnyH_take (i := 12) (v := ?vq12) rfl (by kernel_rfl) (by kernel_rfl) (by kernel_rfl) (fun _ _ _ h => h) (Or.inl ⟨by rfl, ?hyq12⟩) (by assumption) ?restq12
        case hyq12 => (intro w hSw; (try dsimp only at hSw); go_simp; try (with_reducible rfl))
        try simp only [Act.put]
        refine wpAnyH_ready (rs := [13]) (by kernel_rfl) (by simp) ?_
        refine AllReadyH.cons rfl (fun K hK => ?_) AllReadyH.nil
        go_simp
        refine hK.out _ _ (blk_cell (j := 0) mb3 rfl) (fun hHeld5 => ?_)
        clear hK K
        refine wpAnyH_done (by kernel_rfl) ?_ _
        have K4 := hide (K3.out.num HQ.out hgrow2 hown2)
        clear hHeld4 hHeld5 mb2 mb3 k5 f5' hown2 hgrow2 K3
        generalize w2.setCell ⟨gd, 8, none⟩ (.slice (some ⟨g2, 0, none⟩) (k' + 1) cap2) = W4 at *
        go_wp2
        go_end0
        refine ⟨rfl, _, _, K4.out, fun b hb => ?_⟩
        cases hb
        rcases HA.out with h | h
        · exact .inl h
        · exact .inr ⟨W2, K2.out.q, by show _ ≤ g2; omega⟩
      · have c5' := blk_cell (j := 8) K3.out.d rfl
        go_simp
        refine hK.out _ _ S2 (fun hHeld2 => ?_)
        clear hK K
        try simp only [Act.put, List.setIfInBounds_toArray]
        refine wpAnyH_ready (rs := [4]) (by kernel_rfl) (by simp) ?_
        refine AllReadyH.cons rfl (fun K hK => ?_) AllReadyH.nil
        go_simp
        refine hK.out _ _ S2 (fun hHeld3 => ?_)
        clear hK K
        try simp only [Act.put, List.setIfInBounds_toArray]
        refine wpAnyH_ready (rs := [10]) (by kernel_rfl) (by simp) ?_
        refine AllReadyH.cons rfl (fun K hK => ?_) AllReadyH.nil
        refine step_append_lies _ (by rfl) _ _ _ (by rfl) gd 3 i3 _ 1 8 Tryz.underlying31 hi3 h30 h31 h32 rfl (by omega) vnt k' ys (by rfl) K3.out.n ⟨W2.heap.size, 0, none⟩ 1 1 [.int .i64 (m + 1)] (by rfl) (by rfl) (World.news_of_block (cs := #[.int .i64 (m + 1)]) (t := 3) (fr := (0, 0)) (heap_alloc_new _ _)) (by simp [Value.oneCell']) (by omega) (by unfold maxLen; omega) (by omega) (by simp; omega) (W2.heap.size + 1) (by simp) ?_
        intro g2 cap2 w2 hown2 hgrow2 hat2 hlt2
        have HA := hide hat2
        clear hat2
        have mb2 := far_blk K3.out.n K3.out.d (by decide) hgrow2
        have mb3 := blk_set mb2 8 (.slice (some ⟨g2, 0, none⟩) (k' + 1) cap2)
        refine hK.out _ _ (blk_cell (j := 0) mb2 rfl) (fun hHeld4 => ?_)
        have k5 := blk_cell (j := 8) mb2 rfl
        have f5' := blk_frozen mb2 8
        clear hK K
        try simp only [Act.put, List.setIfInBounds_toArray]
        refine wpAnyH_take (i := 11) (v := ?vr11) rfl (by kernel_rfl) (by kernel_rfl) (by kernel_rfl) (fun _ _ _ h => h) (Or.inl ⟨by rfl, ?hyr11⟩) (by assumption) ?restr11
        case hyr11 => (intro w hSw; (try dsimp only at hSw); go_simp; try (with_reducible rfl))
        try simp only [Act.put]
        refine wpAnyH_take (i := 12) (v := ?vr12) rfl (by kernel_rfl) (by kernel_rfl) (by kernel_rfl) (fun _ _ _ h => h) (Or.inl ⟨by rfl, ?hyr12⟩) (by assumption) ?restr12
        case hyr12 => (intro w hSw; (try dsimp only at hSw); go_simp; try (with_reducible rfl))
        try simp only [Act.put]
        refine wpAnyH_ready (rs := [13]) (by kernel_rfl) (by simp) ?_
        refine AllReadyH.cons rfl (fun K hK => ?_) AllReadyH.nil
        go_simp
        refine hK.out _ _ (blk_cell (j := 0) mb3 rfl) (fun hHeld5 => ?_)
        clear hK K
        refine wpAnyH_done (by kernel_rfl) ?_ _
        have K4 := hide (K3.out.num HQ.out hgrow2 hown2)
        clear hHeld4 hHeld5 mb2 mb3 k5 f5' hown2 hgrow2 K3
        generalize w2.setCell ⟨gd, 8, none⟩ (.slice (some ⟨g2, 0, none⟩) (k' + 1) cap2) = W4 at *
        go_wp2
        go_end0
        refine ⟨rfl, _, _, K4.out, fun b hb => ?_⟩
        cases hb
        rcases HA.out with h | h
        · exact .inl h
        · exact .inr ⟨W2, K2.out.q, by show _ ≤ g2; omega⟩

end Go.Proofs.YtmccnmgaoppogaaGreat

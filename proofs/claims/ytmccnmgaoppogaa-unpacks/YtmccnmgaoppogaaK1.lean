/-
  The walks: what came out is written over by its owner. (weirlaw)
-/
import Derived.Test.YtmccnmgaoppogaaU1
import Derived.Test.YtmccnmgaoppogaaW15
import Derived.Deep.RegionLaw
import Derived.Deep.DeepCutAuto
namespace Go.Proofs.Ytmccnmgaoppogaa
open Go.RowKit

/-- a row of the caller's, whole: or none -/
def RowW (B : Nat) (W : World) (e size : Nat) (ao : Option Addr) (cap : Nat) : Prop := (ao = none ∧ cap = 0) ∨ ∃ g xs, ao = some ⟨g, 0, none⟩ ∧ Blk W g e xs ∧ xs.length = cap * size ∧ B ≤ g

theorem roww_of_own {B : Nat} {w : World} {e size n cap : Nat} {ao : Option Addr} {xs : List Value} (h : w.ownsRow B e size (.slice ao n cap) n xs) : RowW B w e size ao cap := by
  rcases h.2 with ⟨h', _⟩ | ⟨g, cap', cur, h', hb, hg, _, _, hs, _⟩
  · simp only [Value.slice.injEq] at h'
    exact .inl ⟨h'.1, h'.2.2⟩
  · simp only [Value.slice.injEq] at h'
    obtain ⟨rfl, -, rfl⟩ := h'
    exact .inr ⟨g, cur.toList, rfl, by unfold Blk; simpa using hg, by simpa using hs, hb⟩

theorem RowW.keep {B : Nat} {W W' : World} {e size cap : Nat} {ao : Option Addr} (h : RowW B W e size ao cap) (hk : ∀ g xs, Blk W g e xs → Blk W' g e xs) : RowW B W' e size ao cap := by
  rcases h with h | ⟨g, xs, h1, h2, h3, h4⟩
  · exact .inl h
  · exact .inr ⟨g, xs, h1, hk g xs h2, h3, h4⟩

theorem RowW.set {B : Nat} {W : World} {e size cap g : Nat} (h : RowW B W e size (some ⟨g, 0, none⟩) cap) (j : Nat) (u : Value) : RowW B (W.setCell ⟨g, j, none⟩ u) e size (some ⟨g, 0, none⟩) cap := by
  rcases h with ⟨h, _⟩ | ⟨g', xs, h1, h2, h3, h4⟩
  · cases h
  · simp only [Option.some.injEq, Addr.mk.injEq, and_true] at h1
    subst h1
    exact .inr ⟨g, _, rfl, blk_set h2 j u, by simpa using h3, h4⟩

theorem RowW.at' {B : Nat} {W : World} {e size cap : Nat} {ao : Option Addr} (h : RowW B W e size ao cap) {i : Nat} (hi : i < cap) : ∃ g xs, ao = some ⟨g, 0, none⟩ ∧ Blk W g e xs ∧ xs.length = cap * size ∧ B ≤ g := by
  rcases h with ⟨_, h⟩ | h
  · omega
  · exact h

structure KP (B : Nat) (w W : World) (bd : Nat) (D X : List Value) (ae ar ac : Option Addr) (ce cr cc : Nat) : Prop where
  d : Blk W bd 34 D
  box : Blk W w.heap.size 26 X
  rE : RowW B W 3 1 ae ce
  rR : RowW B W 66 3 ar cr
  rC : RowW B W 103 4 ac cc
  bel : Below B w W
  sz : B ≤ W.heap.size

section
variable {B : Nat} {w W W' : World} {bd : Nat} {D X : List Value} {ae ar ac : Option Addr} {ce cr cc : Nat}

theorem KP.grown (h : KP B w W bd D X ae ar ac ce cr cc) (hg : W.grownBy W' none) : KP B w W' bd D X ae ar ac ce cr cc := by
  have h1 := hg.size
  have h2 := h.sz
  exact ⟨blk_grown h.d hg (by simp), blk_grown h.box hg (by simp), h.rE.keep (fun _ _ hb => blk_grown hb hg (by simp)), h.rR.keep (fun _ _ hb => blk_grown hb hg (by simp)), h.rC.keep (fun _ _ hb => blk_grown hb hg (by simp)), h.bel.grown hg h2 (fun k hk => by cases hk), by omega⟩
theorem KP.alloc (h : KP B w W bd D X ae ar ac ce cr cc) (o : Obj) : KP B w (W.alloc o) bd D X ae ar ac ce cr cc := h.grown (World.grownBy_alloc W o none)
theorem KP.drew (h : KP B w W bd D X ae ar ac ce cr cc) : KP B w W.drew bd D X ae ar ac ce cr cc :=
  ⟨h.d, h.box, h.rE, h.rR, h.rC, h.bel.drew, h.sz⟩
theorem KP.setD (h : KP B w W bd D X ae ar ac ce cr cc) (hB : B ≤ bd) (j : Nat) (u : Value) : KP B w (W.setCell ⟨bd, j, none⟩ u) bd (D.set j u) X ae ar ac ce cr cc :=
  ⟨blk_set h.d j u, blk_other h.box (blk_ne h.box h.d (by decide)) _ _, h.rE.keep (fun _ _ hb => blk_other hb (blk_ne hb h.d (by decide)) _ _), h.rR.keep (fun _ _ hb => blk_other hb (blk_ne hb h.d (by decide)) _ _), h.rC.keep (fun _ _ hb => blk_other hb (blk_ne hb h.d (by decide)) _ _), h.bel.setCell hB u, by rw [sz_set]; exact h.sz⟩
theorem KP.setE {g : Nat} (h : KP B w W bd D X (some ⟨g, 0, none⟩) ar ac ce cr cc) (hc : 0 < ce) (j : Nat) (u : Value) : KP B w (W.setCell ⟨g, j, none⟩ u) bd D X (some ⟨g, 0, none⟩) ar ac ce cr cc := by
  obtain ⟨g', xs, e, hb, _, hg⟩ := h.rE.at' hc
  simp only [Option.some.injEq, Addr.mk.injEq, and_true] at e
  subst e
  exact ⟨blk_other h.d (blk_ne h.d hb (by decide)) _ _, blk_other h.box (blk_ne h.box hb (by decide)) _ _, h.rE.set j u, h.rR.keep (fun _ _ h' => blk_other h' (blk_ne h' hb (by decide)) _ _), h.rC.keep (fun _ _ h' => blk_other h' (blk_ne h' hb (by decide)) _ _), h.bel.setCell hg u, by rw [sz_set]; exact h.sz⟩
theorem KP.setR {g : Nat} (h : KP B w W bd D X ae (some ⟨g, 0, none⟩) ac ce cr cc) (hc : 0 < cr) (j : Nat) (u : Value) : KP B w (W.setCell ⟨g, j, none⟩ u) bd D X ae (some ⟨g, 0, none⟩) ac ce cr cc := by
  obtain ⟨g', xs, e, hb, _, hg⟩ := h.rR.at' hc
  simp only [Option.some.injEq, Addr.mk.injEq, and_true] at e
  subst e
  exact ⟨blk_other h.d (blk_ne h.d hb (by decide)) _ _, blk_other h.box (blk_ne h.box hb (by decide)) _ _, h.rE.keep (fun _ _ h' => blk_other h' (blk_ne h' hb (by decide)) _ _), h.rR.set j u, h.rC.keep (fun _ _ h' => blk_other h' (blk_ne h' hb (by decide)) _ _), h.bel.setCell hg u, by rw [sz_set]; exact h.sz⟩
theorem KP.setC {g : Nat} (h : KP B w W bd D X ae ar (some ⟨g, 0, none⟩) ce cr cc) (hc : 0 < cc) (j : Nat) (u : Value) : KP B w (W.setCell ⟨g, j, none⟩ u) bd D X ae ar (some ⟨g, 0, none⟩) ce cr cc := by
  obtain ⟨g', xs, e, hb, _, hg⟩ := h.rC.at' hc
  simp only [Option.some.injEq, Addr.mk.injEq, and_true] at e
  subst e
  exact ⟨blk_other h.d (blk_ne h.d hb (by decide)) _ _, blk_other h.box (blk_ne h.box hb (by decide)) _ _, h.rE.keep (fun _ _ h' => blk_other h' (blk_ne h' hb (by decide)) _ _), h.rR.keep (fun _ _ h' => blk_other h' (blk_ne h' hb (by decide)) _ _), h.rC.set j u, h.bel.setCell hg u, by rw [sz_set]; exact h.sz⟩
end

/-- a list cut to its room -/
theorem cut_room (t e size : Nat) (ht : Try.prog.underlying t = some (.slice e)) (hs : (Try.prog.info? e).map (·.size) = some size) (ao : Option Addr) (n c : Nat) (hn : ao = none → c = 0) (w : World) : (Instr.slice t (.slice ao n c) none (some (.int .i64 c)) none).run Try.prog w = .ok (.slice ao c c) w := by
  cases hq : Try.prog.info? e with
  | none => simp [hq] at hs
  | some i =>
    cases ao with
    | none =>
      have := hn rfl
      subst this
      simp [go_sem, ht, sizeOf, typeInfo, hq]
    | some a => simp [go_sem, ht, sizeOf, typeInfo, hq]

theorem RowW.nil_cap {B : Nat} {W : World} {e size cap : Nat} {ao : Option Addr} (h : RowW B W e size ao cap) : ao = none → cap = 0 := by
  rcases h with h | ⟨g, xs, h1, _⟩
  · exact fun _ => h.2
  · intro e; rw [h1] at e; cases e

theorem Try.infs22 : (Try.prog.info? 22).map (fun i => (i.zero, i.size, i.bytes)) = some (some (.slice none 0 0), 1, 24) := by kernel_rfl
theorem Try.infs23 : (Try.prog.info? 23).map (fun i => (i.zero, i.size, i.bytes)) = some (some (.slice none 0 0), 1, 24) := by kernel_rfl
theorem Try.infs24 : (Try.prog.info? 24).map (fun i => (i.zero, i.size, i.bytes)) = some (some (.slice none 0 0), 1, 24) := by kernel_rfl

set_option maxRecDepth 100000 in
set_option maxHeartbeats 4000000 in
theorem keepProgram_any (B bd : Nat) (ae ar ac : Option Addr) (ne nr nc ce cr cc : Nat) (w : World) (hd : Blk w bd 34 [.int .i64 0, .slice none 0 0, .slice none 0 0, .slice none 0 0, .slice none 0 0, .slice none 0 0, .slice none 0 0, .slice none 0 0, .slice none 0 0])
    (hB : B ≤ bd) (rE : RowW B w 3 1 ae ce) (rR : RowW B w 66 3 ar cr) (rC : RowW B w 103 4 ac cc) (he : ce ≤ 9223372036854775807) (hr : cr ≤ 9223372036854775807) (hc : cc ≤ 9223372036854775807) :
    Calls Try.prog 49 #[.pointer (some ⟨bd, 0, none⟩), .agg #[.slice ae ne ce, .slice ar nr cr, .slice ac nc cc]] w (RetNone B w) := by
  obtain ⟨i3, hi3, h30, h31, h32⟩ := info_parts Try.inff3
  obtain ⟨ie, hie, he0, he1, he2⟩ := info_parts Try.infs22
  obtain ⟨ir, hir, hr0, hr1, hr2⟩ := info_parts Try.infs23
  obtain ⟨ic, hic, hc0, hc1, hc2⟩ := info_parts Try.infs24
  have hbd := blk_lt hd
  have y1 := fun w => cut_room 22 3 1 Try.underlying22 Try.size3 ae ne ce rE.nil_cap w
  have y2 := fun w => cut_room 23 66 3 Try.underlying23 Try.size66 ar nr cr rR.nil_cap w
  have y3 := fun w => cut_room 24 103 4 Try.underlying24 Try.size103 ac nc cc rC.nil_cap w
  have hk : KP B w ((w.setCell ⟨bd, 0, none⟩ (.int .i64 1)).alloc (.cells #[.slice ae ne ce, .slice ar nr cr, .slice ac nc cc] 26)) bd [.int .i64 1, .slice none 0 0, .slice none 0 0, .slice none 0 0, .slice none 0 0, .slice none 0 0, .slice none 0 0, .slice none 0 0, .slice none 0 0] [.slice ae ne ce, .slice ar nr cr, .slice ac nc cc] ae ar ac ce cr cc := by
    refine ⟨blk_alloc (blk_set hd 0 _) _, ?_, rE.keep (fun _ _ h => blk_alloc (blk_other h (blk_ne h hd (by decide)) _ _) _), rR.keep (fun _ _ h => blk_alloc (blk_other h (blk_ne h hd (by decide)) _ _) _), rC.keep (fun _ _ h => blk_alloc (blk_other h (blk_ne h hd (by decide)) _ _) _), ((Below.refl _ _).setCell hB _).alloc (by rw [sz_set]; omega) _, by simp; omega⟩
    have := heap_alloc_new (w.setCell ⟨bd, 0, none⟩ (.int .i64 1)) (.cells #[.slice ae ne ce, .slice ar nr cr, .slice ac nc cc] 26)
    rw [sz_set] at this
    exact this
  have d0 := blk_cell (j := 0) hd rfl
  have z0 := blk_frozen hd 0
  clear hd rE rR rC
  have HK := hide hk
  clear hk
  have hne : bd ≠ w.heap.size := by omega
  go_enter Try.func49, Try.ntmps49
  go_wp2_with fail
  clear d0 z0
  generalize (w.setCell ⟨bd, 0, none⟩ (.int .i64 1)).alloc (.cells #[.slice ae ne ce, .slice ar nr cr, .slice ac nc cc] 26) = X1 at *
  go_loopw [5] (fun iv wr => ∃ i : Nat, i ≤ ce ∧ iv = .int .i64 i ∧ KP B w wr bd [.int .i64 1, .slice none 0 0, .slice none 0 0, .slice none 0 0, .slice none 0 0, .slice none 0 0, .slice none 0 0, .slice none 0 0, .slice none 0 0] [.slice ae ne ce, .slice ar nr cr, .slice ac nc cc] ae ar ac ce cr cc) (fun iv _ => ce - (intOf iv).toNat)
  case atStart => exact ⟨0, Nat.zero_le _, rfl, HK.out⟩
  case round =>
    clear HK
    obtain ⟨i, hi, rfl, hk⟩ := hrel
    have d0 := blk_cell (j := 0) hk.d rfl
    by_cases hlt : i < ce
    · obtain ⟨g, xs, rfl, hb, hxl, -⟩ := hk.rE.at' hlt
      obtain ⟨v0, hv0⟩ := blk_some hb (j := i) (by omega)
      have hf0 := blk_frozen hb (i)
      have hbg : g ≠ bd := blk_ne hb hk.d (by decide)
      have HK := hide hk
      clear hk hb hxl y1 y2 y3
      go_wp2
      go_roundw
      case rel => exact ⟨i + 1, by omega, by go_num, HK.out.setE (by omega) i _⟩
      case measure => simp [intOf]; omega
    · have d1 := blk_cell (j := 1) hk.d rfl
      have HK := hide hk
      clear hk
      go_upto_region 8 with (at_builtin; refine wpList_append_own _ rfl (.tmp 40) (.tmp 42) 29 rfl wr.heap.size 22 ie (.slice none 0 0) 1 24 Try.underlying29 hie he0 he1 he2 rfl (by decide) (.slice none 0 0) 0 [] rfl (World.ownsRow_nil _ _ _ _) ⟨wr.heap.size, 0, none⟩ 1 1 [.slice ae ce ce] rfl rfl (cell_list3 (by simp)) (by intro u hu; simp at hu; subst hu; rfl) (by unfold maxLen; omega) (by omega) (by simp) ?_; intro v1 w1 hown hgrow _; have k1 := (HK.out.alloc _).grown (by simpa [Value.ownBlock] using hgrow); have c1 := blk_cell (j := 1) k1.d rfl; have z1 := blk_frozen k1.d 1; obtain ⟨aq, cq, rfl, -⟩ := own_read hown)
      have k2 : KP B w (w1.setCell ⟨bd, 1, none⟩ (.slice aq 1 cq)) bd [.int .i64 1, .slice aq 1 cq, .slice none 0 0, .slice none 0 0, .slice none 0 0, .slice none 0 0, .slice none 0 0, .slice none 0 0, .slice none 0 0] [.slice ae ne ce, .slice ar nr cr, .slice ac nc cc] ae ar ac ce cr cc := k1.setD hB 1 (.slice aq 1 cq)
      clear k1 c1 z1 hown hgrow d0 d1 HK
      generalize w1.setCell ⟨bd, 1, none⟩ (.slice aq 1 cq) = x2 at *
      have e0 := blk_cell (j := 0) k2.d rfl
      have e5 := blk_cell (j := 5) k2.d rfl
      have HK2 := hide k2
      have hx2 := k2.sz
      clear k2
      have eA : ∀ o, ((x2.alloc o).drew).cell? ⟨bd, 5, none⟩ = some (.slice none 0 0) := fun o => blk_cell (j := 5) (HK2.out.alloc o).d rfl
      go_cut [4] (fun sv wx => sv = .slice ae ce ce ∧ ∃ q1 q5, KP B w wx bd [.int .i64 1, q1, .slice none 0 0, .slice none 0 0, .slice none 0 0, q5, .slice none 0 0, .slice none 0 0, .slice none 0 0] [.slice ae ne ce, .slice ar nr cr, .slice ac nc cc] ae ar ac ce cr cc)
      case first =>
        go_region_law (refine step_append_lies _ (by rfl) _ _ _ (by rfl) x2.heap.size 3 i3 _ 1 8 Try.underlying22 hi3 h30 h31 h32 rfl (by omega) (.slice none 0 0) 0 [] (by rfl) (World.ownsRow_nil _ _ _ _) ⟨x2.heap.size, 0, none⟩ 1 1 [.int .i64 1] (by rfl) (by rfl) (World.news_of_block (cs := #[.int .i64 1]) (t := 3) (fr := (0, 0)) (heap_alloc_new _ _)) (by simp [Value.oneCell']) (by omega) (by unfold maxLen; omega) (by omega) (by simp) (x2.heap.size + 1) (by simp) ?_; intro g2 cap2 w2 hown2 hgrow2 hat2 hlt2; have k3 := (HK2.out.alloc _).drew.grown (by simpa [Value.ownBlock] using hgrow2); have c3 := blk_cell (j := 5) k3.d rfl; have z3 := blk_frozen k3.d 5)
        all_goals
          go_wp2_with fail
          go_meet
          case rel => exact ⟨rfl, _, _, k3.setD hB 5 (.slice (some ⟨g2, 0, none⟩) 1 cap2)⟩
      case rest =>
        obtain ⟨rfl, q10, q50, hk⟩ := hcut
        clear HK2 e0 e5 eA hx2
        have b1 := blk_cell (j := 1) hk.box rfl
        have d0 := blk_cell (j := 0) hk.d rfl
        have z0 := blk_frozen hk.d 0
        have HK : Hid (KP B w (wc.setCell ⟨bd, 0, none⟩ (.int .i64 2)) bd [.int .i64 2, q10, .slice none 0 0, .slice none 0 0, .slice none 0 0, q50, .slice none 0 0, .slice none 0 0, .slice none 0 0] [.slice ae ne ce, .slice ar nr cr, .slice ac nc cc] ae ar ac ce cr cc) := hk.setD hB 0 (.int .i64 2)
        clear hk
        go_wp2_with fail
        clear b1 d0 z0
        generalize wc.setCell ⟨bd, 0, none⟩ (.int .i64 2) = X2 at *
        go_loopw [7] (fun iv wr => ∃ i : Nat, i ≤ cr ∧ iv = .int .i64 i ∧ KP B w wr bd [.int .i64 2, q10, .slice none 0 0, .slice none 0 0, .slice none 0 0, q50, .slice none 0 0, .slice none 0 0, .slice none 0 0] [.slice ae ne ce, .slice ar nr cr, .slice ac nc cc] ae ar ac ce cr cc) (fun iv _ => cr - (intOf iv).toNat)
        case atStart => exact ⟨0, Nat.zero_le _, rfl, HK.out⟩
        case round =>
          clear HK
          obtain ⟨i, hi, rfl, hk⟩ := hrel
          have d0 := blk_cell (j := 0) hk.d rfl
          by_cases hlt : i < cr
          · obtain ⟨g, xs, rfl, hb, hxl, -⟩ := hk.rR.at' hlt
            obtain ⟨v0, hv0⟩ := blk_some hb (j := i * 3) (by omega)
            have hf0 := blk_frozen hb (i * 3)
            obtain ⟨v1, hv1⟩ := blk_some hb (j := i * 3 + 1) (by omega)
            have hf1 := blk_frozen hb (i * 3 + 1)
            obtain ⟨v2, hv2⟩ := blk_some hb (j := i * 3 + 2) (by omega)
            have hf2 := blk_frozen hb (i * 3 + 2)
            have hbg : g ≠ bd := blk_ne hb hk.d (by decide)
            have HK := hide hk
            clear hk hb hxl y1 y2 y3
            go_wp2_with fail
            go_region
            all_goals
              go_wp2
              go_roundw
              case rel => exact ⟨i + 1, by omega, by go_num, (((HK.out.setR (by omega) (i * 3) (.int .i64 2)).setR (by omega) (i * 3 + 1) (.int .i64 2)).setR (by omega) (i * 3 + 2) (.int .i64 2)).drew⟩
              case measure => simp [intOf]; omega
          · have d1 := blk_cell (j := 2) hk.d rfl
            have HK := hide hk
            clear hk
            go_upto_region 16 with (at_builtin; refine wpList_append_own _ rfl (.tmp 98) (.tmp 100) 30 rfl wr.heap.size 23 ir (.slice none 0 0) 1 24 Try.underlying30 hir hr0 hr1 hr2 rfl (by decide) (.slice none 0 0) 0 [] rfl (World.ownsRow_nil _ _ _ _) ⟨wr.heap.size, 0, none⟩ 1 1 [.slice ar cr cr] rfl rfl (cell_list3 (by simp)) (by intro u hu; simp at hu; subst hu; rfl) (by unfold maxLen; omega) (by omega) (by simp) ?_; intro v1 w1 hown hgrow _; have k1 := (HK.out.alloc _).grown (by simpa [Value.ownBlock] using hgrow); have c1 := blk_cell (j := 2) k1.d rfl; have z1 := blk_frozen k1.d 2; obtain ⟨aq, cq, rfl, -⟩ := own_read hown)
            have k2 : KP B w (w1.setCell ⟨bd, 2, none⟩ (.slice aq 1 cq)) bd [.int .i64 2, q10, .slice aq 1 cq, .slice none 0 0, .slice none 0 0, q50, .slice none 0 0, .slice none 0 0, .slice none 0 0] [.slice ae ne ce, .slice ar nr cr, .slice ac nc cc] ae ar ac ce cr cc := k1.setD hB 2 (.slice aq 1 cq)
            clear k1 c1 z1 hown hgrow d0 d1 HK
            generalize w1.setCell ⟨bd, 2, none⟩ (.slice aq 1 cq) = x2 at *
            have e0 := blk_cell (j := 0) k2.d rfl
            have e5 := blk_cell (j := 6) k2.d rfl
            have HK2 := hide k2
            have hx2 := k2.sz
            clear k2
            have eA : ∀ o, ((x2.alloc o).drew).cell? ⟨bd, 6, none⟩ = some (.slice none 0 0) := fun o => blk_cell (j := 6) (HK2.out.alloc o).d rfl
            go_cut [6] (fun sv wx => sv = .slice ar cr cr ∧ ∃ q1 q5, KP B w wx bd [.int .i64 2, q10, q1, .slice none 0 0, .slice none 0 0, q50, q5, .slice none 0 0, .slice none 0 0] [.slice ae ne ce, .slice ar nr cr, .slice ac nc cc] ae ar ac ce cr cc)
            case first =>
              go_region_law (refine step_append_lies _ (by rfl) _ _ _ (by rfl) x2.heap.size 3 i3 _ 1 8 Try.underlying22 hi3 h30 h31 h32 rfl (by omega) (.slice none 0 0) 0 [] (by rfl) (World.ownsRow_nil _ _ _ _) ⟨x2.heap.size, 0, none⟩ 1 1 [.int .i64 2] (by rfl) (by rfl) (World.news_of_block (cs := #[.int .i64 2]) (t := 3) (fr := (0, 0)) (heap_alloc_new _ _)) (by simp [Value.oneCell']) (by omega) (by unfold maxLen; omega) (by omega) (by simp) (x2.heap.size + 1) (by simp) ?_; intro g2 cap2 w2 hown2 hgrow2 hat2 hlt2; have k3 := (HK2.out.alloc _).drew.grown (by simpa [Value.ownBlock] using hgrow2); have c3 := blk_cell (j := 6) k3.d rfl; have z3 := blk_frozen k3.d 6)
              all_goals
                go_wp2_with fail
                go_meet
                case rel => exact ⟨rfl, _, _, k3.setD hB 6 (.slice (some ⟨g2, 0, none⟩) 1 cap2)⟩
            case rest =>
              obtain ⟨rfl, q11, q51, hk⟩ := hcut
              clear HK2 e0 e5 eA hx2
              have b1 := blk_cell (j := 2) hk.box rfl
              have d0 := blk_cell (j := 0) hk.d rfl
              have z0 := blk_frozen hk.d 0
              have HK : Hid (KP B w (wc.setCell ⟨bd, 0, none⟩ (.int .i64 3)) bd [.int .i64 3, q10, q11, .slice none 0 0, .slice none 0 0, q50, q51, .slice none 0 0, .slice none 0 0] [.slice ae ne ce, .slice ar nr cr, .slice ac nc cc] ae ar ac ce cr cc) := hk.setD hB 0 (.int .i64 3)
              clear hk
              go_wp2_with fail
              clear b1 d0 z0
              generalize wc.setCell ⟨bd, 0, none⟩ (.int .i64 3) = X3 at *
              go_loopw [9] (fun iv wr => ∃ i : Nat, i ≤ cc ∧ iv = .int .i64 i ∧ KP B w wr bd [.int .i64 3, q10, q11, .slice none 0 0, .slice none 0 0, q50, q51, .slice none 0 0, .slice none 0 0] [.slice ae ne ce, .slice ar nr cr, .slice ac nc cc] ae ar ac ce cr cc) (fun iv _ => cc - (intOf iv).toNat)
              case atStart => exact ⟨0, Nat.zero_le _, rfl, HK.out⟩
              case round =>
                clear HK
                obtain ⟨i, hi, rfl, hk⟩ := hrel
                have d0 := blk_cell (j := 0) hk.d rfl
                by_cases hlt : i < cc
                · obtain ⟨g, xs, rfl, hb, hxl, -⟩ := hk.rC.at' hlt
                  obtain ⟨v0, hv0⟩ := blk_some hb (j := i * 4) (by omega)
                  have hf0 := blk_frozen hb (i * 4)
                  obtain ⟨v1, hv1⟩ := blk_some hb (j := i * 4 + 1) (by omega)
                  have hf1 := blk_frozen hb (i * 4 + 1)
                  obtain ⟨v2, hv2⟩ := blk_some hb (j := i * 4 + 2) (by omega)
                  have hf2 := blk_frozen hb (i * 4 + 2)
                  obtain ⟨v3, hv3⟩ := blk_some hb (j := i * 4 + 3) (by omega)
                  have hf3 := blk_frozen hb (i * 4 + 3)
                  have hbg : g ≠ bd := blk_ne hb hk.d (by decide)
                  have HK := hide hk
                  clear hk hb hxl y1 y2 y3
                  go_wp2_with fail
                  go_region
                  all_goals
                    go_wp2
                    go_roundw
                    case rel => exact ⟨i + 1, by omega, by go_num, ((((HK.out.setC (by omega) (i * 4) (.int .i64 3)).setC (by omega) (i * 4 + 1) (.int .i64 3)).setC (by omega) (i * 4 + 2) (.int .i64 3)).setC (by omega) (i * 4 + 3) (.int .i64 3)).drew⟩
                    case measure => simp [intOf]; omega
                · have d1 := blk_cell (j := 3) hk.d rfl
                  have HK := hide hk
                  clear hk
                  go_upto_region 24 with (at_builtin; refine wpList_append_own _ rfl (.tmp 160) (.tmp 162) 31 rfl wr.heap.size 24 ic (.slice none 0 0) 1 24 Try.underlying31 hic hc0 hc1 hc2 rfl (by decide) (.slice none 0 0) 0 [] rfl (World.ownsRow_nil _ _ _ _) ⟨wr.heap.size, 0, none⟩ 1 1 [.slice ac cc cc] rfl rfl (cell_list3 (by simp)) (by intro u hu; simp at hu; subst hu; rfl) (by unfold maxLen; omega) (by omega) (by simp) ?_; intro v1 w1 hown hgrow _; have k1 := (HK.out.alloc _).grown (by simpa [Value.ownBlock] using hgrow); have c1 := blk_cell (j := 3) k1.d rfl; have z1 := blk_frozen k1.d 3; obtain ⟨aq, cq, rfl, -⟩ := own_read hown)
                  have k2 : KP B w (w1.setCell ⟨bd, 3, none⟩ (.slice aq 1 cq)) bd [.int .i64 3, q10, q11, .slice aq 1 cq, .slice none 0 0, q50, q51, .slice none 0 0, .slice none 0 0] [.slice ae ne ce, .slice ar nr cr, .slice ac nc cc] ae ar ac ce cr cc := k1.setD hB 3 (.slice aq 1 cq)
                  clear k1 c1 z1 hown hgrow d0 d1 HK
                  generalize w1.setCell ⟨bd, 3, none⟩ (.slice aq 1 cq) = x2 at *
                  have e0 := blk_cell (j := 0) k2.d rfl
                  have e5 := blk_cell (j := 7) k2.d rfl
                  have HK2 := hide k2
                  have hx2 := k2.sz
                  clear k2
                  have eA : ∀ o, ((x2.alloc o).drew).cell? ⟨bd, 7, none⟩ = some (.slice none 0 0) := fun o => blk_cell (j := 7) (HK2.out.alloc o).d rfl
                  go_region_law (refine step_append_lies _ (by rfl) _ _ _ (by rfl) x2.heap.size 3 i3 _ 1 8 Try.underlying22 hi3 h30 h31 h32 rfl (by omega) (.slice none 0 0) 0 [] (by rfl) (World.ownsRow_nil _ _ _ _) ⟨x2.heap.size, 0, none⟩ 1 1 [.int .i64 3] (by rfl) (by rfl) (World.news_of_block (cs := #[.int .i64 3]) (t := 3) (fr := (0, 0)) (heap_alloc_new _ _)) (by simp [Value.oneCell']) (by omega) (by unfold maxLen; omega) (by omega) (by simp) (x2.heap.size + 1) (by simp) ?_; intro g2 cap2 w2 hown2 hgrow2 hat2 hlt2; have k3 := (HK2.out.alloc _).drew.grown (by simpa [Value.ownBlock] using hgrow2); have c3 := blk_cell (j := 7) k3.d rfl; have z3 := blk_frozen k3.d 7)
                  all_goals
                    have hbel := (k3.setD hB 7 (.slice (some ⟨g2, 0, none⟩) 1 cap2)).bel
                    clear k3 c3 z3 hown2 hgrow2 hat2 hlt2
                    go_wp2
                    go_end0
                    exact ⟨rfl, hbel⟩

end Go.Proofs.Ytmccnmgaoppogaa

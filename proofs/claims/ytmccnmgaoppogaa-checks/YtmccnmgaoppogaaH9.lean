/-
  The walks: the document's atoms. (weirref)
-/
import Derived.Test.YtmccnmgaoppogaaH8
namespace Go.Proofs.Ytmccnmgaoppogaa
open Go.RowKit

namespace Pure
def Nt.sz : Nt → Nat
  | .pcR a _ => a.size
  | .brR a _ => a.size
  | .paR a _ => a.size
  | _ => 0
def Nt.un : Nt → Nat
  | .pcR _ _ => 0
  | .brR _ _ => 0
  | .paR _ _ => 0
  | _ => 1
theorem P.size {s : ByteArray} {t : Nt} {i j : Nat} {a : Re} {D : Bool} (h : P s t i j a D) : a.size + 2 * i + t.un ≤ t.sz + 2 * j := by
  induction h with
  | any => simp [Re.size, Nt.sz, Nt.un]; omega
  | chr => simp [Re.size, Nt.sz, Nt.un]; omega
  | esc => simp [Re.size, Nt.sz, Nt.un]; omega
  | cls _ _ h => have := h.lt; simp [Re.size, Nt.sz, Nt.un]; omega
  | ncls _ _ h => have := h.lt; simp [Re.size, Nt.sz, Nt.un]; omega
  | grp _ _ _ ih => simp only [Nt.sz, Nt.un] at ih ⊢; omega
  | pcR0 => simp [Nt.sz, Nt.un]
  | star _ _ ih => simp only [Nt.sz, Nt.un, Re.size] at ih ⊢; omega
  | plus _ _ ih => simp only [Nt.sz, Nt.un, Re.size] at ih ⊢; omega
  | opt _ _ ih => simp only [Nt.sz, Nt.un, Re.size] at ih ⊢; omega
  | pc _ _ ih1 ih2 => simp only [Nt.sz, Nt.un] at ih1 ih2 ⊢; omega
  | brR0 => simp [Nt.sz, Nt.un]
  | brR _ _ _ ih1 ih2 => simp only [Nt.sz, Nt.un, Re.size] at ih1 ih2 ⊢; omega
  | br _ _ ih1 ih2 => simp only [Nt.sz, Nt.un] at ih1 ih2 ⊢; omega
  | paR0 => simp [Nt.sz, Nt.un]
  | paR _ _ _ ih1 ih2 => simp only [Nt.sz, Nt.un, Re.size] at ih1 ih2 ⊢; omega
  | pa _ _ ih1 ih2 => simp only [Nt.sz, Nt.un] at ih1 ih2 ⊢; omega
/-- what must stand behind -/
def Foll (s : ByteArray) : Nt → Nat → Prop
  | .pc, j => j < s.size
  | .br, j => pkb s j = 32 ∨ pkb s j = 124 ∨ pkb s j = 41
  | .pa, j => pkb s j = 32 ∨ pkb s j = 41
  | _, _ => True
end Pure

/-- what the document's readers do, wherever they stand at i -/
def DOK (f : Nat) (nt : Pure.Nt) (s : ByteArray) (i : Nat) : Prop :=
  ∀ (j : Nat) (re : Pure.Re) (D : Bool), Pure.P s nt i j re D → Pure.Foll s nt j → ∀ (B g : Nat) (ns : List Pure.Nd) (vn : Value) (al : Option Addr) (nl cl : Nat) (modes down : Int) (w : World), Dr B g s i ns vn (.slice al nl cl) modes down w → ns.length ≤ 2 * i →
    Calls Try.prog f #[.pointer (some ⟨g, 0, none⟩)] w (RetNd B g s j (ns.length + re.size - 1) (ns ++ Pure.nodes re ns.length) (.slice al nl cl) modes (Pure.upd nl D down) w)

theorem DC.fin {B g k : Nat} {s : ByteArray} {ns : List Pure.Nd} {vn vl : Value} {modes down : Int} {w : World} {gx : Nat} {T U : Nat → Bool} {W : World} (h : DC B g s k ns vn vl modes down w gx T W) (e : bitsL T = bitsL U) : W.rangeAt gx 0 (ndC1 ⟨1, 0, 0, U⟩) := by
  have := h.there
  unfold ndC1 at this ⊢
  simp only at this ⊢
  rw [e] at this
  exact this
theorem bits_ext {T U : Nat → Bool} (h : ∀ n, n < 256 → T n = U n) : bitsL T = bitsL U := by
  apply List.ext_getElem?
  intro i
  by_cases hi : i < 256
  · rw [bitsL_get _ hi, bitsL_get _ hi, h i hi]
  · rw [List.getElem?_eq_none (by rw [bitsL_length]; omega), List.getElem?_eq_none (by rw [bitsL_length]; omega)]

set_option maxRecDepth 100000 in
set_option maxHeartbeats 4000000 in
theorem done_any (s : ByteArray) (i : Nat) (PA : i < s.size → DOK 138 .pa s (i + 1)) (hs : s.size ≤ 400) : DOK 162 .atom s i := by
  intro j re D hP _ B g ns vn al nl cl modes down w h hl
  have BL := h.lt
  have zv := node_zeroV
  have SB := hide (node_built1 1)
  have sz := hP.size
  simp only [Pure.Nt.sz, Pure.Nt.un] at sz
  have i1 : i < s.size := by
    cases hP with
    | any h1 => exact Pure.pkb_lt (s := s) (i := i) (by rw [h1]; decide)
    | chr h1 _ _ _ _ => exact Pure.pkb_lt (s := s) (i := i) (fun e => h1 (by rw [e]; decide))
    | esc h1 _ => exact Pure.pkb_lt (s := s) (i := i) (by rw [h1]; decide)
    | cls h1 _ _ => exact Pure.pkb_lt (s := s) (i := i) (by rw [h1]; decide)
    | ncls h1 _ _ => exact Pure.pkb_lt (s := s) (i := i) (by rw [h1]; decide)
    | grp h1 _ _ => exact Pure.pkb_lt (s := s) (i := i) (by rw [h1]; decide)
  have x0 := fun w => idx_str s (i : Int) i rfl (by omega) w
  have j0 : (0 : Int) ≤ (i : Int) := by omega
  have j1 : (i : Int) < (s.size : Int) := by omega
  have wi : IntKind.i64.wrap ((i : Int) + 1) = (i : Int) + 1 := wrap_in _ (by omega) (by omega)
  have pb := Pure.pkb_bt i1
  rw [← pb] at x0
  have dn0 := below_drewN (Below.refl w.heap.size w)
  have c4 := blk_cell (j := 4) h.rb rfl
  have c5 := blk_cell (j := 5) h.rb rfl
  have H0 := hide h
  have PA := hide PA
  clear h
  cases hP with
  | any h46 =>
    rw [h46] at x0
    clear pb sz
    go_enter Try.func162, Try.ntmps162
    go_wp2_with fail
    go_quiet (fail)
    have dn := dn0 nq
    have H1 := hide (H0.out.below dn)
    have K1 : Hid (Dk B w (w.drewN nq)) := .below BL dn
    clear dn dn0 c4 c5 H0 x0
    generalize w.drewN nq = W1 at *
    have c5 := blk_cell (j := 5) H1.out.rb rfl
    have f5 := blk_frozen H1.out.rb 5
    have hg2 := Lib.grownBy_setCell W1 g 5 (.int .i64 ((i : Int) + 1))
    have H2 : Hid (Dr B g s (i + 1) ns vn (.slice al nl cl) modes down (W1.setCell ⟨g, 5, none⟩ (.int .i64 ((i : Int) + 1)))) := H1.out.moved hg2 (H1.out.rb.at (i + 1))
    have K2 := hide (K1.out.trans (H1.out.dk hg2))
    clear hg2
    have C3 := hide (DC.new H2.out K2.out BL)
    go_upto_region 12 with (fail)
    clear c5 f5 H1 K1 H2 K2
    generalize W1.setCell ⟨g, 5, none⟩ (.int .i64 ((i : Int) + 1)) = W2 at *
    go_wp2_with (first | (refine wpList_build1 rfl 192 0 (.const (.int .i64 1)) (.int .i64 1) rfl rfl _ SB.out ?_) | (refine wpList_store_mid rfl 192 (.tmp 4) (.tmp 56) rfl W2.heap.size 0 (ndC1 ⟨1, 0, 0, Pure.noneB⟩).toArray rfl rfl (ndZ_there _) (ndC1_sz _) (all_oneCell_toArray (ndC1_ones _)) ?_))
    clear zv SB
    generalize (W2.alloc (.cells ndZ.toArray 192)).setCells W2.heap.size 0 (ndC1 ⟨1, 0, 0, Pure.noneB⟩) = W3 at *
    generalize W2.heap.size = gx at *
    go_loopg [5] 256 (fun gk kv wx => ∃ c : Nat, c ≤ 256 ∧ gk = 256 - c ∧ kv = .int .i64 c ∧ DC B g s (i + 1) ns vn (.slice al nl cl) modes down w gx (midT Pure.noneB (Pure.notB (Pure.onlyB 10)) c) wx)
    case atStart => exact ⟨0, Nat.zero_le _, rfl, rfl, by rw [midT_zero]; exact C3.out⟩
    case round =>
      clear C3
      obtain ⟨c, cl2, rfl, rfl, hD⟩ := hrel
      have HD := hide hD
      clear hD
      by_cases hlt : c < 256
      · have d1 : decide ((c : Int) < 256) = true := decide_eq_true (by omega)
        have ic0 : (0 : Int) ≤ (c : Int) := by omega
        have ic1 : (c : Int) < 256 := by omega
        have wc : IntKind.i64.wrap ((c : Int) + 1) = (c : Int) + 1 := wrap_in _ (by omega) (by omega)
        have xc := blk_cell (j := 3 + c) HD.out.x (by
          rw [show 3 + c = c + 1 + 1 + 1 by omega]
          show (bitsL _)[c]? = _
          exact bitsL_get _ hlt)
        have fc := blk_frozen HD.out.x (3 + c)
        have e10 : ((c : Int) != 10) = Pure.notB (Pure.onlyB 10) c := rfl
        have D2 : Hid (DC B g s (i + 1) ns vn (.slice al nl cl) modes down w gx (midT Pure.noneB (Pure.notB (Pure.onlyB 10)) (c + 1)) (wr.setCell ⟨gx, 3 + c, none⟩ (.bool (Pure.notB (Pure.onlyB 10) c)))) := by
          have := HD.out.bit c (Pure.notB (Pure.onlyB 10) c)
          have e : (fun n => if n = c then Pure.notB (Pure.onlyB 10) c else midT Pure.noneB (Pure.notB (Pure.onlyB 10)) c n) = midT Pure.noneB (Pure.notB (Pure.onlyB 10)) (c + 1) := by
            funext n
            unfold midT
            by_cases e : n = c
            · subst e; simp
            · by_cases h2 : n < c
              · have h3 : n < c + 1 := by omega
                simp [e, h2, h3]
              · have h3 : ¬ n < c + 1 := by omega
                simp [e, h2, h3]
          rw [e] at this
          exact this
        generalize midT Pure.noneB (Pure.notB (Pure.onlyB 10)) c c = oldb at xc
        generalize Pure.notB (Pure.onlyB 10) c = nb at *
        go_wp2
        go_roundg (256 - (c + 1))
        case measure => omega
        case rel => exact ⟨c + 1, by omega, rfl, by go_num, D2.out⟩
      · have d1 : decide ((c : Int) < 256) = false := decide_eq_false (by omega)
        have e : c = 256 := by omega
        subst e
        have HX : Hid (wr.rangeAt gx 0 (ndC1 ⟨1, 0, 0, Pure.notB (Pure.onlyB 10)⟩)) := HD.out.fin (midT_end _ _)
        go_wp2_with (refine wpList_load_mid rfl 192 (.tmp 4) rfl gx 0 rfl (ndC1 ⟨1, 0, 0, Pure.notB (Pure.onlyB 10)⟩) _ HX.out Try.underlying192 rfl (by rw [ndC1_length]; exact node_size) ?_)
        refine (node_any B g (i + 1) s ns vn (.slice al nl cl) modes down ⟨1, 0, 0, Pure.notB (Pure.onlyB 10)⟩ wr HD.out.dr (by omega)).mono ?_
        rintro e w5 ⟨rfl, hk5, vn5, hd5⟩
        have K5 := hide (HD.out.dk.trans hk5)
        have D5 := hide hd5
        clear hk5 hd5 HX HD
        go_wp2
        go_ret
        exact ⟨rfl, K5.out, vn5, by rw [Pure.upd_false]; exact D5.out⟩
  | chr hb h92 h40 h91 h46 =>
    have e1 : (Pure.pkb s i == 40) = false := by simpa using h40
    have e2 : (Pure.pkb s i == 91) = false := by simpa using h91
    have e3 : (Pure.pkb s i == 46) = false := by simpa using h46
    have pbd := bt_bd s i
    rw [← pb] at pbd
    obtain ⟨m, hm⟩ : ∃ m : Nat, Pure.pkb s i = (m : Int) := ⟨(Pure.pkb s i).toNat, by omega⟩
    have SP := hide (fun w1 (h1 : Db w1 g s i vn (.slice al nl cl) modes down) => signed_pl g i s vn (.slice al nl cl) modes down w1 h1 (by omega) i1 h92)
    have mb : m < 256 := by omega
    rw [hm] at x0 e1 e2 e3 SP
    rw [hm]
    clear pb sz hb h92 h40 h91 h46 pbd hm
    go_enter Try.func162, Try.ntmps162
    go_wp2_with fail
    go_quiet (fail)
    have dn := dn0 nq
    have H1 := hide (H0.out.below dn)
    have K1 : Hid (Dk B w (w.drewN nq)) := .below BL dn
    clear dn dn0 c4 c5 H0 x0
    generalize w.drewN nq = W1 at *
    have C1 := hide (DC.new H1.out K1.out BL)
    go_upto_region 19 with (first | (refine wpList_build1 rfl 192 0 (.const (.int .i64 1)) (.int .i64 1) rfl rfl _ SB.out ?_) | (refine wpList_store_mid rfl 192 (.tmp 6) (.tmp 69) rfl W1.heap.size 0 (ndC1 ⟨1, 0, 0, Pure.noneB⟩).toArray rfl rfl (ndZ_there _) (ndC1_sz _) (all_oneCell_toArray (ndC1_ones _)) ?_))
    clear H1 K1 zv SB
    generalize (W1.alloc (.cells ndZ.toArray 192)).setCells W1.heap.size 0 (ndC1 ⟨1, 0, 0, Pure.noneB⟩) = W2 at *
    generalize W1.heap.size = gx at *
    have SG := hide (SP.out W2 C1.out.dr.rb)
    go_wp2_with fail
    refine SG.out.mono ?_
    clear SG
    rintro e w3 ⟨rfl, hg3, hr3⟩
    have C3 := hide (C1.out.moved hg3 hr3)
    clear hg3 hr3 C1
    have ic0 : (0 : Int) ≤ (m : Int) := by omega
    have ic1 : (m : Int) < 256 := by omega
    have xc := blk_cell (j := 3 + m) C3.out.x (by
      rw [show 3 + m = m + 1 + 1 + 1 by omega]
      show (bitsL _)[m]? = _
      exact bitsL_get _ (by omega))
    have fc := blk_frozen C3.out.x (3 + m)
    have C4 := hide (C3.out.bit m true)
    generalize Pure.noneB m = oldb at xc
    go_upto_region 21 with (fail)
    clear xc fc C3
    generalize w3.setCell ⟨gx, 3 + m, none⟩ (.bool true) = W4 at *
    have HX : Hid (W4.rangeAt gx 0 (ndC1 ⟨1, 0, 0, Pure.onlyB (m : Int)⟩)) := C4.out.fin (bits_ext (fun n _ => by
      unfold Pure.onlyB Pure.noneB
      by_cases e : n = m
      · subst e; simp
      · have : ¬ (n : Int) = (m : Int) := by omega
        simp [e, this]))
    go_wp2_with (refine wpList_load_mid rfl 192 (.tmp 6) rfl gx 0 rfl (ndC1 ⟨1, 0, 0, Pure.onlyB (m : Int)⟩) _ HX.out Try.underlying192 rfl (by rw [ndC1_length]; exact node_size) ?_)
    refine (node_any B g (i + 1) s ns vn (.slice al nl cl) modes down ⟨1, 0, 0, Pure.onlyB (m : Int)⟩ W4 C4.out.dr (by omega)).mono ?_
    rintro e w5 ⟨rfl, hk5, vn5, hd5⟩
    have K5 := hide (C4.out.dk.trans hk5)
    have D5 := hide hd5
    clear hk5 hd5 HX C4
    go_wp2
    go_ret
    exact ⟨rfl, K5.out, vn5, by rw [Pure.upd_false]; exact D5.out⟩
  | @esc _ v h92 hv =>
    have vb := (Pure.Sg.esc h92 hv).bd
    obtain ⟨m, hm⟩ : ∃ m : Nat, v = (m : Int) := ⟨v.toNat, by omega⟩
    subst hm
    rw [h92] at x0
    have SP := hide (fun w1 (h1 : Db w1 g s i vn (.slice al nl cl) modes down) => signed_any g i (i + 2) s vn (.slice al nl cl) modes down (m : Int) w1 h1 (by omega) (.esc h92 hv))
    clear pb sz h92 hv
    go_enter Try.func162, Try.ntmps162
    go_wp2_with fail
    go_quiet (fail)
    have dn := dn0 nq
    have H1 := hide (H0.out.below dn)
    have K1 : Hid (Dk B w (w.drewN nq)) := .below BL dn
    clear dn dn0 c4 c5 H0 x0
    generalize w.drewN nq = W1 at *
    have C1 := hide (DC.new H1.out K1.out BL)
    go_upto_region 19 with (first | (refine wpList_build1 rfl 192 0 (.const (.int .i64 1)) (.int .i64 1) rfl rfl _ SB.out ?_) | (refine wpList_store_mid rfl 192 (.tmp 6) (.tmp 69) rfl W1.heap.size 0 (ndC1 ⟨1, 0, 0, Pure.noneB⟩).toArray rfl rfl (ndZ_there _) (ndC1_sz _) (all_oneCell_toArray (ndC1_ones _)) ?_))
    clear H1 K1 zv SB
    generalize (W1.alloc (.cells ndZ.toArray 192)).setCells W1.heap.size 0 (ndC1 ⟨1, 0, 0, Pure.noneB⟩) = W2 at *
    generalize W1.heap.size = gx at *
    have SG := hide (SP.out W2 C1.out.dr.rb)
    go_wp2_with fail
    refine SG.out.mono ?_
    clear SG
    rintro e w3 ⟨rfl, hg3, hr3⟩
    have C3 := hide (C1.out.moved hg3 hr3)
    clear hg3 hr3 C1
    have ic0 : (0 : Int) ≤ (m : Int) := by omega
    have ic1 : (m : Int) < 256 := by omega
    have xc := blk_cell (j := 3 + m) C3.out.x (by
      rw [show 3 + m = m + 1 + 1 + 1 by omega]
      show (bitsL _)[m]? = _
      exact bitsL_get _ (by omega))
    have fc := blk_frozen C3.out.x (3 + m)
    have C4 := hide (C3.out.bit m true)
    generalize Pure.noneB m = oldb at xc
    go_upto_region 21 with (fail)
    clear xc fc C3
    generalize w3.setCell ⟨gx, 3 + m, none⟩ (.bool true) = W4 at *
    have HX : Hid (W4.rangeAt gx 0 (ndC1 ⟨1, 0, 0, Pure.onlyB (m : Int)⟩)) := C4.out.fin (bits_ext (fun n _ => by
      unfold Pure.onlyB Pure.noneB
      by_cases e : n = m
      · subst e; simp
      · have : ¬ (n : Int) = (m : Int) := by omega
        simp [e, this]))
    go_wp2_with (refine wpList_load_mid rfl 192 (.tmp 6) rfl gx 0 rfl (ndC1 ⟨1, 0, 0, Pure.onlyB (m : Int)⟩) _ HX.out Try.underlying192 rfl (by rw [ndC1_length]; exact node_size) ?_)
    refine (node_any B g (i + 2) s ns vn (.slice al nl cl) modes down ⟨1, 0, 0, Pure.onlyB (m : Int)⟩ W4 C4.out.dr (by omega)).mono ?_
    rintro e w5 ⟨rfl, hk5, vn5, hd5⟩
    have K5 := hide (C4.out.dk.trans hk5)
    have D5 := hide hd5
    clear hk5 hd5 HX C4
    go_wp2
    go_ret
    exact ⟨rfl, K5.out, vn5, by rw [Pure.upd_false]; exact D5.out⟩
  | @cls _ _ T _ h91 h94 hc =>
    rw [h91] at x0
    clear pb sz
    go_enter Try.func162, Try.ntmps162
    go_wp2_with fail
    go_quiet (fail)
    have dn := dn0 nq
    have H1 := hide (H0.out.below dn)
    have K1 : Hid (Dk B w (w.drewN nq)) := .below BL dn
    clear dn dn0 c4 c5 H0 x0
    generalize w.drewN nq = W1 at *
    have c5 := blk_cell (j := 5) H1.out.rb rfl
    have f5 := blk_frozen H1.out.rb 5
    have hg2 := Lib.grownBy_setCell W1 g 5 (.int .i64 ((i : Int) + 1))
    have H2 : Hid (Dr B g s (i + 1) ns vn (.slice al nl cl) modes down (W1.setCell ⟨g, 5, none⟩ (.int .i64 ((i : Int) + 1)))) := H1.out.moved hg2 (H1.out.rb.at (i + 1))
    have K2 := hide (K1.out.trans (H1.out.dk hg2))
    clear hg2
    go_wp2_with fail
    clear c5 f5 H1 K1 zv SB
    generalize W1.setCell ⟨g, 5, none⟩ (.int .i64 ((i : Int) + 1)) = W2 at *
    refine (dclass_any B g (i + 1) j s ns vn al nl cl modes down T D W2 false (by rw [decide_eq_false h94]) H2.out hs (by omega) (by rw [if_neg h94]; exact hc)).mono ?_
    rintro e w5 ⟨rfl, hk5, vn5, hd5⟩
    have K5 := hide (K2.out.trans hk5)
    have D5 := hide hd5
    clear hk5 hd5 H2 K2
    go_wp2
    go_ret
    exact ⟨rfl, K5.out, vn5, D5.out⟩
  | @ncls _ _ T _ h91 h94 hc =>
    rw [h91] at x0
    clear pb sz
    go_enter Try.func162, Try.ntmps162
    go_wp2_with fail
    go_quiet (fail)
    have dn := dn0 nq
    have H1 := hide (H0.out.below dn)
    have K1 : Hid (Dk B w (w.drewN nq)) := .below BL dn
    clear dn dn0 c4 c5 H0 x0
    generalize w.drewN nq = W1 at *
    have c5 := blk_cell (j := 5) H1.out.rb rfl
    have f5 := blk_frozen H1.out.rb 5
    have hg2 := Lib.grownBy_setCell W1 g 5 (.int .i64 ((i : Int) + 1))
    have H2 : Hid (Dr B g s (i + 1) ns vn (.slice al nl cl) modes down (W1.setCell ⟨g, 5, none⟩ (.int .i64 ((i : Int) + 1)))) := H1.out.moved hg2 (H1.out.rb.at (i + 1))
    have K2 := hide (K1.out.trans (H1.out.dk hg2))
    clear hg2
    go_wp2_with fail
    clear c5 f5 H1 K1 zv SB
    generalize W1.setCell ⟨g, 5, none⟩ (.int .i64 ((i : Int) + 1)) = W2 at *
    refine (dclass_any B g (i + 1) j s ns vn al nl cl modes down T D W2 true (by rw [decide_eq_true h94]) H2.out hs (by omega) (by rw [if_pos h94]; exact hc)).mono ?_
    rintro e w5 ⟨rfl, hk5, vn5, hd5⟩
    have K5 := hide (K2.out.trans hk5)
    have D5 := hide hd5
    clear hk5 hd5 H2 K2
    go_wp2
    go_ret
    exact ⟨rfl, K5.out, vn5, D5.out⟩
  | @grp _ j2 _ _ h40 hp h41 =>
    rw [h40] at x0
    have j2s : j2 < s.size := Pure.pkb_lt (s := s) (i := j2) (by rw [h41]; decide)
    have CALL := hide (fun w1 (h1 : Dr B g s (i + 1) ns vn (.slice al nl cl) modes down w1) => PA.out i1 j2 re D hp (.inr h41) B g ns vn al nl cl modes down w1 h1 (by omega))
    have wj : IntKind.i64.wrap ((j2 : Int) + 1) = (j2 : Int) + 1 := wrap_in _ (by omega) (by omega)
    clear pb sz h40 hp h41
    go_enter Try.func162, Try.ntmps162
    go_wp2_with fail
    go_quiet (fail)
    have dn := dn0 nq
    have H1 := hide (H0.out.below dn)
    have K1 : Hid (Dk B w (w.drewN nq)) := .below BL dn
    clear dn dn0 c4 c5 H0 x0
    generalize w.drewN nq = W1 at *
    have c5 := blk_cell (j := 5) H1.out.rb rfl
    have f5 := blk_frozen H1.out.rb 5
    have hg2 := Lib.grownBy_setCell W1 g 5 (.int .i64 ((i : Int) + 1))
    have H2 : Hid (Dr B g s (i + 1) ns vn (.slice al nl cl) modes down (W1.setCell ⟨g, 5, none⟩ (.int .i64 ((i : Int) + 1)))) := H1.out.moved hg2 (H1.out.rb.at (i + 1))
    have K2 := hide (K1.out.trans (H1.out.dk hg2))
    clear hg2
    go_wp2_with fail
    clear c5 f5 H1 K1 zv SB
    generalize W1.setCell ⟨g, 5, none⟩ (.int .i64 ((i : Int) + 1)) = W2 at *
    refine (CALL.out W2 H2.out).mono ?_
    rintro e w5 ⟨rfl, hk5, vn5, hd5⟩
    have K5 := hide (K2.out.trans hk5)
    have D5 := hide hd5
    clear hk5 hd5 H2 K2 CALL
    have c5 := blk_cell (j := 5) D5.out.rb rfl
    have f5 := blk_frozen D5.out.rb 5
    have hg6 := Lib.grownBy_setCell w5 g 5 (.int .i64 ((j2 : Int) + 1))
    have D6 : Hid (Dr B g s (j2 + 1) (ns ++ Pure.nodes re ns.length) vn5 (.slice al nl cl) modes (Pure.upd nl D down) (w5.setCell ⟨g, 5, none⟩ (.int .i64 ((j2 : Int) + 1)))) := D5.out.moved hg6 (D5.out.rb.at (j2 + 1))
    have K6 := hide (K5.out.trans (D5.out.dk hg6))
    clear hg6
    generalize hrn : ((ns.length + re.size - 1 : Nat) : Int) = rn at *
    have HRN := hide hrn
    clear hrn
    go_wp2
    go_ret
    exact ⟨by rw [HRN.out]; rfl, K6.out, vn5, D6.out⟩

end Go.Proofs.Ytmccnmgaoppogaa

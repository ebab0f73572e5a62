/-
  The walks: Back. (weirkeep)
-/
import Derived.Test.YtmccnmgaoppogaaB2
import Derived.Test.YtmccnmgaoppogaaB7b
import Derived.Test.YtmccnmgaoppogaaB7c
import Derived.Test.YtmccnmgaoppogaaB8
import Derived.Test.YtmccnmgaoppogaaB9
import Derived.Test.YtmccnmgaoppogaaW14
import Derived.Test.YtmccnmgaoppogaaR5
namespace Go.Proofs.Ytmccnmgaoppogaa
open Go.RowKit

/-- the program that was shaped lies in a block of Back's, and its lists with it -/
structure Kept (w W : World) (gp : Nat) (VE VR VC : Value) (p : Pure.Prg) : Prop where
  blk : Blk W gp 26 [VE, VR, VC]
  e : Ints W VE p.ents
  r : Rules W VR p.rules
  c : Code W VC p.code
  bel : Below w.heap.size w W
theorem Kept.on {w W W' : World} {gp : Nat} {VE VR VC : Value} {p : Pure.Prg} (k : Kept w W gp VE VR VC p) (h : Below W.heap.size W W') : Kept w W' gp VE VR VC p :=
  ⟨blk_below k.blk h (blk_lt k.blk), k.e.below h, k.r.below h, k.c.below h, bel0 k.bel h⟩
theorem Kept.alloc {w W : World} {gp : Nat} {VE VR VC : Value} {p : Pure.Prg} (k : Kept w W gp VE VR VC p) (o : Obj) : Kept w (W.alloc o) gp VE VR VC p :=
  k.on ((Below.refl _ _).alloc (Nat.le_refl _) o)

theorem bt_cut {s : ByteArray} {n k : Nat} (hk : k ≤ s.size) (hn : n < k) : bt (s.extract 0 k) n = bt s n := by
  have := bt_extract s 0 k n hk (by omega)
  rw [Nat.zero_add] at this
  exact this
theorem bt_app {s t : ByteArray} {n : Nat} (hn : n < s.size) : bt (s ++ t) n = bt s n := by
  unfold bt
  have e : (s ++ t).data.toList = s.data.toList ++ t.data.toList := by simp
  rw [e, List.getD_eq_getElem?_getD, List.getD_eq_getElem?_getD, List.getElem?_append_left (by simpa using hn)]
theorem bt_w (t : ByteArray) : bt ((⟨#[119]⟩ : ByteArray) ++ t) 0 = 119 := by
  unfold bt
  have e : ((⟨#[119]⟩ : ByteArray) ++ t).data.toList = 119 :: t.data.toList := by simp
  rw [e]
  rfl

theorem shaped_any (ve vr vc : Value) (r : Pure.Prg) (w : World) (hE : Ints w ve r.ents) (hR : Rules w vr r.rules) (hC : Code w vc r.code) (rE : IntsR r.ents) (rR : RulesR r.rules) (rC : InsR r.code) :
    Calls Try.prog 14 #[.agg #[ve, vr, vc]] w (RetShaped w) := by
  by_cases h0 : r.ents.length = 0
  · exact shaped_none ve vr vc r w hE hR hC rE rR rC h0
  by_cases h4 : 4 < r.ents.length
  · exact shaped_many ve vr vc r w hE hR hC rE rR rC h4
  · exact shaped_mid ve vr vc r w hE hR hC rE rR rC (by omega) (by omega)

set_option maxRecDepth 100000 in
set_option maxHeartbeats 4000000 in
theorem back_any (ve vr vc : Value) (r : Pure.Prg) (which : Int) (im : ByteArray) (w : World) (hE : Ints w ve r.ents) (hR : Rules w vr r.rules) (hC : Code w vc r.code) (rE : IntsR r.ents) (rR : RulesR r.rules) (rC : InsR r.code) (hw : Rng which) (him : im.size ≤ 9223372036854775807) :
    Calls Try.prog 5 #[.agg #[ve, vr, vc], .int .i64 which, .string im] w (RetT w) := by
  have P1 : Hid (∀ o, Calls Try.prog 14 #[.agg #[ve, vr, vc]] (w.alloc o) (RetShaped (w.alloc o))) := fun o => by
    have hb := (Below.refl w.heap.size w).alloc (Nat.le_refl _) o
    exact shaped_any ve vr vc r _ (hE.below hb) (hR.below hb) (hC.below hb) rE rR rC
  obtain ⟨ae, ce, rfl, he1, he2, -⟩ := hE.read
  obtain ⟨ar, cr, rfl, hr1, hr2, -⟩ := hR.read
  obtain ⟨ac, cc, rfl, hc1, hc2, -⟩ := hC.read
  clear hE hR hC rE rR rC
  go_enter Try.func5, Try.ntmps5
  go_wp2_with fail
  refine (P1.out _).mono ?_
  rintro e w1 ⟨p, hp, hlast, VE, VR, VC, rfl, hB1, oE, oR, oC⟩
  have hm := hp.1.1
  have hk := hp.2.1.1
  have hn := hp.2.2.1.1
  obtain ⟨gE, cE, rfl, hE1, hE2⟩ := own_some oE (by omega)
  obtain ⟨gR, cR, rfl, hR1, hR2⟩ := own_some oR (by omega)
  obtain ⟨gC, cC, rfl, hC1, hC2⟩ := own_some oC (by omega)
  have bel1 := bel1 (Below.refl _ _) hB1
  have K2 : Hid (Kept w (w1.alloc (.cells #[.slice (some ⟨gE, 0, none⟩) p.ents.length cE, .slice (some ⟨gR, 0, none⟩) p.rules.length cR, .slice (some ⟨gC, 0, none⟩) p.code.length cC] 26)) w1.heap.size (.slice (some ⟨gE, 0, none⟩) p.ents.length cE) (.slice (some ⟨gR, 0, none⟩) p.rules.length cR) (.slice (some ⟨gC, 0, none⟩) p.code.length cC) p) :=
    ⟨heap_alloc_new _ _, own_ints (World.ownsRow.alloc oE _) rfl, own_rules (World.ownsRow.alloc oR _) rfl, own_code (World.ownsRow.alloc oC _) rfl, bel1.alloc bel1.size _⟩
  have HP := hide (And.intro hp hlast)
  clear oE oR oC bel1 hB1 hp hlast P1
  go_wp2_with fail
  refine (copied_any _ _ _ p _ K2.out.e K2.out.r K2.out.c hm hk hn).mono ?_
  generalize w1.alloc (.cells #[.slice (some ⟨gE, 0, none⟩) p.ents.length cE, .slice (some ⟨gR, 0, none⟩) p.rules.length cR, .slice (some ⟨gC, 0, none⟩) p.code.length cC] 26) = W2 at *
  generalize w1.heap.size = gp at *
  rintro e w3 ⟨ve3, vr3, vc3, rfl, hB3, oE3, oR3, oC3⟩
  have K3 := hide (K2.out.on hB3)
  clear K2
  have IE := hide (And.intro (own_ints oE3 rfl) (And.intro (own_rules oR3 rfl) (own_code oC3 rfl)))
  clear oE3 oR3 oC3 hB3
  go_wp2_with fail
  refine (pack_any _ _ _ p _ IE.out.1 IE.out.2.1 IE.out.2.2).mono ?_
  rintro e w4 ⟨s, c, rfl, hB4, hs⟩
  have hs' : s = strOfNums (Pure.img p) ∧ c = 0 := by
    rcases hs with ⟨_, h1, h2⟩ | ⟨h0, _, _⟩
    · exact ⟨h1, h2⟩
    · exact absurd HP.out.1 h0
  have hc0 := hs'.2
  have hF : Form s ∧ prgOf s = p := by rw [hs'.1]; exact img_form HP.out.1
  subst hc0
  have hsz : 16 ≤ s.size := form_size hF.1 (by rw [hF.2]; exact HP.out.1)
  have hsz2 : s.size ≤ 1000000 := by
    have l1 : (prgOf s).ents.length = nE s := entsOf_len _ _ _
    have l2 : (prgOf s).rules.length = nR s := rulesOf_len _ _ _
    have l3 : (prgOf s).code.length = nC s := codeOf_len _ _ _
    rw [hF.2] at l1 l2 l3
    have := hF.1.2.2.2
    omega
  have HF := hide hF
  have K4 := hide (K3.out.on hB4)
  clear K3 IE hB4 hs hs' hF
  go_wp2_with fail
  refine (unpack_any s _ (by omega)).mono ?_
  rintro e w5 (⟨_, _, ve5, vr5, vc5, rfl, hB5, oE5, oR5, oC5⟩ | ⟨hno, _, _⟩)
  rotate_left
  · exact absurd ⟨HF.out.1, by rw [HF.out.2]; exact HP.out.1⟩ hno
  have l1 : (prgOf s).ents.length = nE s := entsOf_len _ _ _
  have l2 : (prgOf s).rules.length = nR s := rulesOf_len _ _ _
  have l3 : (prgOf s).code.length = nC s := codeOf_len _ _ _
  have IE := hide (And.intro (own_ints oE5 l1.symm) (And.intro (own_rules oR5 l2.symm) (own_code oC5 l3.symm)))
  rw [HF.out.2] at IE
  obtain ⟨ae5, ce5, rfl, -, -, -⟩ := own_read oE5
  obtain ⟨ar5, cr5, rfl, -, -, -⟩ := own_read oR5
  obtain ⟨ac5, cc5, rfl, -, -, -⟩ := own_read oC5
  have k5 := K4.out.on hB5
  have p0 := blk_cell (j := 0) k5.blk rfl
  have p1 := blk_cell (j := 1) k5.blk rfl
  have p2 := blk_cell (j := 2) k5.blk rfl
  have hlt5 := blk_lt k5.blk
  have hne5 : gp ≠ w5.heap.size := by omega
  have K5 := hide k5
  clear k5 K4 hB5 oE5 oR5 oC5 l1 l2 l3
  go_wp2_with fail
  have K6 := hide (K5.out.alloc (.cells #[.slice ae5 (nE s) ce5, .slice ar5 (nR s) cr5, .slice ac5 (nC s) cc5] 26))
  have B6 := hide ((Below.refl w5.heap.size w5).alloc (Nat.le_refl _) (.cells #[.slice ae5 (nE s) ce5, .slice ar5 (nR s) cr5, .slice ac5 (nC s) cc5] 26))
  refine (sameKeep_eq _ _ _ _ _ _ p _ K6.out.e K6.out.r K6.out.c (IE.out.1.below B6.out) (IE.out.2.1.below B6.out) (IE.out.2.2.below B6.out)).mono ?_
  generalize w5.alloc (.cells #[.slice ae5 (nE s) ce5, .slice ar5 (nR s) cr5, .slice ac5 (nC s) cc5] 26) = W5 at *
  clear p0 p1 p2 hlt5 hne5 K5 IE B6
  rintro e w6 ⟨rfl, hB6⟩
  have K7 := hide (K6.out.on hB6)
  clear K6 hB6
  have d0 : ((s.size : Int) == 0) = false := beq_eq_false_iff_ne.2 (by omega)
  have wN : IntKind.i64.wrap ((s.size : Int) - 1) = ((s.size - 1 : Nat) : Int) := by rw [wrap_in _ (by omega) (by omega)]; omega
  have i0 : ((s.size - 1 : Nat) : Int) ≤ (s.size : Int) := by omega
  go_wp2_with fail
  refine (unpack_any _ _ (by simp; omega)).mono ?_
  rintro e w8 (⟨hyes, _⟩ | ⟨_, rfl, hB8⟩)
  · exact absurd hyes (not_form HF.out.1 (fun n hn' => bt_cut (by omega) (by omega)) (by simp; omega))
  have K8 := hide ((K7.out.on hB8).alloc (.cells #[.slice none 0 0, .slice none 0 0, .slice none 0 0] 26))
  clear K7 hB8
  go_wp2_with fail
  generalize w8.alloc (.cells #[.slice none 0 0, .slice none 0 0, .slice none 0 0] 26) = W8 at *
  refine (unpack_any _ _ (by simp [ByteArray.size_append]; show s.size + 1 ≤ _; omega)).mono ?_
  rintro e w9 (⟨hyes, _⟩ | ⟨_, rfl, hB9⟩)
  · exact absurd hyes (not_form HF.out.1 (fun n hn' => bt_app (by omega)) (by simp [ByteArray.size_append]; decide))
  have K9 := hide ((K8.out.on hB9).alloc (.cells #[.slice none 0 0, .slice none 0 0, .slice none 0 0] 26))
  clear K8 hB9
  have i1 : (1 : Int) ≤ (s.size : Int) := by omega
  go_wp2_with fail
  generalize w9.alloc (.cells #[.slice none 0 0, .slice none 0 0, .slice none 0 0] 26) = W9 at *
  refine (unpack_any _ _ (by simp [ByteArray.size_append]; show 1 + (s.size - 1) ≤ _; omega)).mono ?_
  rintro e w10 (⟨hyes, _⟩ | ⟨_, rfl, hB10⟩)
  · exfalso
    have := hyes.2.1
    rw [bt_w] at this
    omega
  have k10 := K9.out.on hB10
  have p0 := blk_cell (j := 0) k10.blk rfl
  have p1 := blk_cell (j := 1) k10.blk rfl
  have p2 := blk_cell (j := 2) k10.blk rfl
  have hlt10 := blk_lt k10.blk
  have hne10 : gp ≠ w10.heap.size := by omega
  have K10 := hide (k10.alloc (.cells #[.slice none 0 0, .slice none 0 0, .slice none 0 0] 26))
  clear K9 hB10 k10
  go_wp2_with fail
  refine (spoilt_any _ _ _ p which _ K10.out.e K10.out.r K10.out.c hw hm hk hn HP.out.2).mono ?_
  generalize w10.alloc (.cells #[.slice none 0 0, .slice none 0 0, .slice none 0 0] 26) = W10 at *
  clear p0 p1 p2 hlt10 hne10
  rintro e w11 ⟨q, vE, vR, vC, hq, rfl, hB11, iE, iR, iC⟩
  obtain ⟨aE, cE', rfl, -, -, -⟩ := iE.read
  obtain ⟨aR, cR', rfl, -, -, -⟩ := iR.read
  obtain ⟨aC, cC', rfl, -, -, -⟩ := iC.read
  have BL := hide (bel0 K10.out.bel hB11)
  have BA := hide ((Below.refl w11.heap.size w11).alloc (Nat.le_refl _) (.cells #[.slice aE q.ents.length cE', .slice aR q.rules.length cR', .slice aC q.code.length cC'] 26))
  have IQ := hide (And.intro iE (And.intro iR iC))
  have HQ := hide hq
  clear K10 hB11 iE iR iC hq
  go_wp2_with fail
  refine (pack_any _ _ _ q _ (IQ.out.1.below BA.out) (IQ.out.2.1.below BA.out) (IQ.out.2.2.below BA.out)).mono ?_
  rintro e w12 ⟨t, d, rfl, hB12, ht⟩
  have ht' : t = ⟨#[]⟩ ∧ d = 1 := by
    rcases ht with ⟨h0, _, _⟩ | ⟨_, h1, h2⟩
    · exact absurd h0 HQ.out
    · exact ⟨h1, h2⟩
  obtain ⟨rfl, rfl⟩ := ht'
  have BM := hide (bel0 (bel0 BL.out BA.out) hB12)
  clear ht hB12 BL BA IQ HQ
  go_wp2_with fail
  refine (unpack_any im _ him).mono ?_
  rintro e w13 (⟨hFi, hRi, ve13, vr13, vc13, rfl, hB13, oE, oR, oC⟩ | ⟨_, rfl, hB13⟩)
  · have l1 : (prgOf im).ents.length = nE im := entsOf_len _ _ _
    have l2 : (prgOf im).rules.length = nR im := rulesOf_len _ _ _
    have l3 : (prgOf im).code.length = nC im := codeOf_len _ _ _
    have IE := hide (And.intro (own_ints oE l1.symm) (And.intro (own_rules oR l2.symm) (own_code oC l3.symm)))
    obtain ⟨ae5', ce5', rfl, -, -, -⟩ := own_read oE
    obtain ⟨ar5', cr5', rfl, -, -, -⟩ := own_read oR
    obtain ⟨ac5', cc5', rfl, -, -, -⟩ := own_read oC
    have BN := hide (bel0 BM.out hB13)
    have BA := hide ((Below.refl w13.heap.size w13).alloc (Nat.le_refl _) (.cells #[.slice ae5' (nE im) ce5', .slice ar5' (nR im) cr5', .slice ac5' (nC im) cc5'] 26))
    have HFi := hide (And.intro hFi hRi)
    clear oE oR oC hB13 l1 l2 l3 BM hFi hRi
    go_wp2_with fail
    refine (pack_any _ _ _ (prgOf im) _ (IE.out.1.below BA.out) (IE.out.2.1.below BA.out) (IE.out.2.2.below BA.out)).mono ?_
    rintro e w14 ⟨u, d, rfl, hB14, hu⟩
    have hu' : u = im ∧ d = 0 := by
      rcases hu with ⟨_, h1, h2⟩ | ⟨h0, _, _⟩
      · exact ⟨h1.trans (form_img HFi.out.1), h2⟩
      · exact absurd HFi.out.2 h0
    obtain ⟨rfl, rfl⟩ := hu'
    have BO := hide (bel0 (bel0 BN.out BA.out) hB14)
    clear hu hB14 IE BN BA HFi
    go_wp2
    go_ret
    exact ⟨rfl, BO.out⟩
  · have BN := hide ((bel0 BM.out hB13).alloc (bel0 BM.out hB13).size (.cells #[.slice none 0 0, .slice none 0 0, .slice none 0 0] 26))
    clear hB13 BM
    go_wp2
    go_ret
    exact ⟨rfl, BN.out⟩

end Go.Proofs.Ytmccnmgaoppogaa

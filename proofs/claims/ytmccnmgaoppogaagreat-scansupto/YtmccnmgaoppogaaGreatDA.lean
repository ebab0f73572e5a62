/-
  The walks: the document's Start. (weirref)
  The program's scanners once more: their lists of entries stay where they are.
  What a scanner keeps while others work. The walks: num, sameTokens, a gauge's state. (weirlaw)
  What is carried through the drawer's keepTokens. (weirlaw)
-/
import Derived.Test.YtmccnmgaoppogaaGreatD7
import Derived.Test.YtmccnmgaoppogaaGreatU2
namespace Go.Proofs.YtmccnmgaoppogaaGreat
open Go.RowKit

/-- what the document's Start gives -/
def RetStartR (s : ByteArray) (most depth : Int) (w : World) (e : Ending) (w' : World) : Prop :=
  (StartOK s most depth ∧ ∃ g, e = .returned (.tuple #[.pointer (some ⟨g, 0, none⟩), .int .i64 0]) ∧ w.heap.size ≤ g ∧ Below w.heap.size w w' ∧ Ds (Own w.heap.size g) w' g (env0 (prgOf s) most depth) (cfg0 (prgOf s))) ∨
  (¬ (Form s ∧ Pure.RightP (prgOf s)) ∧ e = .returned (.tuple #[.pointer none, .int .i64 2]) ∧ Below w.heap.size w w') ∨
  ((Form s ∧ Pure.RightP (prgOf s)) ∧ ¬ ((1 ≤ most ∧ most ≤ 64) ∧ (0 ≤ depth ∧ depth ≤ 8)) ∧ e = .returned (.tuple #[.pointer none, .int .i64 3]) ∧ Below w.heap.size w w')

theorem runs0 (p : Pure.Prg) (most depth : Int) : Pure.Runs (env0 p most depth) (cfg0 p) (cfg0 p) :=
  ⟨.refl _, by unfold Pure.mic; rw [if_pos (.inr (by show ((0 : Nat) : Int) ≤ 0; omega))]⟩

set_option maxRecDepth 100000 in
set_option maxHeartbeats 2000000 in
theorem refStart_any (s : ByteArray) (most depth : Int) (w : World) (hs : s.size ≤ 9223372036854775807) (_rm : Rng most) (_rd : Rng depth) :
    Calls Tryz.prog 36 #[.string s, .int .i64 most, .int .i64 depth] w (RetStartR s most depth w) := by
  go_enter Tryz.func36, Tryz.ntmps36
  go_wp2_with fail
  refine (refUnpack_any s _ hs).mono ?_
  rintro e w1 (⟨hF, hP, ve, vr, vc, rfl, hB1, he, hr, hc⟩ | ⟨hF, rfl, hB1⟩)
  rotate_left
  · have HF := hide hF
    have HB := hide hB1
    clear hF hB1
    go_wp2
    go_ret2
    exact .inr (.inl ⟨HF.out, rfl, HB.out.alloc HB.out.size _⟩)
  · have l1 : (prgOf s).ents.length = nE s := entsOf_len _ _ _
    have l2 : (prgOf s).rules.length = nR s := rulesOf_len _ _ _
    have l3 : (prgOf s).code.length = nC s := codeOf_len _ _ _
    rw [← l1] at he
    rw [← l2] at hr
    rw [← l3] at hc
    have hn1 := hP.1.1
    have hn2 := hP.2.1.1
    have hn3 := hP.2.2.1.1
    obtain ⟨ge, ce, rfl, e1, e2⟩ := own_some he (by omega)
    obtain ⟨gr, cr, rfl, r1, r2⟩ := own_some hr (by omega)
    obtain ⟨gc, cc, rfl, c1, c2⟩ := own_some hc (by omega)
    have OW := hide (own_base he)
    have HL : Hid (Lists w1 (prgOf s) _ _ _) := ⟨own_mono he (Nat.zero_le _), own_mono hr (Nat.zero_le _), own_mono hc (Nat.zero_le _)⟩
    have HFP := hide (And.intro hF hP)
    have HB := hide hB1
    clear he hr hc hF hP hB1 l1 l2 l3
    by_cases m1 : most < 1
    · have d1 : decide (most < 1) = true := decide_eq_true m1
      go_wp2
      go_ret2
      exact .inr (.inr ⟨HFP.out, fun h => by omega, rfl, HB.out.alloc HB.out.size _⟩)
    by_cases m2 : 64 < most
    · have d1 : decide (most < 1) = false := decide_eq_false m1
      have d2 : decide (64 < most) = true := decide_eq_true m2
      go_wp2
      go_ret2
      exact .inr (.inr ⟨HFP.out, fun h => by omega, rfl, HB.out.alloc HB.out.size _⟩)
    by_cases m3 : depth < 0
    · have d1 : decide (most < 1) = false := decide_eq_false m1
      have d2 : decide (64 < most) = false := decide_eq_false m2
      have d3 : decide (depth < 0) = true := decide_eq_true m3
      go_wp2
      go_ret2
      exact .inr (.inr ⟨HFP.out, fun h => by omega, rfl, HB.out.alloc HB.out.size _⟩)
    by_cases m4 : 8 < depth
    · have d1 : decide (most < 1) = false := decide_eq_false m1
      have d2 : decide (64 < most) = false := decide_eq_false m2
      have d3 : decide (depth < 0) = false := decide_eq_false m3
      have d4 : decide (8 < depth) = true := decide_eq_true m4
      go_wp2
      go_ret2
      exact .inr (.inr ⟨HFP.out, fun h => by omega, rfl, HB.out.alloc HB.out.size _⟩)
    have d1 : decide (most < 1) = false := decide_eq_false m1
    have d2 : decide (64 < most) = false := decide_eq_false m2
    have d3 : decide (depth < 0) = false := decide_eq_false m3
    have d4 : decide (8 < depth) = false := decide_eq_false m4
    have HM : Hid ((1 ≤ most ∧ most ≤ 64) ∧ (0 ≤ depth ∧ depth ≤ 8)) := ⟨⟨by omega, by omega⟩, ⟨by omega, by omega⟩⟩
    clear m1 m2 m3 m4
    go_wp2
    go_ret2
    obtain ⟨f, hf⟩ := good0 HFP.out.2 HM.out.1 HM.out.2
    refine .inl ⟨⟨HFP.out, HM.out⟩, w1.heap.size + 1, rfl, by have := HB.out.size; omega, (HB.out.alloc HB.out.size _).alloc (by have := HB.out.size; simp; omega) _, ⟨_, _, _, f, fun x hx => by cases hx; have := OW.out; exact ⟨this.1, Nat.lt_succ_of_lt this.2⟩, ?_, (HL.out.below ((Below.refl _ _).alloc (Nat.le_refl _) _)).below ((Below.refl _ _).alloc (Nat.le_refl _) _), hf, runs0 _ _ _⟩⟩
    have z := heap_alloc_new (w1.alloc (.cells #[.slice (some ⟨ge, 0, none⟩) (prgOf s).ents.length ce, .slice (some ⟨gr, 0, none⟩) (prgOf s).rules.length cr, .slice (some ⟨gc, 0, none⟩) (prgOf s).code.length cc] 43)) (.cells #[.slice (some ⟨ge, 0, none⟩) (prgOf s).ents.length ce, .slice (some ⟨gr, 0, none⟩) (prgOf s).rules.length cr, .slice (some ⟨gc, 0, none⟩) (prgOf s).code.length cc, .pointer none, .int .i64 most, .int .i64 depth, .string ⟨#[]⟩, .bool false, .int .i64 0, .int .i64 0, .int .i64 0, .int .i64 1, .int .i64 1, .int .i64 0, .int .i64 0, .int .i64 0, .int .i64 0] 133)
    rw [World.size_alloc] at z
    exact z

end Go.Proofs.YtmccnmgaoppogaaGreat

namespace Go.Proofs.YtmccnmgaoppogaaGreat
open Go.RowKit

def ScP (P : Value → Prop) (w : World) (g : Nat) (E : Pure.Env) (D : Pure.Cfg) : Prop := ∃ f ve vr vc vh b, P ve ∧ (D.err = 0 → b = E.ended) ∧ Scn w g { E with ended := b } D f ve vr vc vh
theorem ScP.sc {P : Value → Prop} {w : World} {g : Nat} {E : Pure.Env} {D : Pure.Cfg} (h : ScP P w g E D) : Sc w g E D := by
  obtain ⟨f, ve, vr, vc, vh, b, _, h1, h2⟩ := h
  exact ⟨f, ve, vr, vc, vh, b, h1, h2⟩

def RetFedP (P : Value → Prop) (g : Nat) (E : Pure.Env) (C : Pure.Cfg) (w : World) (e : Ending) (w' : World) : Prop :=
  ∃ D T vt, Pure.Runs E C D ∧ D.toks = C.toks ++ T ∧ e = .returned (.tuple #[vt, .int .i64 D.err]) ∧ w'.ownsRow w.heap.size 74 5 vt T.length (tokCells T) ∧ ScP P w' g E D ∧ w.grownBy w' (some g)

set_option maxRecDepth 100000 in
set_option maxHeartbeats 1000000 in
theorem runFeed_anyP (P : Value → Prop) (g : Nat) (E : Pure.Env) (C : Pure.Cfg) (chunk : ByteArray) (w : World) (h : ScP P w g E C) (hE : E.ended = false) (hs : E.s.size + chunk.size ≤ 1099511627776) :
    Calls Tryz.prog 72 #[.pointer (some ⟨g, 0, none⟩), .string chunk] w (RetFedP P g (E.on chunk false) C w) := by
  obtain ⟨f, ve, vr, vc, vh, b, hP, hb, hS⟩ := h
  have HP := hide hP
  clear hP
  have HC := hide (closed_any g _ ve vr vc vh C C.err w hS.m)
  by_cases he : C.err = 0
  · have hb' := (hb he).trans hE
    subst hb'
    have hsz := hS.sta.within
    have hp := hS.sta.pos
    have hlk := hS.sta.looked
    obtain ⟨ah, ch, rfl, hh1, hh2⟩ := hS.h.form
    have c24 := hS.m.cell (j := 24) rfl
    have CV := back_str w _ _ hS.h
    have eH : heldOf { E with ended := false } C = E.s.extract C.pos.toNat E.s.size := by unfold heldOf; rw [if_neg (by omega)]
    rw [eH] at CV c24 hh1
    have EJ : Hid (E.s.extract C.pos.toNat E.s.size ++ chunk = (E.on chunk false).s.extract C.pos.toNat (E.on chunk false).s.size) := join_rest E.s chunk C.pos.toNat (by simp at hsz; omega)
    have AD : Hid (Calls Tryz.prog 104 #[.pointer (some ⟨g, 0, none⟩), .string (E.s.extract C.pos.toNat E.s.size ++ chunk)] w (RetAdv f g (E.on chunk false) ve vr vc C w)) := by
      show Calls _ _ _ _ _
      rw [EJ.out]
      have m1 := hS.m
      rw [he] at m1
      exact advance_any f g (E.on chunk false) ve vr vc _ C w (hS.good.on chunk false) (hS.sta.on chunk false) he (by rw [Pure.on_size]; exact hs) (m1.env rfl rfl rfl rfl)
    have e0 : shut false C.err = 0 := by simp [shut, he]
    rw [e0] at HC
    have hcat : (E.s.extract C.pos.toNat E.s.size).size + chunk.size ≤ 1099511627776 := by simp; omega
    clear hS hb hE EJ eH hsz hp hlk hh1 hh2
    generalize E.s.extract C.pos.toNat E.s.size = hd at *
    go_enter Tryz.func72, Tryz.ntmps72
    go_wp2_with fail
    refine HC.out.mono ?_
    rintro e w1 ⟨rfl, rfl⟩
    clear HC
    go_wp2_with fail
    refine AD.out.mono ?_
    rintro e w2 ⟨D, T, vt, vh', hr, ht, rfl, ho, hS, hg⟩
    have FIN : Hid (RetFedP P g (E.on chunk false) C w1 (.returned (.tuple #[vt, .int .i64 D.err])) w2) := ⟨D, T, vt, hr, ht, rfl, ho, ⟨f, ve, vr, vc, vh', false, HP.out, fun _ => rfl, hS⟩, hg⟩
    clear AD hr ht ho hS hg
    go_wp2
    go_ret2
    exact FIN.out
  · have e0 : shut b C.err = C.err := by simp [shut, he]
    have e1 : (C.err != 0) = true := by simpa using he
    have SC : Hid (ScP P w g (E.on chunk false) C) := by
      refine ⟨f, ve, vr, vc, vh, b, HP.out, fun h0 => absurd h0 he, hS.m.env rfl rfl rfl rfl, ?_, hS.good.on chunk b, hS.sta.on chunk b⟩
      have := hS.h
      unfold heldOf at this ⊢
      rw [if_pos he] at this ⊢
      exact this
    rw [e0] at HC
    clear hS hb
    go_enter Tryz.func72, Tryz.ntmps72
    go_wp2_with fail
    refine HC.out.mono ?_
    rintro e w1 ⟨rfl, rfl⟩
    clear HC
    go_wp2
    go_ret2
    exact ⟨C, [], _, ⟨.refl _, Pure.mic_err he⟩, by simp, rfl, World.ownsRow_nil _ _ _ _, SC.out, World.grownBy.refl _ _⟩

set_option maxRecDepth 100000 in
set_option maxHeartbeats 1000000 in
theorem runFinish_anyP (P : Value → Prop) (g : Nat) (E : Pure.Env) (C : Pure.Cfg) (w : World) (h : ScP P w g E C) (hE : E.ended = false) (hs : E.s.size ≤ 1099511627776) :
    Calls Tryz.prog 74 #[.pointer (some ⟨g, 0, none⟩)] w (RetFedP P g (E.on noBytes true) C w) := by
  obtain ⟨f, ve, vr, vc, vh, b, hP, hb, hS⟩ := h
  have HP := hide hP
  clear hP
  have HC := hide (closed_any g _ ve vr vc vh C C.err w hS.m)
  by_cases he : C.err = 0
  · have hb' := (hb he).trans hE
    subst hb'
    have hsz := hS.sta.within
    have hp := hS.sta.pos
    have hlk := hS.sta.looked
    obtain ⟨ah, ch, rfl, hh1, hh2⟩ := hS.h.form
    have m1 := hS.m
    rw [he] at m1
    have m2 := m1.set 25 (.bool true) (E.on noBytes true) rfl (D := C) (fault' := 0) rfl
    have G1 := hide (Lib.grownBy_setCell w g 25 (.bool true))
    have hB2 := hS.h.on m1.blk (by decide) G1.out
    have c25 := hS.m.cell (j := 25) rfl
    have f25 := hS.m.frozen 25
    have c24 := m2.cell (j := 24) rfl
    have CV := back_str _ _ _ hB2
    have eH : heldOf { E with ended := false } C = E.s.extract C.pos.toNat E.s.size := by unfold heldOf; rw [if_neg (by omega)]
    rw [eH] at CV c24 hh1
    have EJ : Hid (E.s.extract C.pos.toNat E.s.size = (E.on noBytes true).s.extract C.pos.toNat (E.on noBytes true).s.size) := by
      have := join_rest E.s noBytes C.pos.toNat (by simp at hsz; omega)
      show _ = _
      rw [show (E.on noBytes true).s = E.s ++ noBytes from rfl, ← this]
      apply ByteArray.ext
      simp [noBytes]
    have AD : Hid (Calls Tryz.prog 104 #[.pointer (some ⟨g, 0, none⟩), .string (E.s.extract C.pos.toNat E.s.size)] (w.setCell ⟨g, 25, none⟩ (.bool true)) (RetAdv f g (E.on noBytes true) ve vr vc C (w.setCell ⟨g, 25, none⟩ (.bool true)))) := by
      show Calls _ _ _ _ _
      rw [EJ.out]
      exact advance_any f g (E.on noBytes true) ve vr vc _ C _ (hS.good.on noBytes true) (hS.sta.on noBytes true) he (by rw [Pure.on_size]; exact hs) m2
    have e0 : shut false C.err = 0 := by simp [shut, he]
    rw [e0] at HC
    have SZ : Hid ((w.setCell ⟨g, 25, none⟩ (.bool true)).heap.size = w.heap.size) := by show _ = _; simp [World.setCell]
    clear hS hb hE EJ eH hsz hp hlk hh1 hh2 m1 m2 hB2
    generalize E.s.extract C.pos.toNat E.s.size = hd at *
    go_enter Tryz.func74, Tryz.ntmps74
    go_wp2_with fail
    refine HC.out.mono ?_
    rintro e w1 ⟨rfl, rfl⟩
    clear HC
    go_wp2_with fail
    refine AD.out.mono ?_
    rintro e w2 ⟨D, T, vt, vh', hr, ht, rfl, ho, hS, hg⟩
    rw [SZ.out] at ho
    have FIN : Hid (RetFedP P g (E.on noBytes true) C w1 (.returned (.tuple #[vt, .int .i64 D.err])) w2) := ⟨D, T, vt, hr, ht, rfl, ho, ⟨f, ve, vr, vc, vh', true, HP.out, fun _ => rfl, hS⟩, Lib.grownBy_trans G1.out hg⟩
    clear AD hr ht ho hS hg
    go_wp2
    go_ret2
    exact FIN.out
  · have e0 : shut b C.err = C.err := by simp [shut, he]
    have e1 : (C.err != 0) = true := by simpa using he
    have SC : Hid (ScP P w g (E.on noBytes true) C) := by
      refine ⟨f, ve, vr, vc, vh, b, HP.out, fun h0 => absurd h0 he, hS.m.env rfl rfl rfl rfl, ?_, hS.good.on noBytes b, hS.sta.on noBytes b⟩
      have := hS.h
      unfold heldOf at this ⊢
      rw [if_pos he] at this ⊢
      exact this
    rw [e0] at HC
    clear hS hb
    go_enter Tryz.func74, Tryz.ntmps74
    go_wp2_with fail
    refine HC.out.mono ?_
    rintro e w1 ⟨rfl, rfl⟩
    clear HC
    go_wp2
    go_ret2
    exact ⟨C, [], _, ⟨.refl _, Pure.mic_err he⟩, by simp, rfl, World.ownsRow_nil _ _ _ _, SC.out, World.grownBy.refl _ _⟩

set_option maxHeartbeats 1000000 in
theorem feed_anyP (P : Value → Prop) (g : Nat) (E : Pure.Env) (C : Pure.Cfg) (chunk : ByteArray) (w : World) (h : ScP P w g E C) (hE : E.ended = false) (hs : E.s.size + chunk.size ≤ 1099511627776) :
    Calls Tryz.prog 37 #[.pointer (some ⟨g, 0, none⟩), .string chunk] w (RetFedP P g (E.on chunk false) C w) := by
  have H := hide (runFeed_anyP P g E C chunk w h hE hs)
  clear h hE hs
  go_enter Tryz.func37, Tryz.ntmps37
  go_wp2_with fail
  refine H.out.mono ?_
  rintro e w2 ⟨D, T, vt, hr, ht, rfl, ho, hS, hg⟩
  have FIN : Hid (RetFedP P g (E.on chunk false) C w (.returned (.tuple #[vt, .int .i64 D.err])) w2) := ⟨D, T, vt, hr, ht, rfl, ho, hS, hg⟩
  clear H hr ht ho hS hg
  go_wp2
  go_ret2
  exact FIN.out

set_option maxHeartbeats 1000000 in
theorem finish_anyP (P : Value → Prop) (g : Nat) (E : Pure.Env) (C : Pure.Cfg) (w : World) (h : ScP P w g E C) (hE : E.ended = false) (hs : E.s.size ≤ 1099511627776) :
    Calls Tryz.prog 39 #[.pointer (some ⟨g, 0, none⟩)] w (RetFedP P g (E.on noBytes true) C w) := by
  have H := hide (runFinish_anyP P g E C w h hE hs)
  clear h hE hs
  go_enter Tryz.func39, Tryz.ntmps39
  go_wp2_with fail
  refine H.out.mono ?_
  rintro e w2 ⟨D, T, vt, hr, ht, rfl, ho, hS, hg⟩
  have FIN : Hid (RetFedP P g (E.on noBytes true) C w (.returned (.tuple #[vt, .int .i64 D.err])) w2) := ⟨D, T, vt, hr, ht, rfl, ho, hS, hg⟩
  clear H hr ht ho hS hg
  go_wp2
  go_ret2
  exact FIN.out

/-- what Start gives -/
def RetStartP (s : ByteArray) (most depth : Int) (w : World) (e : Ending) (w' : World) : Prop :=
  (StartOK s most depth ∧ ∃ g, e = .returned (.tuple #[.pointer (some ⟨g, 0, none⟩), .int .i64 0]) ∧ w.heap.size ≤ g ∧ Below w.heap.size w w' ∧ ScP (Own w.heap.size g) w' g (env0 (prgOf s) most depth) (cfg0 (prgOf s))) ∨
  (¬ (Form s ∧ Pure.RightP (prgOf s)) ∧ e = .returned (.tuple #[.pointer none, .int .i64 2]) ∧ Below w.heap.size w w') ∨
  ((Form s ∧ Pure.RightP (prgOf s)) ∧ ¬ ((1 ≤ most ∧ most ≤ 64) ∧ (0 ≤ depth ∧ depth ≤ 8)) ∧ e = .returned (.tuple #[.pointer none, .int .i64 3]) ∧ Below w.heap.size w w')

set_option maxRecDepth 100000 in
set_option maxHeartbeats 2000000 in
theorem start_anyP (s : ByteArray) (most depth : Int) (w : World) (hs : s.size ≤ 9223372036854775807) (_rm : Rng most) (_rd : Rng depth) :
    Calls Tryz.prog 34 #[.string s, .int .i64 most, .int .i64 depth] w (RetStartP s most depth w) := by
  go_enter Tryz.func34, Tryz.ntmps34
  go_wp2_with fail
  refine (unpack_any s _ hs).mono ?_
  rintro e w1 (⟨hF, hP, ve, vr, vc, rfl, hB1, he, hr, hc⟩ | ⟨hF, rfl, hB1⟩)
  rotate_left
  · have HF := hide hF
    have HB := hide hB1
    clear hF hB1
    go_wp2
    go_ret2
    exact .inr (.inl ⟨HF.out, rfl, HB.out.alloc HB.out.size _⟩)
  · have l1 : (prgOf s).ents.length = nE s := entsOf_len _ _ _
    have l2 : (prgOf s).rules.length = nR s := rulesOf_len _ _ _
    have l3 : (prgOf s).code.length = nC s := codeOf_len _ _ _
    rw [← l1] at he
    rw [← l2] at hr
    rw [← l3] at hc
    have hn1 := hP.1.1
    have hn2 := hP.2.1.1
    have hn3 := hP.2.2.1.1
    obtain ⟨ge, ce, rfl, e1, e2⟩ := own_some he (by omega)
    obtain ⟨gr, cr, rfl, r1, r2⟩ := own_some hr (by omega)
    obtain ⟨gc, cc, rfl, c1, c2⟩ := own_some hc (by omega)
    have OW := hide (own_base he)
    have HL : Hid (Lists w1 (prgOf s) _ _ _) := ⟨own_mono he (Nat.zero_le _), own_mono hr (Nat.zero_le _), own_mono hc (Nat.zero_le _)⟩
    have cE := own_int he (i := 0) (by omega)
    have HFP := hide (And.intro hF hP)
    have HB := hide hB1
    clear he hr hc hF hP hB1 l1 l2 l3
    by_cases m1 : most < 1
    · have d1 : decide (most < 1) = true := decide_eq_true m1
      go_wp2
      go_ret2
      exact .inr (.inr ⟨HFP.out, fun h => by omega, rfl, HB.out.alloc HB.out.size _⟩)
    by_cases m2 : 64 < most
    · have d1 : decide (most < 1) = false := decide_eq_false m1
      have d2 : decide (64 < most) = true := decide_eq_true m2
      go_wp2
      go_ret2
      exact .inr (.inr ⟨HFP.out, fun h => by omega, rfl, HB.out.alloc HB.out.size _⟩)
    by_cases m3 : depth < 0
    · have d1 : decide (most < 1) = false := decide_eq_false m1
      have d2 : decide (64 < most) = false := decide_eq_false m2
      have d3 : decide (depth < 0) = true := decide_eq_true m3
      go_wp2
      go_ret2
      exact .inr (.inr ⟨HFP.out, fun h => by omega, rfl, HB.out.alloc HB.out.size _⟩)
    by_cases m4 : 8 < depth
    · have d1 : decide (most < 1) = false := decide_eq_false m1
      have d2 : decide (64 < most) = false := decide_eq_false m2
      have d3 : decide (depth < 0) = false := decide_eq_false m3
      have d4 : decide (8 < depth) = true := decide_eq_true m4
      go_wp2
      go_ret2
      exact .inr (.inr ⟨HFP.out, fun h => by omega, rfl, HB.out.alloc HB.out.size _⟩)
    have d1 : decide (most < 1) = false := decide_eq_false m1
    have d2 : decide (64 < most) = false := decide_eq_false m2
    have d3 : decide (depth < 0) = false := decide_eq_false m3
    have d4 : decide (8 < depth) = false := decide_eq_false m4
    have HM : Hid ((1 ≤ most ∧ most ≤ 64) ∧ (0 ≤ depth ∧ depth ≤ 8)) := ⟨⟨by omega, by omega⟩, ⟨by omega, by omega⟩⟩
    have B1 := hide (HB.out.alloc HB.out.size (.cells #[.slice (some ⟨ge, 0, none⟩) (prgOf s).ents.length ce, .slice (some ⟨gr, 0, none⟩) (prgOf s).rules.length cr, .slice (some ⟨gc, 0, none⟩) (prgOf s).code.length cc] 43))
    have BA := hide ((Below.refl w1.heap.size w1).alloc (Nat.le_refl _) (.cells #[.slice (some ⟨ge, 0, none⟩) (prgOf s).ents.length ce, .slice (some ⟨gr, 0, none⟩) (prgOf s).rules.length cr, .slice (some ⟨gc, 0, none⟩) (prgOf s).code.length cc] 43))
    clear m1 m2 m3 m4
    go_wp2_with fail
    refine (begin_any ge ce _ _ cr _ _ cc (prgOf s) most depth _ ((BA.out.cell (p := ⟨ge, 0, none⟩) (World.block_lt_of_cell? w1 ⟨ge, 0, none⟩ cE)).trans cE) (by omega) e1 e2).mono ?_
    rintro e w2 ⟨rfl, hB2⟩
    have SZ : Hid (w1.heap.size ≤ w2.heap.size) := Nat.le_trans BA.out.size hB2.size
    have B2 := hide (B1.out.trans (hB2.mono (by have := BA.out.size; have := HB.out.size; omega)))
    have L2 := hide ((HL.out.below BA.out).below hB2)
    clear hB2 BA B1 HL HB cE
    go_wp2_with (first | (refine wpList_build_to rfl 177 _ rfl (beginC (.slice (some ⟨ge, 0, none⟩) (prgOf s).ents.length ce) (.slice (some ⟨gr, 0, none⟩) (prgOf s).rules.length cr) (.slice (some ⟨gc, 0, none⟩) (prgOf s).code.length cc) most depth (Pure.ig (prgOf s).ents 0)) (by kernel_rfl) ?_))
    go_ret2
    refine .inl ⟨⟨HFP.out, HM.out⟩, w2.heap.size, rfl, B2.out.size, B2.out.alloc B2.out.size _, ?_⟩
    obtain ⟨f, hf⟩ := good0 HFP.out.2 HM.out.1 HM.out.2
    have hb : Blk (w2.alloc (.cells (beginC (.slice (some ⟨ge, 0, none⟩) (prgOf s).ents.length ce) (.slice (some ⟨gr, 0, none⟩) (prgOf s).rules.length cr) (.slice (some ⟨gc, 0, none⟩) (prgOf s).code.length cc) most depth (Pure.ig (prgOf s).ents 0)) 177)) w2.heap.size 177 (beginC (.slice (some ⟨ge, 0, none⟩) (prgOf s).ents.length ce) (.slice (some ⟨gr, 0, none⟩) (prgOf s).rules.length cr) (.slice (some ⟨gc, 0, none⟩) (prgOf s).code.length cc) most depth (Pure.ig (prgOf s).ents 0)).toList := heap_alloc_new w2 (.cells (beginC (.slice (some ⟨ge, 0, none⟩) (prgOf s).ents.length ce) (.slice (some ⟨gr, 0, none⟩) (prgOf s).rules.length cr) (.slice (some ⟨gc, 0, none⟩) (prgOf s).code.length cc) most depth (Pure.ig (prgOf s).ents 0)) 177)
    rw [begin_cells] at hb
    refine ⟨f, _, _, _, .slice none 0 0, false, fun x hx => by cases hx; exact ⟨OW.out.1, Nat.lt_of_lt_of_le OW.out.2 SZ.out⟩, fun _ => rfl, ⟨hb, L2.out.below ((Below.refl _ _).alloc (Nat.le_refl _) _)⟩, .inl ⟨?_, rfl⟩, hf, sta0 hf⟩
    unfold heldOf
    rw [if_neg (by show ¬ ((0 : Int) ≠ 0); omega)]
    rfl

end Go.Proofs.YtmccnmgaoppogaaGreat

namespace Go.Proofs.YtmccnmgaoppogaaGreat
open Go.RowKit

/-- what may be written over: nothing of a scanner (g) whose entries lie between L and g -/
def Safe (W : World) (L g : Nat) (row : Option Nat) : Prop :=
  some g ≠ row ∧ ∀ b, row = some b → ∀ cs t fr, W.heap[b]? = some (.cells cs t fr) → t ≠ 59 ∧ t ≠ 61 ∧ t ≠ 5 ∧ (t = 3 → ¬(L ≤ b ∧ b < g))

theorem own_safe {W W' : World} {base e size n : Nat} {v : Value} {xs : List Value} {row : Option Nat} (h : W.ownsRow base e size v n xs) (hg : W.grownBy W' row) (hne : ∀ g cur, v.ownBlock = some g → W.heap[g]? = some (.cells cur e (0, 0)) → some g ≠ row) : W'.ownsRow base e size v n xs := by
  rcases h with ⟨h1, ⟨rfl, h2⟩ | ⟨g, cap, cur, rfl, h3, h4, h5⟩⟩
  · exact ⟨h1, .inl ⟨rfl, h2⟩⟩
  · have hl : g < W.heap.size := (Array.getElem?_eq_some_iff.1 h4).1
    exact ⟨h1, .inr ⟨g, cap, cur, rfl, h3, by rw [hg.block g hl (hne g cur rfl h4)]; exact h4, h5⟩⟩

theorem Lists.keep {W W' : World} {p : Pure.Prg} {ve vr vc : Value} {L g : Nat} {row : Option Nat} (h : Lists W p ve vr vc) (ho : Own L g ve) (hs : Safe W L g row) (hg : W.grownBy W' row) : Lists W' p ve vr vc := by
  refine ⟨own_safe h.e hg ?_, own_safe h.r hg ?_, own_safe h.c hg ?_⟩
  · intro x cur hx hc e
    have := hs.2 x e.symm cur _ _ hc
    exact this.2.2.2 rfl (ho x hx)
  · intro x cur hx hc e
    exact (hs.2 x e.symm cur _ _ hc).1 rfl
  · intro x cur hx hc e
    exact (hs.2 x e.symm cur _ _ hc).2.1 rfl

theorem ByteRow.keep {W W' : World} {v : Value} {s : ByteArray} {L g : Nat} {row : Option Nat} (h : ByteRow W v s) (hs : Safe W L g row) (hg : W.grownBy W' row) : ByteRow W' v s := by
  rcases h with h | ⟨b, cap, cs, fr, h1, h2, h3, h4, h5⟩
  · exact .inl h
  · have hl : b < W.heap.size := (Array.getElem?_eq_some_iff.1 h4).1
    refine .inr ⟨b, cap, cs, fr, h1, h2, h3, ?_, h5⟩
    rw [hg.block b hl (fun e => (hs.2 b e.symm cs _ _ h4).2.2.1 rfl)]
    exact h4

theorem ScP.keep {W W' : World} {L g : Nat} {E : Pure.Env} {C : Pure.Cfg} {row : Option Nat} (h : ScP (Own L g) W g E C) (hs : Safe W L g row) (hg : W.grownBy W' row) : ScP (Own L g) W' g E C := by
  obtain ⟨f, ve, vr, vc, vh, b, h0, h1, h2⟩ := h
  exact ⟨f, ve, vr, vc, vh, b, h0, h1, ⟨blk_grown h2.m.blk hg hs.1, h2.m.l.keep h0 hs hg⟩, h2.h.keep hs hg, h2.good, h2.sta⟩
theorem Ds.keep {W W' : World} {L g : Nat} {E : Pure.Env} {C : Pure.Cfg} {row : Option Nat} (h : Ds (Own L g) W g E C) (hs : Safe W L g row) (hg : W.grownBy W' row) : Ds (Own L g) W' g E C := by
  obtain ⟨ve, vr, vc, f, h0, h1, h2, h3⟩ := h
  exact ⟨ve, vr, vc, f, h0, blk_grown h1 hg hs.1, h2.keep h0 hs hg, h3⟩
theorem ScP.below {P : Value → Prop} {W W' : World} {g : Nat} {E : Pure.Env} {C : Pure.Cfg} (h : ScP P W g E C) (hb : Below W.heap.size W W') : ScP P W' g E C := by
  obtain ⟨f, ve, vr, vc, vh, b, h0, h1, h2⟩ := h
  exact ⟨f, ve, vr, vc, vh, b, h0, h1, h2.m.below hb, h2.h.below hb, h2.good, h2.sta⟩

theorem ScP.blk {P : Value → Prop} {W : World} {g : Nat} {E : Pure.Env} {C : Pure.Cfg} (h : ScP P W g E C) : ∃ xs, Blk W g 177 xs := by
  obtain ⟨f, ve, vr, vc, vh, b, h0, h1, h2⟩ := h
  exact ⟨_, h2.m.blk⟩
theorem Ds.blk {P : Value → Prop} {W : World} {g : Nat} {E : Pure.Env} {C : Pure.Cfg} (h : Ds P W g E C) : ∃ xs, Blk W g 133 xs := by
  obtain ⟨ve, vr, vc, f, h0, h1, h2, h3⟩ := h
  exact ⟨_, h1⟩

theorem num_any (e : Int) (w : World) : Calls Tryz.prog 13 #[.int .i64 e] w (RetSame (.int .i64 e) w) := by
  go_enter Tryz.func13, Tryz.ntmps13
  go_wp2
  go_ret
  exact ⟨rfl, rfl⟩

set_option maxRecDepth 100000 in
set_option maxHeartbeats 2000000 in
theorem sameTokensL (va vb : Value) (l : List Pure.Tok) (w : World) (ba bb : Nat) (ha : w.ownsRow ba 74 5 va l.length (tokCells l)) (hb : w.ownsRow bb 74 5 vb l.length (tokCells l)) :
    Calls Tryz.prog 41 #[va, vb] w (RetV (.bool true) w) := by
  have RA : Hid (∀ i, i < l.length → ∃ b cap, va = .slice (some ⟨b, 0, none⟩) l.length cap ∧ b < w.heap.size ∧ w.cell? ⟨b, i * 5, none⟩ = some (.int .i64 (l.getD i tokZ).rule) ∧ w.cell? ⟨b, i * 5 + 1, none⟩ = some (.int .i64 (l.getD i tokZ).pos) ∧ w.cell? ⟨b, i * 5 + 2, none⟩ = some (.int .i64 (l.getD i tokZ).len) ∧ w.cell? ⟨b, i * 5 + 3, none⟩ = some (.int .i64 (l.getD i tokZ).line) ∧ w.cell? ⟨b, i * 5 + 4, none⟩ = some (.int .i64 (l.getD i tokZ).col)) := fun i hi => by
    obtain ⟨b, cap, rfl, _, _⟩ := own_some ha (by omega)
    have q := tokCells_at l i hi
    exact ⟨b, cap, rfl, (own_base ha).2, own_cell ha q.1, own_cell ha q.2.1, own_cell ha q.2.2.1, own_cell ha q.2.2.2.1, own_cell ha q.2.2.2.2⟩
  have RB : Hid (∀ i, i < l.length → ∃ b cap, vb = .slice (some ⟨b, 0, none⟩) l.length cap ∧ b < w.heap.size ∧ w.cell? ⟨b, i * 5, none⟩ = some (.int .i64 (l.getD i tokZ).rule) ∧ w.cell? ⟨b, i * 5 + 1, none⟩ = some (.int .i64 (l.getD i tokZ).pos) ∧ w.cell? ⟨b, i * 5 + 2, none⟩ = some (.int .i64 (l.getD i tokZ).len) ∧ w.cell? ⟨b, i * 5 + 3, none⟩ = some (.int .i64 (l.getD i tokZ).line) ∧ w.cell? ⟨b, i * 5 + 4, none⟩ = some (.int .i64 (l.getD i tokZ).col)) := fun i hi => by
    obtain ⟨b, cap, rfl, _, _⟩ := own_some hb (by omega)
    have q := tokCells_at l i hi
    exact ⟨b, cap, rfl, (own_base hb).2, own_cell hb q.1, own_cell hb q.2.1, own_cell hb q.2.2.1, own_cell hb q.2.2.2.1, own_cell hb q.2.2.2.2⟩
  obtain ⟨aa, ca, rfl, ha1, ha2, -⟩ := own_read ha
  obtain ⟨ab, cb, rfl, hb1, hb2, -⟩ := own_read hb
  unfold maxLen at ha2 hb2
  clear ha hb
  go_enter Tryz.func41, Tryz.ntmps41
  go_wp2_with fail
  go_loopw [5] (fun i wr => ∃ k : Nat, k ≤ l.length ∧ i = .int .i64 k ∧ Below w.heap.size w wr) (fun i _ => l.length - (intOf i).toNat)
  case atStart => exact ⟨0, Nat.zero_le _, rfl, Below.refl _ _⟩
  case round =>
    obtain ⟨k, hk, rfl, hbel⟩ := hrel
    by_cases hlt : k < l.length
    · obtain ⟨xa, ya, hva, lta, e0, e1, e2, e3, e4⟩ := RA.out k hlt
      obtain ⟨xb, yb, hvb, ltb, f0, f1, f2, f3, f4⟩ := RB.out k hlt
      obtain ⟨rfl, rfl⟩ : aa = some ⟨xa, 0, none⟩ ∧ ca = ya := by simpa using hva
      obtain ⟨rfl, rfl⟩ : ab = some ⟨xb, 0, none⟩ ∧ cb = yb := by simpa using hvb
      have g0 := (hbel.cell (p := ⟨xa, k * 5, none⟩) lta).trans e0
      have g1 := (hbel.cell (p := ⟨xa, k * 5 + 1, none⟩) lta).trans e1
      have g2 := (hbel.cell (p := ⟨xa, k * 5 + 2, none⟩) lta).trans e2
      have g3 := (hbel.cell (p := ⟨xa, k * 5 + 3, none⟩) lta).trans e3
      have g4 := (hbel.cell (p := ⟨xa, k * 5 + 4, none⟩) lta).trans e4
      have h0 := (hbel.cell (p := ⟨xb, k * 5, none⟩) ltb).trans f0
      have h1 := (hbel.cell (p := ⟨xb, k * 5 + 1, none⟩) ltb).trans f1
      have h2 := (hbel.cell (p := ⟨xb, k * 5 + 2, none⟩) ltb).trans f2
      have h3 := (hbel.cell (p := ⟨xb, k * 5 + 3, none⟩) ltb).trans f3
      have h4 := (hbel.cell (p := ⟨xb, k * 5 + 4, none⟩) ltb).trans f4
      have hki : (k : Int) < (l.length : Int) := by omega
      clear e0 e1 e2 e3 e4 f0 f1 f2 f3 f4 RA RB hva hvb
      generalize (l.getD k tokZ).rule = y0 at *
      generalize (l.getD k tokZ).pos = y1 at *
      generalize (l.getD k tokZ).len = y2 at *
      generalize (l.getD k tokZ).line = y3 at *
      generalize (l.getD k tokZ).col = y4 at *
      go_wp2_with fail
      go_quiet (fail)
      go_wp2
      go_roundw
      case rel => exact ⟨k + 1, by omega, by go_num, below_drewN hbel _⟩
      case measure => simp [intOf]; omega
    · go_wp2
      go_ret
      exact ⟨rfl, hbel⟩

theorem held_same {f : Nat → Int} {E E' : Pure.Env} {C : Pure.Cfg} (h : C.err = 0 → E.s = E'.s) (hs : C.err = 0 → Pure.Sta E' f C) : ((heldOf E C).size : Int) = heldN E' C := by
  unfold heldOf heldN
  by_cases he : C.err = 0
  · rw [if_neg (by omega), if_neg (by omega), h he]
    have s := hs he
    have := s.pos
    have := s.within
    have := s.looked
    simp
    omega
  · rw [if_pos he, if_pos he]
    rfl

set_option maxRecDepth 100000 in
set_option maxHeartbeats 2000000 in
theorem gauge_state (g gs : Nat) (P P' : Value → Prop) (E E' : Pure.Env) (C : Pure.Cfg) (w : World) (h : ScP P w g E C) (h' : Ds P' w gs E' C) (hE : C.err = 0 → E.s = E'.s) :
    Calls Tryz.prog 22 #[.agg #[.pointer (some ⟨g, 0, none⟩), .pointer (some ⟨gs, 0, none⟩)]] w (RetV (.bool true) w) := by
  obtain ⟨ve, vr, vc, f, -, hb, hl, gd, hr⟩ := h'
  have hs := held_same (E := E) (f := f) hE (fun _ => hr.1.inv gd (sta1 gd))
  have ST := hide (fun W (hW : Sc W g E C) => scState_any g E C W hW)
  have gl := blk_lt hb
  have SW := hide h.sc
  have HB := hide hb
  have glt := h.sc.lt
  clear h hE gd hr hl hb
  unfold stateV at ST
  rw [hs] at ST
  go_enter Tryz.func22, Tryz.ntmps22
  go_wp2_with fail
  refine (ST.out _ (SW.out.below ((Below.refl _ _).alloc (Nat.le_refl _) _))).mono ?_
  rintro e w1 ⟨rfl, hb1⟩
  have B1 := hide (((Below.refl w.heap.size w).alloc (Nat.le_refl _) (.cells #[.pointer (some ⟨g, 0, none⟩), .pointer (some ⟨gs, 0, none⟩)] 70)).trans (hb1.mono (by simp)))
  have K1 : Hid (Blk w1 w.heap.size 70 [.pointer (some ⟨g, 0, none⟩), .pointer (some ⟨gs, 0, none⟩)]) := blk_below (heap_alloc_new w _) hb1 (by simp)
  have K2 := hide (blk_below HB.out B1.out gl)
  have k0 := blk_cell (j := 0) K1.out rfl
  have k1 := blk_cell (j := 1) K1.out rfl
  have g3 := blk_cell (j := 3) K2.out rfl
  have g10 := blk_cell (j := 10) K2.out rfl
  have g11 := blk_cell (j := 11) K2.out rfl
  have g12 := blk_cell (j := 12) K2.out rfl
  have g13 := blk_cell (j := 13) K2.out rfl
  have g14 := blk_cell (j := 14) K2.out rfl
  have g15 := blk_cell (j := 15) K2.out rfl
  have g16 := blk_cell (j := 16) K2.out rfl
  have l1 := blk_lt K1.out
  have l2 := blk_lt K2.out
  have ne1 : w.heap.size ≠ w1.heap.size := by omega
  have ne2 : gs ≠ w1.heap.size := by omega
  have ne3 : gs ≠ w1.heap.size + 1 := by omega
  have ne4 : w.heap.size ≠ w1.heap.size + 1 := by omega
  clear hb1 ST SW hs
  generalize heldN E' C = hn at *
  generalize C.pos = y0 at *
  generalize C.line = y1 at *
  generalize C.col = y2 at *
  generalize C.mode = y3 at *
  generalize C.dep = y4 at *
  generalize C.steps = y6 at *
  go_wp2
  go_ret
  exact ⟨rfl, (B1.out.alloc (by omega) _).alloc (by simp; omega) _⟩

end Go.Proofs.YtmccnmgaoppogaaGreat

namespace Go.Proofs.YtmccnmgaoppogaaGreat
open Go.RowKit

theorem cut_all (t e size : Nat) (ht : Tryz.prog.underlying t = some (.slice e)) (hs : (Tryz.prog.info? e).map (·.size) = some size) (ao : Option Addr) (n c : Nat) (hn : ao = none → c = 0) (w : World) : (Instr.slice t (.slice ao n c) none (some (.int .i64 c)) none).run Tryz.prog w = .ok (.slice ao c c) w := by
  cases hq : Tryz.prog.info? e with
  | none => simp [hq] at hs
  | some i =>
    cases ao with
    | none =>
      have := hn rfl
      subst this
      simp [go_sem, ht, sizeOf, typeInfo, hq]
    | some a => simp [go_sem, ht, sizeOf, typeInfo, hq]
theorem Tryz.inft72 : (Tryz.prog.info? 72).map (fun i => (i.zero, i.size, i.bytes)) = some (some (.slice none 0 0), 1, 24) := by kernel_rfl
theorem size_token : (Tryz.prog.info? 74).map (·.size) = some 5 := by kernel_rfl

/-- of a list that came out: so many tokens are written over -/
def Part (W : World) (ao : Option Addr) (cap i : Nat) (v : Value) : Prop :=
  (ao = none ∧ cap = 0) ∨ ∃ g old, ao = some ⟨g, 0, none⟩ ∧ Blk W g 74 (List.replicate (i * 5) v ++ old) ∧ i * 5 + old.length = cap * 5

/-- what is written over may be anything of the drawer's own -/
structure Lets (gd : Nat) (ao : Option Addr) (vts vnt : Value) (Q : World → Prop) : Prop where
  below : ∀ W W', Q W → Below W.heap.size W W' → Q W'
  drawer : ∀ W j u xs, Q W → Blk W gd 33 xs → Q (W.setCell ⟨gd, j, none⟩ u)
  token : ∀ W g j u xs, Q W → ao = some ⟨g, 0, none⟩ → Blk W g 74 xs → Q (W.setCell ⟨g, j, none⟩ u)
  lists : ∀ W W' n xs, Q W → W.ownsRow gd 72 1 vts n xs → W.grownBy W' vts.ownBlock → Q W'
  numbers : ∀ W W' n xs, Q W → W.ownsRow gd 3 1 vnt n xs → W.grownBy W' vnt.ownBlock → Q W'

def drC (n : Int) (vts vnt : Value) : List Value := [.int .i64 n, .slice none 0 0, .slice none 0 0, .slice none 0 0, vts, .slice none 0 0, .slice none 0 0, .slice none 0 0, vnt]

/-- while the list is put into the drawer -/
structure KT (Q : World → Prop) (gd : Nat) (ao : Option Addr) (cap i : Nat) (v : Value) (m : Int) (vts vnt : Value) (k k' : Nat) (xs ys : List Value) (W : World) : Prop where
  q : Q W
  d : Blk W gd 33 (drC m vts vnt)
  t : Part W ao cap i v
  l : W.ownsRow gd 72 1 vts k xs
  n : W.ownsRow gd 3 1 vnt k' ys

theorem Part.keep {W W' : World} {ao : Option Addr} {cap i : Nat} {v : Value} (h : Part W ao cap i v) (hk : ∀ g xs, ao = some ⟨g, 0, none⟩ → Blk W g 74 xs → Blk W' g 74 xs) : Part W' ao cap i v := by
  rcases h with h | ⟨g, old, h1, h2, h3⟩
  · exact .inl h
  · exact .inr ⟨g, old, h1, hk g _ h1 h2, h3⟩
theorem Part.nil {W : World} {ao : Option Addr} {cap i : Nat} {v : Value} (h : Part W ao cap i v) : ao = none → cap = 0 := by
  rcases h with h | ⟨g, old, h1, _⟩
  · exact fun _ => h.2
  · intro e; rw [h1] at e; cases e

section
variable {Q : World → Prop} {gd : Nat} {ao : Option Addr} {cap i : Nat} {v : Value} {m : Int} {vts vnt : Value} {k k' : Nat} {xs ys : List Value} {W W' : World}
theorem KT.below {vts0 vnt0 : Value} (h : KT Q gd ao cap i v m vts vnt k k' xs ys W) (hQ : Lets gd ao vts0 vnt0 Q) (hb : Below W.heap.size W W') : KT Q gd ao cap i v m vts vnt k k' xs ys W' :=
  ⟨hQ.below _ _ h.q hb, blk_below h.d hb (blk_lt h.d), h.t.keep (fun _ _ _ b => blk_below b hb (blk_lt b)), own_below h.l hb (Nat.le_refl _), own_below h.n hb (Nat.le_refl _)⟩
theorem KT.setD {vts0 vnt0 : Value} (h : KT Q gd ao cap i v m vts vnt k k' xs ys W) (hQ : Lets gd ao vts0 vnt0 Q) (j : Nat) (u : Value) {m' : Int} (he : (drC m vts vnt).set j u = drC m' vts vnt) : KT Q gd ao cap i v m' vts vnt k k' xs ys (W.setCell ⟨gd, j, none⟩ u) := by
  have hg := Lib.grownBy_setCell W gd j u
  exact ⟨hQ.drawer _ _ _ _ h.q h.d, by rw [← he]; exact blk_set h.d j u, h.t.keep (fun _ _ _ b => blk_other b (blk_ne' b h.d (by decide)) _ _), own_apart h.l h.d (by decide) hg, own_apart h.n h.d (by decide) hg⟩
end

/-- five numbers written over -/
theorem KT.tok {Q : World → Prop} {gd g : Nat} {cap i : Nat} {v : Value} {m : Int} {vts vnt vts0 vnt0 : Value} {k k' : Nat} {xs ys : List Value} {W : World} (h : KT Q gd (some ⟨g, 0, none⟩) cap i v m vts vnt k k' xs ys W) (hQ : Lets gd (some ⟨g, 0, none⟩) vts0 vnt0 Q) (hi : i < cap) :
    KT Q gd (some ⟨g, 0, none⟩) cap (i + 1) v m vts vnt k k' xs ys (((((W.setCell ⟨g, i * 5, none⟩ v).setCell ⟨g, i * 5 + 1, none⟩ v).setCell ⟨g, i * 5 + 2, none⟩ v).setCell ⟨g, i * 5 + 3, none⟩ v).setCell ⟨g, i * 5 + 4, none⟩ v) := by
  have st : ∀ {W : World} (j : Nat) {zs : List Value}, (Q W ∧ Blk W gd 33 (drC m vts vnt) ∧ Blk W g 74 zs ∧ W.ownsRow gd 72 1 vts k xs ∧ W.ownsRow gd 3 1 vnt k' ys) →
      (Q (W.setCell ⟨g, j, none⟩ v) ∧ Blk (W.setCell ⟨g, j, none⟩ v) gd 33 (drC m vts vnt) ∧ Blk (W.setCell ⟨g, j, none⟩ v) g 74 (zs.set j v) ∧ (W.setCell ⟨g, j, none⟩ v).ownsRow gd 72 1 vts k xs ∧ (W.setCell ⟨g, j, none⟩ v).ownsRow gd 3 1 vnt k' ys) := by
    intro W j zs z
    have hg := Lib.grownBy_setCell W g j v
    exact ⟨hQ.token _ _ _ _ _ z.1 rfl z.2.2.1, blk_other z.2.1 (blk_ne' z.2.1 z.2.2.1 (by decide)) _ _, blk_set z.2.2.1 j v, own_apart z.2.2.2.1 z.2.2.1 (by decide) hg, own_apart z.2.2.2.2 z.2.2.1 (by decide) hg⟩
  rcases h.t with ⟨h1, _⟩ | ⟨g', old, h1, h2, h3⟩
  · cases h1
  · cases h1
    match old, h3, h2 with
    | a0 :: a1 :: a2 :: a3 :: a4 :: r, h3, h2 =>
      have z := st (i * 5 + 4) (st (i * 5 + 3) (st (i * 5 + 2) (st (i * 5 + 1) (st (i * 5) ⟨h.q, h.d, h2, h.l, h.n⟩))))
      refine ⟨z.1, z.2.1, .inr ⟨g, r, rfl, ?_, by simp at h3; omega⟩, z.2.2.2.1, z.2.2.2.2⟩
      have e : ((((((List.replicate (i * 5) v ++ a0 :: a1 :: a2 :: a3 :: a4 :: r).set (i * 5) v).set (i * 5 + 1) v).set (i * 5 + 2) v).set (i * 5 + 3) v).set (i * 5 + 4) v) = List.replicate ((i + 1) * 5) v ++ r := by
        have e1 : (i + 1) * 5 = i * 5 + 5 := by omega
        rw [e1]
        generalize i * 5 = q
        rw [List.set_append_right _ _ (by simp), List.set_append_right _ _ (by simp), List.set_append_right _ _ (by simp), List.set_append_right _ _ (by simp), List.set_append_right _ _ (by simp)]
        simp only [List.length_replicate, Nat.sub_self, Nat.add_sub_cancel_left]
        have e2 : List.replicate (q + 5) v = List.replicate q v ++ [v, v, v, v, v] := by rw [← List.replicate_append_replicate]; rfl
        rw [e2, List.append_assoc]
        rfl
      rw [← e]
      exact z.2.2.1
    | [], h3, _ => simp at h3; omega
    | [_], h3, _ => simp at h3; omega
    | [_, _], h3, _ => simp at h3; omega
    | [_, _, _], h3, _ => simp at h3; omega
    | [_, _, _, _], h3, _ => simp at h3; omega

theorem KT.list {Q : World → Prop} {gd : Nat} {ao : Option Addr} {cap i : Nat} {v : Value} {m : Int} {vts vnt vnt0 v2 u : Value} {k k' : Nat} {xs ys : List Value} {W W' : World} (h : KT Q gd ao cap i v m vts vnt k k' xs ys W) (hQ : Lets gd ao vts vnt0 Q) (hg : W.grownBy W' vts.ownBlock) (ho : W'.ownsRow gd 72 1 v2 (k + 1) (xs ++ [u])) :
    KT Q gd ao cap i v m v2 vnt (k + 1) k' (xs ++ [u]) ys (W'.setCell ⟨gd, 4, none⟩ v2) := by
  have d1 := far_blk h.l h.d (by decide) hg
  have hs := Lib.grownBy_setCell W' gd 4 v2
  refine ⟨hQ.drawer _ _ _ _ (hQ.lists _ _ _ _ h.q h.l hg) d1, blk_set d1 4 v2, h.t.keep (fun _ _ _ b => ?_), own_apart ho d1 (by decide) hs, own_apart (own_other h.n h.l (by decide) hg) d1 (by decide) hs⟩
  have b1 := far_blk h.l b (by decide) hg
  exact blk_other b1 (blk_ne' b1 d1 (by decide)) _ _
theorem KT.num {Q : World → Prop} {gd : Nat} {ao : Option Addr} {cap i : Nat} {v : Value} {m : Int} {vts vnt vts0 v2 u : Value} {k k' : Nat} {xs ys : List Value} {W W' : World} (h : KT Q gd ao cap i v m vts vnt k k' xs ys W) (hQ : Lets gd ao vts0 vnt Q) (hg : W.grownBy W' vnt.ownBlock) (ho : W'.ownsRow gd 3 1 v2 (k' + 1) (ys ++ [u])) :
    KT Q gd ao cap i v m vts v2 k (k' + 1) xs (ys ++ [u]) (W'.setCell ⟨gd, 8, none⟩ v2) := by
  have d1 := far_blk h.n h.d (by decide) hg
  have hs := Lib.grownBy_setCell W' gd 8 v2
  refine ⟨hQ.drawer _ _ _ _ (hQ.numbers _ _ _ _ h.q h.n hg) d1, blk_set d1 8 v2, h.t.keep (fun _ _ _ b => ?_), own_apart (own_other h.l h.n (by decide) hg) d1 (by decide) hs, own_apart ho d1 (by decide) hs⟩
  have b1 := far_blk h.n b (by decide) hg
  exact blk_other b1 (blk_ne' b1 d1 (by decide)) _ _

def RetKept (Q : World → Prop) (gd : Nat) (ao : Option Addr) (cap : Nat) (m : Int) (k k' : Nat) (xs ys : List Value) (vnt0 : Value) (e : Ending) (w' : World) : Prop :=
  e = .returned (.tuple #[]) ∧ ∃ vts vnt, KT Q gd ao cap cap (.int .i64 m) m vts vnt k k' xs ys w' ∧ ∀ b, vnt.ownBlock = some b → vnt0.ownBlock = some b ∨ ∃ W, Q W ∧ W.heap.size ≤ b

end Go.Proofs.YtmccnmgaoppogaaGreat

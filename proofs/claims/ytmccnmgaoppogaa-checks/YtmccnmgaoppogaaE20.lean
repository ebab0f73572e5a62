/-
  The walks: modes and actions. (rules)
-/
import Derived.Test.YtmccnmgaoppogaaEF
namespace Go.Proofs.Ytmccnmgaoppogaa
open Go.RowKit

theorem grown_fre {w W W' : World} {g g' : Nat} (h : w.grownBy W (some g)) (h2 : W.grownBy W' (some g')) (hl : w.heap.size ≤ g') : w.grownBy W' (some g) :=
  ⟨h2.os.trans h.os, h2.tape.trans h.tape, h2.output.trans h.output, Nat.le_trans h.size h2.size, fun k hk hne => (h2.block k (Nat.lt_of_lt_of_le hk h.size) (fun e => by cases e; omega)).trans (h.block k hk hne)⟩

set_option maxRecDepth 100000 in
set_option maxHeartbeats 1000000 in
theorem mode_any (g i : Nat) (s : ByteArray) (vp : Value) (d : Bool) (w : World) (h : Rb w g s i vp d) (hi : i ≤ 1000000) :
    Calls Try.prog 152 #[.pointer (some ⟨g, 0, none⟩)] w (fun e w' => (Pure.Letter (Pure.pkb s i) ∧ RetRb (.tuple #[.int .i64 (Pure.pkb s i - 97), .bool true]) g s (i + 1) vp d w e w') ∨ (¬Pure.Letter (Pure.pkb s i) ∧ RetRb (.tuple #[.int .i64 0, .bool false]) g s i vp d w e w')) := by
  have PK := hide (peek_any g i s vp d w h)
  have H0 := hide h
  have bd := Pure.pkb_bd s i
  clear h
  generalize Pure.pkb s i = b at *
  have ws : IntKind.i64.wrap (b - 97) = b - 97 := wrap_in _ (by omega) (by omega)
  by_cases hl : Pure.Letter b
  · have FIN : Hid (∀ e w', RetRb (.tuple #[.int .i64 (b - 97), .bool true]) g s (i + 1) vp d w e w' → (Pure.Letter b ∧ RetRb (.tuple #[.int .i64 (b - 97), .bool true]) g s (i + 1) vp d w e w') ∨ (¬Pure.Letter b ∧ RetRb (.tuple #[.int .i64 0, .bool false]) g s i vp d w e w')) := fun e w' k => .inl ⟨hl, k⟩
    unfold Pure.Letter at hl
    have d1 : decide (b - 97 < 0) = false := decide_eq_false (by omega)
    have d2 : decide (4 ≤ b - 97) = false := decide_eq_false (by omega)
    clear hl
    go_enter Try.func152, Try.ntmps152
    go_wp2_with fail
    refine PK.out.mono ?_
    clear PK
    rintro e w1 ⟨rfl, hb1⟩
    have H1 := hide (H0.out.below hb1)
    have G1 := hide (grown_bel (some g) hb1)
    clear hb1 H0
    have c1 := blk_cell (j := 1) H1.out rfl
    have f1 := blk_frozen H1.out 1
    have wi : IntKind.i64.wrap ((i : Int) + 1) = (i : Int) + 1 := wrap_in _ (by omega) (by omega)
    have N1 := hide (H1.out.at (i + 1))
    go_wp2
    go_ret2
    exact FIN.out _ _ ⟨rfl, G1.out.trans (Lib.grownBy_setCell _ g 1 _), N1.out⟩
  · have FIN : Hid (∀ e w', RetRb (.tuple #[.int .i64 0, .bool false]) g s i vp d w e w' → (Pure.Letter b ∧ RetRb (.tuple #[.int .i64 (b - 97), .bool true]) g s (i + 1) vp d w e w') ∨ (¬Pure.Letter b ∧ RetRb (.tuple #[.int .i64 0, .bool false]) g s i vp d w e w')) := fun e w' k => .inr ⟨hl, k⟩
    unfold Pure.Letter at hl
    cases d1 : decide (b - 97 < 0) with
    | true =>
      clear hl
      go_enter Try.func152, Try.ntmps152
      go_wp2_with fail
      refine PK.out.mono ?_
      clear PK
      rintro e w1 ⟨rfl, hb1⟩
      have H1 := hide (H0.out.below hb1)
      have G1 := hide (grown_bel (some g) hb1)
      clear hb1 H0
      go_wp2
      go_ret2
      exact FIN.out _ _ ⟨rfl, G1.out, H1.out⟩
    | false =>
      have d1' := of_decide_eq_false d1
      have d2 : decide (4 ≤ b - 97) = true := decide_eq_true (by omega)
      clear hl d1'
      go_enter Try.func152, Try.ntmps152
      go_wp2_with fail
      refine PK.out.mono ?_
      clear PK
      rintro e w1 ⟨rfl, hb1⟩
      have H1 := hide (H0.out.below hb1)
      have G1 := hide (grown_bel (some g) hb1)
      clear hb1 H0
      go_wp2
      go_ret2
      exact FIN.out _ _ ⟨rfl, G1.out, H1.out⟩

/-- while an action is read: the rule so far lies at gV, the result's place is gR -/
structure AcS (g : Nat) (s : ByteArray) (j : Nat) (vp : Value) (d : Bool) (w : World) (gR gV : Nat) (e c m : Int) (W : World) : Prop where
  rb : Rb W g s j vp d
  gr : w.grownBy W (some g)
  r : Blk W gR 66 [.int .i64 0, .int .i64 0, .int .i64 0]
  v : Blk W gV 66 [.int .i64 e, .int .i64 c, .int .i64 m]
  ap : gR ≠ gV ∧ w.heap.size ≤ gR ∧ w.heap.size ≤ gV
section
variable {g : Nat} {s : ByteArray} {j j' : Nat} {vp : Value} {d d' : Bool} {w : World} {gR gV : Nat} {e c m : Int} {W W' : World}
theorem AcS.below (h : AcS g s j vp d w gR gV e c m W) (hb : Below W.heap.size W W') : AcS g s j vp d w gR gV e c m W' :=
  ⟨h.rb.below hb, Lib.grownBy_below h.gr hb, blk_below h.r hb (blk_lt h.r), blk_below h.v hb (blk_lt h.v), h.ap⟩
theorem AcS.moved (h : AcS g s j vp d w gR gV e c m W) (hg : W.grownBy W' (some g)) (hr : Rb W' g s j' vp d') : AcS g s j' vp d' w gR gV e c m W' :=
  ⟨hr, h.gr.trans hg, blk_grown h.r hg (fun k => blk_ne2 h.r h.rb (by decide) (Option.some.inj k)), blk_grown h.v hg (fun k => blk_ne2 h.v h.rb (by decide) (Option.some.inj k)), h.ap⟩
theorem AcS.set0 (h : AcS g s j vp d w gR gV e c m W) (x : Int) : AcS g s j vp d w gR gV x c m (W.setCell ⟨gV, 0, none⟩ (.int .i64 x)) :=
  ⟨blk_other h.rb (blk_ne2 h.rb h.v (by decide)) _ _, grown_fre h.gr (Lib.grownBy_setCell _ _ _ _) h.ap.2.2, blk_other h.r h.ap.1 _ _, blk_set h.v 0 _, h.ap⟩
theorem AcS.set1 (h : AcS g s j vp d w gR gV e c m W) (x : Int) : AcS g s j vp d w gR gV e x m (W.setCell ⟨gV, 1, none⟩ (.int .i64 x)) :=
  ⟨blk_other h.rb (blk_ne2 h.rb h.v (by decide)) _ _, grown_fre h.gr (Lib.grownBy_setCell _ _ _ _) h.ap.2.2, blk_other h.r h.ap.1 _ _, blk_set h.v 1 _, h.ap⟩
theorem AcS.set2 (h : AcS g s j vp d w gR gV e c m W) (x : Int) : AcS g s j vp d w gR gV e c x (W.setCell ⟨gV, 2, none⟩ (.int .i64 x)) :=
  ⟨blk_other h.rb (blk_ne2 h.rb h.v (by decide)) _ _, grown_fre h.gr (Lib.grownBy_setCell _ _ _ _) h.ap.2.2, blk_other h.r h.ap.1 _ _, blk_set h.v 2 _, h.ap⟩
theorem rule_load {W : World} {g : Nat} {a b c : Value} (h : Blk W g 66 [a, b, c]) : (loadVar 66 ⟨g, 0, none⟩).run Try.prog W = .ok (.agg #[a, b, c]) W :=
  run_loadVar_mid W g 0 66 [a, b, c] _ (blk_range h) Try.underlying66 rfl (by kernel_rfl)
theorem AcS.fin (h : AcS g s j vp d w gR gV e c m W) : (loadVar 66 ⟨gR, 0, none⟩).run Try.prog (set3 W gR (.int .i64 e) (.int .i64 c) (.int .i64 m)) = .ok (.agg #[.int .i64 e, .int .i64 c, .int .i64 m]) (set3 W gR (.int .i64 e) (.int .i64 c) (.int .i64 m)) ∧ w.grownBy (set3 W gR (.int .i64 e) (.int .i64 c) (.int .i64 m)) (some g) ∧ Rb (set3 W gR (.int .i64 e) (.int .i64 c) (.int .i64 m)) g s j vp d := by
  have g5 := three_set W gR (.int .i64 e) (.int .i64 c) (.int .i64 m)
  exact ⟨rule_load (three_blk h.r _ _ _), grown_fre h.gr g5 h.ap.2.1, blk_grown h.rb g5 (fun k => blk_ne2 h.rb h.r (by decide) (Option.some.inj k))⟩
/-- the reader goes past a byte -/
theorem AcS.at1 (h : AcS g s j vp d w gR gV e c m W) : AcS g s (j + 1) vp d w gR gV e c m (W.setCell ⟨g, 1, none⟩ (.int .i64 ((j : Int) + 1))) :=
  h.moved (Lib.grownBy_setCell _ _ _ _) (h.rb.at (j + 1))
end

def RetAc (g : Nat) (s : ByteArray) (i : Nat) (vp : Value) (d : Bool) (w : World) (e : Ending) (w' : World) : Prop :=
  (∃ k em c m, Pure.Act s i k em c m ∧ RetRb (.tuple #[.agg #[.int .i64 em, .int .i64 c, .int .i64 m], .bool true]) g s k vp d w e w') ∨ (∃ k em c m, Pure.ActF s i k ∧ RetRb (.tuple #[.agg #[.int .i64 em, .int .i64 c, .int .i64 m], .bool false]) g s k vp d w e w')

namespace Pure
theorem EmitB.ne {b e : Int} (h : EmitB b e) : b ≠ -1 := by unfold EmitB at h; omega
theorem Act.le {s : ByteArray} {i k : Nat} {e c m : Int} (h : Act s i k e c m) : k ≤ s.size ∧ i < k := by
  cases h with
  | plain h1 _ _ _ => exact ⟨pkb_lt h1.ne, by omega⟩
  | pop _ h2 => exact ⟨pkb_lt (s := s) (i := i + 1) (by rw [h2]; decide), by omega⟩
  | «to» _ _ h3 => exact ⟨pkb_lt (s := s) (i := i + 2) (by unfold Letter at h3; omega), by omega⟩
  | push _ _ h3 => exact ⟨pkb_lt (s := s) (i := i + 2) (by unfold Letter at h3; omega), by omega⟩
end Pure

set_option maxRecDepth 100000 in
set_option maxHeartbeats 4000000 in
theorem action_any (g i : Nat) (s : ByteArray) (vp : Value) (d : Bool) (w : World) (h : Rb w g s i vp d) (hi : i ≤ 1000) :
    Calls Try.prog 154 #[.pointer (some ⟨g, 0, none⟩)] w (RetAc g s i vp d w) := by
  have gl := h.lt
  have A0 : Hid (AcS g s i vp d w w.heap.size (w.heap.size + 1) 0 0 0 ((w.alloc (.cells #[.int .i64 0, .int .i64 0, .int .i64 0] 66)).alloc (.cells #[.int .i64 0, .int .i64 0, .int .i64 0] 66))) := by
    have hb := ((Below.refl w.heap.size w).alloc (Nat.le_refl _) (.cells #[.int .i64 0, .int .i64 0, .int .i64 0] 66)).alloc (by simp) (.cells #[.int .i64 0, .int .i64 0, .int .i64 0] 66)
    have tb := two_blocksP w 66 [.int .i64 0, .int .i64 0, .int .i64 0] [.int .i64 0, .int .i64 0, .int .i64 0]
    exact ⟨h.below hb, grown_bel _ hb, tb.1, tb.2, by omega, Nat.le_refl _, by omega⟩
  clear h
  go_enter Try.func154, Try.ntmps154
  go_wp2_with fail
  generalize (w.alloc (.cells #[.int .i64 0, .int .i64 0, .int .i64 0] 66)).alloc (.cells #[.int .i64 0, .int .i64 0, .int .i64 0] 66) = W0 at *
  generalize w.heap.size = gR at *
  generalize gR + 1 = gV at *
  refine (peek_any g i s vp d W0 A0.out.rb).mono ?_
  rintro e w1 ⟨rfl, hb1⟩
  have A1 := hide (A0.out.below hb1)
  clear hb1 A0
  have wi : IntKind.i64.wrap ((i : Int) + 1) = (i : Int) + 1 := wrap_in _ (by omega) (by omega)
  have wi2 : IntKind.i64.wrap ((i : Int) + 1 + 1) = (i : Int) + 1 + 1 := wrap_in _ (by omega) (by omega)
  rcases Classical.em (Pure.pkb s i = 101) with h101 | h101
  · have HE : Hid (Pure.EmitB (Pure.pkb s i) 1) := .inl ⟨h101, rfl⟩
    rw [h101]
    clear h101
    have v0 := blk_cell (j := 0) A1.out.v rfl
    have vf0 := blk_frozen A1.out.v 0
    have A1' := hide (A1.out.set0 1)
    go_upto_region 7 with (fail)
    clear v0 vf0 A1
    generalize w1.setCell ⟨gV, 0, none⟩ (.int .i64 1) = W1 at *
    have c1 := blk_cell (j := 1) A1'.out.rb rfl
    have f1 := blk_frozen A1'.out.rb 1
    have A2 := hide A1'.out.at1
    go_wp2_with fail
    clear c1 f1 A1'
    generalize W1.setCell ⟨g, 1, none⟩ (.int .i64 ((i : Int) + 1)) = W2 at *
    have g1 := blk_lt A2.out.rb
    rcases Classical.em (Pure.pkb s (i + 1) = 60) with h60 | h60
    · have FIN : Hid (∀ e w', RetRb (.tuple #[.agg #[.int .i64 1, .int .i64 3, .int .i64 0], .bool true]) g s (i + 2) vp d w e w' → RetAc g s i vp d w e w') := fun e w' k => .inl ⟨i + 2, _, _, _, .pop HE.out h60, k⟩
      refine (peek_any g (i + 1) s vp d _ A2.out.rb).mono ?_
      rintro e w3 ⟨rfl, hb3⟩
      have A3 := hide (A2.out.below hb3)
      clear hb3 A2
      rw [h60]
      clear h60
      have c1 := blk_cell (j := 1) A3.out.rb rfl
      have f1 := blk_frozen A3.out.rb 1
      have A4 : Hid (AcS g s (i + 2) vp d w gR gV 1 0 0 (w3.setCell ⟨g, 1, none⟩ (.int .i64 ((i : Int) + 1 + 1)))) := A3.out.at1
      go_upto_region 12 with (fail)
      clear c1 f1 A3
      generalize w3.setCell ⟨g, 1, none⟩ (.int .i64 ((i : Int) + 1 + 1)) = W4 at *
      have c1 := blk_cell (j := 1) A4.out.v rfl
      have f1 := blk_frozen A4.out.v 1
      have A5 := hide (A4.out.set1 3)
      go_upto_region 13 with (fail)
      clear c1 f1 A4
      generalize W4.setCell ⟨gV, 1, none⟩ (.int .i64 3) = W5 at *
      have r0 := blk_cell (j := 0) A5.out.r rfl
      have r1 := blk_cell (j := 1) A5.out.r rfl
      have r2 := blk_cell (j := 2) A5.out.r rfl
      have rf0 := blk_frozen A5.out.r 0
      have rf1 := blk_frozen A5.out.r 1
      have rf2 := blk_frozen A5.out.r 2
      have v0 := blk_cell (j := 0) A5.out.v rfl
      have v1 := blk_cell (j := 1) A5.out.v rfl
      have v2 := blk_cell (j := 2) A5.out.v rfl
      obtain ⟨ld, hgF, hrF⟩ := A5.out.fin
      have GF := hide hgF
      have RF := hide hrF
      clear hgF hrF A5
      go_wp2
      exact bodyPost_ret (by simp [results, Try.results154, asAddr, Result.andThen, ld]) rfl (FIN.out _ _ ⟨rfl, GF.out, RF.out⟩)
    · rcases Classical.em (Pure.pkb s (i + 1) = 62 ∨ Pure.pkb s (i + 1) = 43) with hgo | hgo
      · have j2 : i + 1 < s.size := Pure.pkb_lt (s := s) (i := i + 1) (by rcases hgo with h | h <;> rw [h] <;> decide)
        have FIN1 : Hid (Pure.Letter (Pure.pkb s (i + 2)) → ∀ e w' c, (Pure.pkb s (i + 1) = 62 ∧ c = 1) ∨ (Pure.pkb s (i + 1) = 43 ∧ c = 2) → RetRb (.tuple #[.agg #[.int .i64 1, .int .i64 c, .int .i64 (Pure.pkb s (i + 2) - 97)], .bool true]) g s (i + 3) vp d w e w' → RetAc g s i vp d w e w') := by
          intro hL e w' c hc k
          rcases hc with ⟨h1, rfl⟩ | ⟨h1, rfl⟩
          · exact .inl ⟨i + 3, _, _, _, .to HE.out h1 hL, k⟩
          · exact .inl ⟨i + 3, _, _, _, .push HE.out h1 hL, k⟩
        have FIN2 : Hid (¬Pure.Letter (Pure.pkb s (i + 2)) → ∀ e w' c, RetRb (.tuple #[.agg #[.int .i64 1, .int .i64 c, .int .i64 0], .bool false]) g s (i + 2) vp d w e w' → RetAc g s i vp d w e w') := fun hL e w' c k => .inr ⟨i + 2, _, _, _, .mode HE.out hgo hL, k⟩
        refine (peek_any g (i + 1) s vp d _ A2.out.rb).mono ?_
        rintro e w3 ⟨rfl, hb3⟩
        have A3 := hide (A2.out.below hb3)
        clear hb3 A2
        generalize hq : Pure.pkb s (i + 1) = q at *
        clear hq h60
        have v1 := blk_cell (j := 1) A3.out.v rfl
        have vf1 := blk_frozen A3.out.v 1
        rcases hgo with h | h
        · subst h
          have A4 := hide (A3.out.set1 1)
          go_upto_region 18 with (fail)
          clear v1 vf1 A3
          generalize w3.setCell ⟨gV, 1, none⟩ (.int .i64 1) = W4 at *
          have c1 := blk_cell (j := 1) A4.out.rb rfl
          have f1 := blk_frozen A4.out.rb 1
          have A5 : Hid (AcS g s (i + 2) vp d w gR gV 1 1 0 (W4.setCell ⟨g, 1, none⟩ (.int .i64 ((i : Int) + 1 + 1)))) := A4.out.at1
          go_wp2_with fail
          clear c1 f1 A4
          generalize W4.setCell ⟨g, 1, none⟩ (.int .i64 ((i : Int) + 1 + 1)) = W5 at *
          refine (mode_any g (i + 2) s vp d W5 A5.out.rb (by omega)).mono ?_
          rintro e w6 (⟨hL, rfl, hg6, hr6⟩ | ⟨hL, rfl, hg6, hr6⟩)
          · have A6 := hide (A5.out.moved hg6 hr6)
            clear hg6 hr6 A5
            have FIN := hide (fun e w' => FIN1.out hL e w' 1 (by simp))
            clear FIN1 FIN2 hL
            generalize Pure.pkb s (i + 2) - 97 = x at *
            have v2 := blk_cell (j := 2) A6.out.v rfl
            have vf2 := blk_frozen A6.out.v 2
            have A7 := hide (A6.out.set2 x)
            go_upto_region 21 with (fail)
            clear v2 vf2 A6
            generalize w6.setCell ⟨gV, 2, none⟩ (.int .i64 x) = W7 at *
            have A5 := A7
            clear A7
            have r0 := blk_cell (j := 0) A5.out.r rfl
            have r1 := blk_cell (j := 1) A5.out.r rfl
            have r2 := blk_cell (j := 2) A5.out.r rfl
            have rf0 := blk_frozen A5.out.r 0
            have rf1 := blk_frozen A5.out.r 1
            have rf2 := blk_frozen A5.out.r 2
            have v0 := blk_cell (j := 0) A5.out.v rfl
            have v1 := blk_cell (j := 1) A5.out.v rfl
            have v2 := blk_cell (j := 2) A5.out.v rfl
            obtain ⟨ld, hgF, hrF⟩ := A5.out.fin
            have GF := hide hgF
            have RF := hide hrF
            clear hgF hrF A5
            go_wp2
            exact bodyPost_ret (by simp [results, Try.results154, asAddr, Result.andThen, ld]) rfl (FIN.out _ _ ⟨rfl, GF.out, RF.out⟩)
          · have A6 := hide (A5.out.moved hg6 hr6)
            clear hg6 hr6 A5
            have FIN := hide (fun e w' => FIN2.out hL e w' 1)
            clear FIN1 FIN2 hL
            have v2 := blk_cell (j := 2) A6.out.v rfl
            have vf2 := blk_frozen A6.out.v 2
            have A7 := hide (A6.out.set2 0)
            go_upto_region 21 with (fail)
            clear v2 vf2 A6
            generalize w6.setCell ⟨gV, 2, none⟩ (.int .i64 0) = W7 at *
            have A5 := A7
            clear A7
            have r0 := blk_cell (j := 0) A5.out.r rfl
            have r1 := blk_cell (j := 1) A5.out.r rfl
            have r2 := blk_cell (j := 2) A5.out.r rfl
            have rf0 := blk_frozen A5.out.r 0
            have rf1 := blk_frozen A5.out.r 1
            have rf2 := blk_frozen A5.out.r 2
            have v0 := blk_cell (j := 0) A5.out.v rfl
            have v1 := blk_cell (j := 1) A5.out.v rfl
            have v2 := blk_cell (j := 2) A5.out.v rfl
            obtain ⟨ld, hgF, hrF⟩ := A5.out.fin
            have GF := hide hgF
            have RF := hide hrF
            clear hgF hrF A5
            go_wp2
            exact bodyPost_ret (by simp [results, Try.results154, asAddr, Result.andThen, ld]) rfl (FIN.out _ _ ⟨rfl, GF.out, RF.out⟩)
        · subst h
          have A4 := hide (A3.out.set1 2)
          go_upto_region 18 with (fail)
          clear v1 vf1 A3
          generalize w3.setCell ⟨gV, 1, none⟩ (.int .i64 2) = W4 at *
          have c1 := blk_cell (j := 1) A4.out.rb rfl
          have f1 := blk_frozen A4.out.rb 1
          have A5 : Hid (AcS g s (i + 2) vp d w gR gV 1 2 0 (W4.setCell ⟨g, 1, none⟩ (.int .i64 ((i : Int) + 1 + 1)))) := A4.out.at1
          go_wp2_with fail
          clear c1 f1 A4
          generalize W4.setCell ⟨g, 1, none⟩ (.int .i64 ((i : Int) + 1 + 1)) = W5 at *
          refine (mode_any g (i + 2) s vp d W5 A5.out.rb (by omega)).mono ?_
          rintro e w6 (⟨hL, rfl, hg6, hr6⟩ | ⟨hL, rfl, hg6, hr6⟩)
          · have A6 := hide (A5.out.moved hg6 hr6)
            clear hg6 hr6 A5
            have FIN := hide (fun e w' => FIN1.out hL e w' 2 (by simp))
            clear FIN1 FIN2 hL
            generalize Pure.pkb s (i + 2) - 97 = x at *
            have v2 := blk_cell (j := 2) A6.out.v rfl
            have vf2 := blk_frozen A6.out.v 2
            have A7 := hide (A6.out.set2 x)
            go_upto_region 21 with (fail)
            clear v2 vf2 A6
            generalize w6.setCell ⟨gV, 2, none⟩ (.int .i64 x) = W7 at *
            have A5 := A7
            clear A7
            have r0 := blk_cell (j := 0) A5.out.r rfl
            have r1 := blk_cell (j := 1) A5.out.r rfl
            have r2 := blk_cell (j := 2) A5.out.r rfl
            have rf0 := blk_frozen A5.out.r 0
            have rf1 := blk_frozen A5.out.r 1
            have rf2 := blk_frozen A5.out.r 2
            have v0 := blk_cell (j := 0) A5.out.v rfl
            have v1 := blk_cell (j := 1) A5.out.v rfl
            have v2 := blk_cell (j := 2) A5.out.v rfl
            obtain ⟨ld, hgF, hrF⟩ := A5.out.fin
            have GF := hide hgF
            have RF := hide hrF
            clear hgF hrF A5
            go_wp2
            exact bodyPost_ret (by simp [results, Try.results154, asAddr, Result.andThen, ld]) rfl (FIN.out _ _ ⟨rfl, GF.out, RF.out⟩)
          · have A6 := hide (A5.out.moved hg6 hr6)
            clear hg6 hr6 A5
            have FIN := hide (fun e w' => FIN2.out hL e w' 2)
            clear FIN1 FIN2 hL
            have v2 := blk_cell (j := 2) A6.out.v rfl
            have vf2 := blk_frozen A6.out.v 2
            have A7 := hide (A6.out.set2 0)
            go_upto_region 21 with (fail)
            clear v2 vf2 A6
            generalize w6.setCell ⟨gV, 2, none⟩ (.int .i64 0) = W7 at *
            have A5 := A7
            clear A7
            have r0 := blk_cell (j := 0) A5.out.r rfl
            have r1 := blk_cell (j := 1) A5.out.r rfl
            have r2 := blk_cell (j := 2) A5.out.r rfl
            have rf0 := blk_frozen A5.out.r 0
            have rf1 := blk_frozen A5.out.r 1
            have rf2 := blk_frozen A5.out.r 2
            have v0 := blk_cell (j := 0) A5.out.v rfl
            have v1 := blk_cell (j := 1) A5.out.v rfl
            have v2 := blk_cell (j := 2) A5.out.v rfl
            obtain ⟨ld, hgF, hrF⟩ := A5.out.fin
            have GF := hide hgF
            have RF := hide hrF
            clear hgF hrF A5
            go_wp2
            exact bodyPost_ret (by simp [results, Try.results154, asAddr, Result.andThen, ld]) rfl (FIN.out _ _ ⟨rfl, GF.out, RF.out⟩)
      · have FIN : Hid (∀ e w', RetRb (.tuple #[.agg #[.int .i64 1, .int .i64 0, .int .i64 0], .bool true]) g s (i + 1) vp d w e w' → RetAc g s i vp d w e w') := fun e w' k => .inl ⟨i + 1, _, _, _, .plain HE.out h60 (fun e => hgo (.inl e)) (fun e => hgo (.inr e)), k⟩
        refine (peek_any g (i + 1) s vp d _ A2.out.rb).mono ?_
        rintro e w3 ⟨rfl, hb3⟩
        have A5 := hide (A2.out.below hb3)
        clear hb3 A2
        generalize Pure.pkb s (i + 1) = q at *
        have n1 : (q == 60) = false := by simpa using h60
        have n2 : (q == 62) = false := by simp; omega
        have n3 : (q == 43) = false := by simp; omega
        clear h60 hgo
        have r0 := blk_cell (j := 0) A5.out.r rfl
        have r1 := blk_cell (j := 1) A5.out.r rfl
        have r2 := blk_cell (j := 2) A5.out.r rfl
        have rf0 := blk_frozen A5.out.r 0
        have rf1 := blk_frozen A5.out.r 1
        have rf2 := blk_frozen A5.out.r 2
        have v0 := blk_cell (j := 0) A5.out.v rfl
        have v1 := blk_cell (j := 1) A5.out.v rfl
        have v2 := blk_cell (j := 2) A5.out.v rfl
        obtain ⟨ld, hgF, hrF⟩ := A5.out.fin
        have GF := hide hgF
        have RF := hide hrF
        clear hgF hrF A5
        go_wp2
        exact bodyPost_ret (by simp [results, Try.results154, asAddr, Result.andThen, ld]) rfl (FIN.out _ _ ⟨rfl, GF.out, RF.out⟩)
  · rcases Classical.em (Pure.pkb s i = 115) with h115 | h115
    · have HE : Hid (Pure.EmitB (Pure.pkb s i) 0) := .inr ⟨h115, rfl⟩
      rw [h115]
      clear h115 h101
      have c1 := blk_cell (j := 1) A1.out.rb rfl
      have f1 := blk_frozen A1.out.rb 1
      have A2 := hide A1.out.at1
      go_wp2_with fail
      clear c1 f1 A1
      generalize w1.setCell ⟨g, 1, none⟩ (.int .i64 ((i : Int) + 1)) = W2 at *
      have g1 := blk_lt A2.out.rb
      rcases Classical.em (Pure.pkb s (i + 1) = 60) with h60 | h60
      · have FIN : Hid (∀ e w', RetRb (.tuple #[.agg #[.int .i64 0, .int .i64 3, .int .i64 0], .bool true]) g s (i + 2) vp d w e w' → RetAc g s i vp d w e w') := fun e w' k => .inl ⟨i + 2, _, _, _, .pop HE.out h60, k⟩
        refine (peek_any g (i + 1) s vp d _ A2.out.rb).mono ?_
        rintro e w3 ⟨rfl, hb3⟩
        have A3 := hide (A2.out.below hb3)
        clear hb3 A2
        rw [h60]
        clear h60
        have c1 := blk_cell (j := 1) A3.out.rb rfl
        have f1 := blk_frozen A3.out.rb 1
        have A4 : Hid (AcS g s (i + 2) vp d w gR gV 0 0 0 (w3.setCell ⟨g, 1, none⟩ (.int .i64 ((i : Int) + 1 + 1)))) := A3.out.at1
        go_upto_region 12 with (fail)
        clear c1 f1 A3
        generalize w3.setCell ⟨g, 1, none⟩ (.int .i64 ((i : Int) + 1 + 1)) = W4 at *
        have c1 := blk_cell (j := 1) A4.out.v rfl
        have f1 := blk_frozen A4.out.v 1
        have A5 := hide (A4.out.set1 3)
        go_upto_region 13 with (fail)
        clear c1 f1 A4
        generalize W4.setCell ⟨gV, 1, none⟩ (.int .i64 3) = W5 at *
        have r0 := blk_cell (j := 0) A5.out.r rfl
        have r1 := blk_cell (j := 1) A5.out.r rfl
        have r2 := blk_cell (j := 2) A5.out.r rfl
        have rf0 := blk_frozen A5.out.r 0
        have rf1 := blk_frozen A5.out.r 1
        have rf2 := blk_frozen A5.out.r 2
        have v0 := blk_cell (j := 0) A5.out.v rfl
        have v1 := blk_cell (j := 1) A5.out.v rfl
        have v2 := blk_cell (j := 2) A5.out.v rfl
        obtain ⟨ld, hgF, hrF⟩ := A5.out.fin
        have GF := hide hgF
        have RF := hide hrF
        clear hgF hrF A5
        go_wp2
        exact bodyPost_ret (by simp [results, Try.results154, asAddr, Result.andThen, ld]) rfl (FIN.out _ _ ⟨rfl, GF.out, RF.out⟩)
      · rcases Classical.em (Pure.pkb s (i + 1) = 62 ∨ Pure.pkb s (i + 1) = 43) with hgo | hgo
        · have j2 : i + 1 < s.size := Pure.pkb_lt (s := s) (i := i + 1) (by rcases hgo with h | h <;> rw [h] <;> decide)
          have FIN1 : Hid (Pure.Letter (Pure.pkb s (i + 2)) → ∀ e w' c, (Pure.pkb s (i + 1) = 62 ∧ c = 1) ∨ (Pure.pkb s (i + 1) = 43 ∧ c = 2) → RetRb (.tuple #[.agg #[.int .i64 0, .int .i64 c, .int .i64 (Pure.pkb s (i + 2) - 97)], .bool true]) g s (i + 3) vp d w e w' → RetAc g s i vp d w e w') := by
            intro hL e w' c hc k
            rcases hc with ⟨h1, rfl⟩ | ⟨h1, rfl⟩
            · exact .inl ⟨i + 3, _, _, _, .to HE.out h1 hL, k⟩
            · exact .inl ⟨i + 3, _, _, _, .push HE.out h1 hL, k⟩
          have FIN2 : Hid (¬Pure.Letter (Pure.pkb s (i + 2)) → ∀ e w' c, RetRb (.tuple #[.agg #[.int .i64 0, .int .i64 c, .int .i64 0], .bool false]) g s (i + 2) vp d w e w' → RetAc g s i vp d w e w') := fun hL e w' c k => .inr ⟨i + 2, _, _, _, .mode HE.out hgo hL, k⟩
          refine (peek_any g (i + 1) s vp d _ A2.out.rb).mono ?_
          rintro e w3 ⟨rfl, hb3⟩
          have A3 := hide (A2.out.below hb3)
          clear hb3 A2
          generalize hq : Pure.pkb s (i + 1) = q at *
          clear hq h60
          have v1 := blk_cell (j := 1) A3.out.v rfl
          have vf1 := blk_frozen A3.out.v 1
          rcases hgo with h | h
          · subst h
            have A4 := hide (A3.out.set1 1)
            go_upto_region 18 with (fail)
            clear v1 vf1 A3
            generalize w3.setCell ⟨gV, 1, none⟩ (.int .i64 1) = W4 at *
            have c1 := blk_cell (j := 1) A4.out.rb rfl
            have f1 := blk_frozen A4.out.rb 1
            have A5 : Hid (AcS g s (i + 2) vp d w gR gV 0 1 0 (W4.setCell ⟨g, 1, none⟩ (.int .i64 ((i : Int) + 1 + 1)))) := A4.out.at1
            go_wp2_with fail
            clear c1 f1 A4
            generalize W4.setCell ⟨g, 1, none⟩ (.int .i64 ((i : Int) + 1 + 1)) = W5 at *
            refine (mode_any g (i + 2) s vp d W5 A5.out.rb (by omega)).mono ?_
            rintro e w6 (⟨hL, rfl, hg6, hr6⟩ | ⟨hL, rfl, hg6, hr6⟩)
            · have A6 := hide (A5.out.moved hg6 hr6)
              clear hg6 hr6 A5
              have FIN := hide (fun e w' => FIN1.out hL e w' 1 (by simp))
              clear FIN1 FIN2 hL
              generalize Pure.pkb s (i + 2) - 97 = x at *
              have v2 := blk_cell (j := 2) A6.out.v rfl
              have vf2 := blk_frozen A6.out.v 2
              have A7 := hide (A6.out.set2 x)
              go_upto_region 21 with (fail)
              clear v2 vf2 A6
              generalize w6.setCell ⟨gV, 2, none⟩ (.int .i64 x) = W7 at *
              have A5 := A7
              clear A7
              have r0 := blk_cell (j := 0) A5.out.r rfl
              have r1 := blk_cell (j := 1) A5.out.r rfl
              have r2 := blk_cell (j := 2) A5.out.r rfl
              have rf0 := blk_frozen A5.out.r 0
              have rf1 := blk_frozen A5.out.r 1
              have rf2 := blk_frozen A5.out.r 2
              have v0 := blk_cell (j := 0) A5.out.v rfl
              have v1 := blk_cell (j := 1) A5.out.v rfl
              have v2 := blk_cell (j := 2) A5.out.v rfl
              obtain ⟨ld, hgF, hrF⟩ := A5.out.fin
              have GF := hide hgF
              have RF := hide hrF
              clear hgF hrF A5
              go_wp2
              exact bodyPost_ret (by simp [results, Try.results154, asAddr, Result.andThen, ld]) rfl (FIN.out _ _ ⟨rfl, GF.out, RF.out⟩)
            · have A6 := hide (A5.out.moved hg6 hr6)
              clear hg6 hr6 A5
              have FIN := hide (fun e w' => FIN2.out hL e w' 1)
              clear FIN1 FIN2 hL
              have v2 := blk_cell (j := 2) A6.out.v rfl
              have vf2 := blk_frozen A6.out.v 2
              have A7 := hide (A6.out.set2 0)
              go_upto_region 21 with (fail)
              clear v2 vf2 A6
              generalize w6.setCell ⟨gV, 2, none⟩ (.int .i64 0) = W7 at *
              have A5 := A7
              clear A7
              have r0 := blk_cell (j := 0) A5.out.r rfl
              have r1 := blk_cell (j := 1) A5.out.r rfl
              have r2 := blk_cell (j := 2) A5.out.r rfl
              have rf0 := blk_frozen A5.out.r 0
              have rf1 := blk_frozen A5.out.r 1
              have rf2 := blk_frozen A5.out.r 2
              have v0 := blk_cell (j := 0) A5.out.v rfl
              have v1 := blk_cell (j := 1) A5.out.v rfl
              have v2 := blk_cell (j := 2) A5.out.v rfl
              obtain ⟨ld, hgF, hrF⟩ := A5.out.fin
              have GF := hide hgF
              have RF := hide hrF
              clear hgF hrF A5
              go_wp2
              exact bodyPost_ret (by simp [results, Try.results154, asAddr, Result.andThen, ld]) rfl (FIN.out _ _ ⟨rfl, GF.out, RF.out⟩)
          · subst h
            have A4 := hide (A3.out.set1 2)
            go_upto_region 18 with (fail)
            clear v1 vf1 A3
            generalize w3.setCell ⟨gV, 1, none⟩ (.int .i64 2) = W4 at *
            have c1 := blk_cell (j := 1) A4.out.rb rfl
            have f1 := blk_frozen A4.out.rb 1
            have A5 : Hid (AcS g s (i + 2) vp d w gR gV 0 2 0 (W4.setCell ⟨g, 1, none⟩ (.int .i64 ((i : Int) + 1 + 1)))) := A4.out.at1
            go_wp2_with fail
            clear c1 f1 A4
            generalize W4.setCell ⟨g, 1, none⟩ (.int .i64 ((i : Int) + 1 + 1)) = W5 at *
            refine (mode_any g (i + 2) s vp d W5 A5.out.rb (by omega)).mono ?_
            rintro e w6 (⟨hL, rfl, hg6, hr6⟩ | ⟨hL, rfl, hg6, hr6⟩)
            · have A6 := hide (A5.out.moved hg6 hr6)
              clear hg6 hr6 A5
              have FIN := hide (fun e w' => FIN1.out hL e w' 2 (by simp))
              clear FIN1 FIN2 hL
              generalize Pure.pkb s (i + 2) - 97 = x at *
              have v2 := blk_cell (j := 2) A6.out.v rfl
              have vf2 := blk_frozen A6.out.v 2
              have A7 := hide (A6.out.set2 x)
              go_upto_region 21 with (fail)
              clear v2 vf2 A6
              generalize w6.setCell ⟨gV, 2, none⟩ (.int .i64 x) = W7 at *
              have A5 := A7
              clear A7
              have r0 := blk_cell (j := 0) A5.out.r rfl
              have r1 := blk_cell (j := 1) A5.out.r rfl
              have r2 := blk_cell (j := 2) A5.out.r rfl
              have rf0 := blk_frozen A5.out.r 0
              have rf1 := blk_frozen A5.out.r 1
              have rf2 := blk_frozen A5.out.r 2
              have v0 := blk_cell (j := 0) A5.out.v rfl
              have v1 := blk_cell (j := 1) A5.out.v rfl
              have v2 := blk_cell (j := 2) A5.out.v rfl
              obtain ⟨ld, hgF, hrF⟩ := A5.out.fin
              have GF := hide hgF
              have RF := hide hrF
              clear hgF hrF A5
              go_wp2
              exact bodyPost_ret (by simp [results, Try.results154, asAddr, Result.andThen, ld]) rfl (FIN.out _ _ ⟨rfl, GF.out, RF.out⟩)
            · have A6 := hide (A5.out.moved hg6 hr6)
              clear hg6 hr6 A5
              have FIN := hide (fun e w' => FIN2.out hL e w' 2)
              clear FIN1 FIN2 hL
              have v2 := blk_cell (j := 2) A6.out.v rfl
              have vf2 := blk_frozen A6.out.v 2
              have A7 := hide (A6.out.set2 0)
              go_upto_region 21 with (fail)
              clear v2 vf2 A6
              generalize w6.setCell ⟨gV, 2, none⟩ (.int .i64 0) = W7 at *
              have A5 := A7
              clear A7
              have r0 := blk_cell (j := 0) A5.out.r rfl
              have r1 := blk_cell (j := 1) A5.out.r rfl
              have r2 := blk_cell (j := 2) A5.out.r rfl
              have rf0 := blk_frozen A5.out.r 0
              have rf1 := blk_frozen A5.out.r 1
              have rf2 := blk_frozen A5.out.r 2
              have v0 := blk_cell (j := 0) A5.out.v rfl
              have v1 := blk_cell (j := 1) A5.out.v rfl
              have v2 := blk_cell (j := 2) A5.out.v rfl
              obtain ⟨ld, hgF, hrF⟩ := A5.out.fin
              have GF := hide hgF
              have RF := hide hrF
              clear hgF hrF A5
              go_wp2
              exact bodyPost_ret (by simp [results, Try.results154, asAddr, Result.andThen, ld]) rfl (FIN.out _ _ ⟨rfl, GF.out, RF.out⟩)
        · have FIN : Hid (∀ e w', RetRb (.tuple #[.agg #[.int .i64 0, .int .i64 0, .int .i64 0], .bool true]) g s (i + 1) vp d w e w' → RetAc g s i vp d w e w') := fun e w' k => .inl ⟨i + 1, _, _, _, .plain HE.out h60 (fun e => hgo (.inl e)) (fun e => hgo (.inr e)), k⟩
          refine (peek_any g (i + 1) s vp d _ A2.out.rb).mono ?_
          rintro e w3 ⟨rfl, hb3⟩
          have A5 := hide (A2.out.below hb3)
          clear hb3 A2
          generalize Pure.pkb s (i + 1) = q at *
          have n1 : (q == 60) = false := by simpa using h60
          have n2 : (q == 62) = false := by simp; omega
          have n3 : (q == 43) = false := by simp; omega
          clear h60 hgo
          have r0 := blk_cell (j := 0) A5.out.r rfl
          have r1 := blk_cell (j := 1) A5.out.r rfl
          have r2 := blk_cell (j := 2) A5.out.r rfl
          have rf0 := blk_frozen A5.out.r 0
          have rf1 := blk_frozen A5.out.r 1
          have rf2 := blk_frozen A5.out.r 2
          have v0 := blk_cell (j := 0) A5.out.v rfl
          have v1 := blk_cell (j := 1) A5.out.v rfl
          have v2 := blk_cell (j := 2) A5.out.v rfl
          obtain ⟨ld, hgF, hrF⟩ := A5.out.fin
          have GF := hide hgF
          have RF := hide hrF
          clear hgF hrF A5
          go_wp2
          exact bodyPost_ret (by simp [results, Try.results154, asAddr, Result.andThen, ld]) rfl (FIN.out _ _ ⟨rfl, GF.out, RF.out⟩)
    · have FIN : Hid (∀ e w', RetRb (.tuple #[.agg #[.int .i64 0, .int .i64 0, .int .i64 0], .bool false]) g s i vp d w e w' → RetAc g s i vp d w e w') := fun e w' k => .inr ⟨i, _, _, _, .none h101 h115, k⟩
      generalize Pure.pkb s i = q at *
      have n1 : (q == 101) = false := by simpa using h101
      have n2 : (q == 115) = false := by simpa using h115
      clear h101 h115
      have A5 := A1
      clear A1
      have r0 := blk_cell (j := 0) A5.out.r rfl
      have r1 := blk_cell (j := 1) A5.out.r rfl
      have r2 := blk_cell (j := 2) A5.out.r rfl
      have rf0 := blk_frozen A5.out.r 0
      have rf1 := blk_frozen A5.out.r 1
      have rf2 := blk_frozen A5.out.r 2
      have v0 := blk_cell (j := 0) A5.out.v rfl
      have v1 := blk_cell (j := 1) A5.out.v rfl
      have v2 := blk_cell (j := 2) A5.out.v rfl
      obtain ⟨ld, hgF, hrF⟩ := A5.out.fin
      have GF := hide hgF
      have RF := hide hrF
      clear hgF hrF A5
      go_wp2
      exact bodyPost_ret (by simp [results, Try.results154, asAddr, Result.andThen, ld]) rfl (FIN.out _ _ ⟨rfl, GF.out, RF.out⟩)

end Go.Proofs.Ytmccnmgaoppogaa

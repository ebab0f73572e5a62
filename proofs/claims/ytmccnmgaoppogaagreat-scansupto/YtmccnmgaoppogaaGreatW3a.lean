/-
  The walks: are the entries, the rules, the instructions right? (program)
-/
import Derived.Test.YtmccnmgaoppogaaGreatMem
import Derived.Test.YtmccnmgaoppogaaGreatW2b
namespace Go.Proofs.YtmccnmgaoppogaaGreat
open Go.RowKit

set_option maxHeartbeats 400000 in
theorem entriesRight_any (v : Value) (l : List Int) (n : Nat) (w : World) (hv : Ints w v l) (_hn : n ≤ 9223372036854775807) :
    Calls Tryz.prog 106 #[v, .int .i64 n] w (RetB (Pure.EntsOK l n) w) := by
  obtain ⟨ao, cap, rfl, hc1, hc2, hread⟩ := hv.read
  clear hv
  by_cases h1 : l.length < 1
  · go_enter Tryz.func106, Tryz.ntmps106
    go_wp2
    go_ret
    exact retB (Pure.false_iff_of (Pure.ents_short (by omega))) (Below.refl _ _)
  by_cases h4 : 4 < l.length
  · go_enter Tryz.func106, Tryz.ntmps106
    go_wp2
    go_ret
    exact retB (Pure.false_iff_of (Pure.ents_short (by omega))) (Below.refl _ _)
  go_enter Tryz.func106, Tryz.ntmps106
  go_wp2
  go_loop [17] (fun i => ∃ k : Nat, k ≤ l.length ∧ i = .int .i64 k ∧ ∀ j, j < k → 0 ≤ Pure.ig l j ∧ Pure.ig l j < n) (fun i => l.length - (intOf i).toNat)
  case atStart => exact ⟨0, Nat.zero_le _, rfl, fun j hj => by omega⟩
  case round =>
    obtain ⟨k, hk, rfl, hall⟩ := hrel
    have HA := hide hall
    clear hall
    by_cases hlt : k < l.length
    · obtain ⟨b, off, rfl, hb, hcell⟩ := hread k hlt
      clear hread
      cases hbel : Pure.bel (Pure.ig l k) n
      · go_wp2_with (go_at_call 133; refine (below_any _ _ _).mono ?_; rintro e w' ⟨rfl, rfl⟩)
        go_ret
        exact retB (Pure.false_iff_of (Pure.ents_bad hlt (Pure.of_not_bel hbel))) (Below.refl _ _)
      · go_wp2_with (go_at_call 133; refine (below_any _ _ _).mono ?_; rintro e w' ⟨rfl, rfl⟩)
        go_round
        case rel => exact ⟨k + 1, by omega, by go_num, Pure.upto_succ HA.out (Pure.of_bel hbel)⟩
        case measure => simp [intOf]; omega
    · go_wp2
      go_ret
      have : k = l.length := by omega
      subst this
      exact retB (Pure.true_iff_of ⟨by omega, HA.out⟩) (Below.refl _ _)

set_option maxHeartbeats 400000 in
theorem rulesRight_any (v : Value) (l : List Pure.Rule) (m : Nat) (w : World) (hv : Rules w v l) (hm1 : 1 ≤ m) (hm : m ≤ 4) :
    Calls Tryz.prog 107 #[v, .int .i64 m] w (RetB (Pure.RulesOK l m) w) := by
  obtain ⟨ao, cap, rfl, hc1, hc2, hread⟩ := hv.read
  clear hv
  by_cases h1 : l.length < 1
  · go_enter Tryz.func107, Tryz.ntmps107
    go_wp2
    go_ret
    exact retB (Pure.false_iff_of (Pure.rules_short (by omega))) (Below.refl _ _)
  by_cases h4 : 16 < l.length
  · go_enter Tryz.func107, Tryz.ntmps107
    go_wp2
    go_ret
    exact retB (Pure.false_iff_of (Pure.rules_short (by omega))) (Below.refl _ _)
  go_enter Tryz.func107, Tryz.ntmps107
  go_wp2
  go_loopw [17] (fun i wr => ∃ k : Nat, k ≤ l.length ∧ i = .int .i64 k ∧ Below w.heap.size w wr ∧ ∀ j, j < k → Pure.RuleOK m (Pure.rg l j)) (fun i _ => l.length - (intOf i).toNat)
  case atStart => exact ⟨0, Nat.zero_le _, rfl, Below.refl _ _, fun j hj => by omega⟩
  case round =>
    obtain ⟨k, hk, rfl, hbel, hall⟩ := hrel
    have HA := hide hall
    clear hall
    by_cases hlt : k < l.length
    · obtain ⟨b, off, rfl, hb, hc0, hc1', hc2'⟩ := hread k hlt
      clear hread
      have g0 := (hbel.cell (p := ⟨b, off + k * 3, none⟩) hb).trans hc0
      have g1 := (hbel.cell (p := ⟨b, off + k * 3 + 1, none⟩) hb).trans hc1'
      have g2 := (hbel.cell (p := ⟨b, off + k * 3 + 2, none⟩) hb).trans hc2'
      clear hc0 hc1' hc2'
      go_wp2_with fail
      refine (ruleRight_any (Pure.rg l k) m _ hm1 hm).mono ?_
      rintro e w1 ⟨bb, rfl, hbb, hb1⟩
      have hbel1 := bel1 hbel hb1
      clear g0 g1 g2 hb1
      cases bb
      · go_wp2
        go_ret
        exact retB (Pure.false_iff_of (Pure.rules_bad hlt (fun h => Bool.noConfusion (hbb.2 h)))) hbel1
      · have HB := hide (hbb.1 rfl)
        clear hbb
        go_wp2
        go_roundw
        case rel => exact ⟨k + 1, by omega, by go_num, hbel1, Pure.upto_succ HA.out HB.out⟩
        case measure => simp [intOf]; omega
    · go_wp2
      go_ret
      have : k = l.length := by omega
      subst this
      exact retB (Pure.true_iff_of ⟨by omega, HA.out⟩) hbel

set_option maxHeartbeats 400000 in
theorem codeRight_any (v : Value) (l : List Pure.Ins) (m : Nat) (w : World) (hv : Code w v l) (hm : m ≤ 16) :
    Calls Tryz.prog 108 #[v, .int .i64 m] w (RetB (Pure.CodeOK l m) w) := by
  obtain ⟨ao, cap, rfl, hc1, hc2, hread⟩ := hv.read
  clear hv
  by_cases h1 : l.length < 1
  · go_enter Tryz.func108, Tryz.ntmps108
    go_wp2
    go_ret
    exact retB (Pure.false_iff_of (Pure.code_short (by omega))) (Below.refl _ _)
  by_cases h4 : 50000 < l.length
  · go_enter Tryz.func108, Tryz.ntmps108
    go_wp2
    go_ret
    exact retB (Pure.false_iff_of (Pure.code_short (by omega))) (Below.refl _ _)
  go_enter Tryz.func108, Tryz.ntmps108
  go_wp2
  go_loopw [18] (fun i wr => ∃ k : Nat, k ≤ l.length ∧ i = .int .i64 k ∧ Below w.heap.size w wr ∧ ∀ j, j < k → Pure.InsOK m l.length (Pure.cg l j)) (fun i _ => l.length - (intOf i).toNat)
  case atStart => exact ⟨0, Nat.zero_le _, rfl, Below.refl _ _, fun j hj => by omega⟩
  case round =>
    obtain ⟨k, hk, rfl, hbel, hall⟩ := hrel
    have HA := hide hall
    clear hall
    by_cases hlt : k < l.length
    · obtain ⟨b, off, rfl, hb, hc0, hc1', hc2', hc3'⟩ := hread k hlt
      clear hread
      have g0 := (hbel.cell (p := ⟨b, off + k * 4, none⟩) hb).trans hc0
      have g1 := (hbel.cell (p := ⟨b, off + k * 4 + 1, none⟩) hb).trans hc1'
      have g2 := (hbel.cell (p := ⟨b, off + k * 4 + 2, none⟩) hb).trans hc2'
      have g3 := (hbel.cell (p := ⟨b, off + k * 4 + 3, none⟩) hb).trans hc3'
      clear hc0 hc1' hc2' hc3'
      go_wp2_with fail
      refine (insRight_any (Pure.cg l k) m l.length _ hm (by omega)).mono ?_
      rintro e w1 ⟨bb, rfl, hbb, hb1⟩
      have hbel1 := bel1 hbel hb1
      clear g0 g1 g2 g3 hb1
      cases bb
      · go_wp2
        go_ret
        exact retB (Pure.false_iff_of (Pure.code_bad hlt (fun h => Bool.noConfusion (hbb.2 h)))) hbel1
      · have HB := hide (hbb.1 rfl)
        clear hbb
        go_wp2
        go_roundw
        case rel => exact ⟨k + 1, by omega, by go_num, hbel1, Pure.upto_succ HA.out HB.out⟩
        case measure => simp [intOf]; omega
    · have hkl : k = l.length := by omega
      subst hkl
      obtain ⟨b, off, rfl, hb, hc0, -⟩ := hread (l.length - 1) (by omega)
      have g0 := (hbel.cell (p := ⟨b, off + (l.length - 1) * 4, none⟩) hb).trans hc0
      clear hread hc0
      generalize hx : (Pure.cg l (l.length - 1)).op = x at *
      have HX := hide hx
      clear hx
      by_cases e4 : x = 4
      · have e4' : (x == 4) = true := by simpa using e4
        clear e4
        go_wp2
        go_ret
        exact retB (Pure.true_iff_of ⟨by omega, HA.out, .inl (by rw [HX.out]; simpa using e4')⟩) hbel
      · have e4' : (x == 4) = false := by simpa using e4
        by_cases e5 : x = 5
        · have e5' : (x == 5) = true := by simpa using e5
          clear e4 e5
          go_wp2
          go_ret
          exact retB (Pure.true_iff_of ⟨by omega, HA.out, .inr (by rw [HX.out]; simpa using e5')⟩) hbel
        · have e5' : (x == 5) = false := by simpa using e5
          have HE : Hid (¬ (x = 4 ∨ x = 5)) := by intro h; rcases h with h | h; exact e4 h; exact e5 h
          clear e4 e5
          go_wp2
          go_ret
          exact retB (Pure.false_iff_of (Pure.code_last (by rw [HX.out]; exact HE.out))) hbel

end Go.Proofs.YtmccnmgaoppogaaGreat

/-
  The walks: pick; the same tokens? (weirkeep)
-/
import Derived.Test.YtmccnmgaoppogabSS
import Derived.Test.YtmccnmgaoppogabBA
namespace Go.Proofs.Ytmccnmgaoppogab
open Go.RowKit

set_option maxHeartbeats 400000 in
theorem pick_big (c n : Int) (w : World) (hc0 : -9223372036854775808 ≤ c) (hc : c ≤ 9223372036854775807) (hn : 0 < n) (hn2 : n ≤ 1099511627776) :
    Calls Try.prog 15 #[.int .i64 c, .int .i64 n] w fun e w' => e = .returned (.int .i64 (Pure.pk c n)) ∧ w' = w := by
  by_cases h : c < 0
  · have hp : Pure.pk c n = -(c + 1).tmod n := by
      unfold Pure.pk
      rw [if_pos h, ← Int.neg_tmod, Int.tmod_eq_emod_of_nonneg (by omega)]
    rw [hp]
    have hd : decide (c < 0) = true := by simpa using h
    go_enter Try.func15, Try.ntmps15
    go_wp2
    go_ret
    exact ⟨rfl, rfl⟩
  · have hp : Pure.pk c n = c % n := by unfold Pure.pk; rw [if_neg h]
    rw [hp]
    have hd : decide (c < 0) = false := by simpa using h
    go_enter Try.func15, Try.ntmps15
    go_wp2
    go_ret
    exact ⟨rfl, rfl⟩

set_option maxRecDepth 100000 in
set_option maxHeartbeats 2000000 in
theorem sameTokens_eq (va vb : Value) (l : List Pure.Tok) (w : World) (ba bb : Nat) (ha : w.ownsRow ba 38 5 va l.length (tokCells l)) (hb : w.ownsRow bb 38 5 vb l.length (tokCells l)) :
    Calls Try.prog 19 #[va, vb] w (fun e w' => e = .returned (.bool true) ∧ Below w.heap.size w w') := by
  have RA : Hid (∀ i, i < l.length → ∃ b cap, va = .slice (some ⟨b, 0, none⟩) l.length cap ∧ b < w.heap.size ∧ w.cell? ⟨b, i * 5, none⟩ = some (.int .i64 (l.getD i tok0).rule) ∧ w.cell? ⟨b, i * 5 + 1, none⟩ = some (.int .i64 (l.getD i tok0).pos) ∧ w.cell? ⟨b, i * 5 + 2, none⟩ = some (.int .i64 (l.getD i tok0).len) ∧ w.cell? ⟨b, i * 5 + 3, none⟩ = some (.int .i64 (l.getD i tok0).line) ∧ w.cell? ⟨b, i * 5 + 4, none⟩ = some (.int .i64 (l.getD i tok0).col)) := fun i hi => by
    obtain ⟨b, cap, rfl, _, _⟩ := own_some ha (by omega)
    have q := tokCells_get l tok0 i hi
    exact ⟨b, cap, rfl, (own_base ha).2, own_cell ha q.1, own_cell ha q.2.1, own_cell ha q.2.2.1, own_cell ha q.2.2.2.1, own_cell ha q.2.2.2.2⟩
  have RB : Hid (∀ i, i < l.length → ∃ b cap, vb = .slice (some ⟨b, 0, none⟩) l.length cap ∧ b < w.heap.size ∧ w.cell? ⟨b, i * 5, none⟩ = some (.int .i64 (l.getD i tok0).rule) ∧ w.cell? ⟨b, i * 5 + 1, none⟩ = some (.int .i64 (l.getD i tok0).pos) ∧ w.cell? ⟨b, i * 5 + 2, none⟩ = some (.int .i64 (l.getD i tok0).len) ∧ w.cell? ⟨b, i * 5 + 3, none⟩ = some (.int .i64 (l.getD i tok0).line) ∧ w.cell? ⟨b, i * 5 + 4, none⟩ = some (.int .i64 (l.getD i tok0).col)) := fun i hi => by
    obtain ⟨b, cap, rfl, _, _⟩ := own_some hb (by omega)
    have q := tokCells_get l tok0 i hi
    exact ⟨b, cap, rfl, (own_base hb).2, own_cell hb q.1, own_cell hb q.2.1, own_cell hb q.2.2.1, own_cell hb q.2.2.2.1, own_cell hb q.2.2.2.2⟩
  obtain ⟨aa, ca, rfl, ha1, ha2, -⟩ := own_read ha
  obtain ⟨ab, cb, rfl, hb1, hb2, -⟩ := own_read hb
  unfold maxLen at ha2 hb2
  clear ha hb
  go_enter Try.func19, Try.ntmps19
  go_wp2_with fail
  go_loopw [5] (fun i wr => ∃ k : Nat, k ≤ l.length ∧ i = .int .i64 k ∧ Below w.heap.size w wr) (fun i _ => l.length - (intOf i).toNat)
  case atStart => exact ⟨0, Nat.zero_le _, rfl, Below.refl _ _⟩
  case round =>
    obtain ⟨k, hk, rfl, hbel⟩ := hrel
    by_cases hlt : k < l.length
    · obtain ⟨xa, ya, hva, lta, e0, e1, e2, e3, e4⟩ := RA.out k hlt
      obtain ⟨xb, yb, hvb, ltb, f0, f1, f2, f3, f4⟩ := RB.out k hlt
      obtain ⟨rfl, rfl⟩ : aa = some ⟨xa, 0, none⟩ ∧ ca = ya := by simpa using hva
      obtain ⟨rfl, rfl⟩ : ab = some ⟨xb, 0, none⟩ ∧ cb = yb := by simpa using hvb
      have g0 := (hbel.cell (p := ⟨xa, k * 5, none⟩) lta).trans e0
      have g1 := (hbel.cell (p := ⟨xa, k * 5 + 1, none⟩) lta).trans e1
      have g2 := (hbel.cell (p := ⟨xa, k * 5 + 2, none⟩) lta).trans e2
      have g3 := (hbel.cell (p := ⟨xa, k * 5 + 3, none⟩) lta).trans e3
      have g4 := (hbel.cell (p := ⟨xa, k * 5 + 4, none⟩) lta).trans e4
      have h0 := (hbel.cell (p := ⟨xb, k * 5, none⟩) ltb).trans f0
      have h1 := (hbel.cell (p := ⟨xb, k * 5 + 1, none⟩) ltb).trans f1
      have h2 := (hbel.cell (p := ⟨xb, k * 5 + 2, none⟩) ltb).trans f2
      have h3 := (hbel.cell (p := ⟨xb, k * 5 + 3, none⟩) ltb).trans f3
      have h4 := (hbel.cell (p := ⟨xb, k * 5 + 4, none⟩) ltb).trans f4
      have hki : (k : Int) < (l.length : Int) := by omega
      clear e0 e1 e2 e3 e4 f0 f1 f2 f3 f4 RA RB hva hvb
      generalize (l.getD k tok0).rule = y0 at *
      generalize (l.getD k tok0).pos = y1 at *
      generalize (l.getD k tok0).len = y2 at *
      generalize (l.getD k tok0).line = y3 at *
      generalize (l.getD k tok0).col = y4 at *
      go_wp2_with fail
      go_quiet (fail)
      go_wp2
      go_roundw
      case rel => exact ⟨k + 1, by omega, by go_num, below_drewN hbel _⟩
      case measure => simp [intOf]; omega
    · go_wp2
      go_ret
      exact ⟨rfl, hbel⟩


end Go.Proofs.Ytmccnmgaoppogab

/-
  The walks: pick and target. (weirkeep)
-/
import Derived.Test.YtmccnmgaoppogaaB1
import Derived.Test.YtmccnmgaoppogaaMem
import Derived.Deep.QuietTactic
import Derived.BigQuiet
import Derived.Test.YtmccnmgaoppogaaR1
namespace Go.Proofs.Ytmccnmgaoppogaa
open Go.RowKit

set_option maxHeartbeats 400000 in
theorem pick_any (c n : Int) (w : World) (hc0 : -9223372036854775808 ≤ c) (hc : c ≤ 9223372036854775807) (hn : 0 < n) (hn2 : n ≤ 1000000) :
    Calls Try.prog 50 #[.int .i64 c, .int .i64 n] w fun e w' => e = .returned (.int .i64 (Pure.pk c n)) ∧ w' = w := by
  by_cases h : c < 0
  · have hp : Pure.pk c n = -(c + 1).tmod n := by
      unfold Pure.pk
      rw [if_pos h, ← Int.neg_tmod, Int.tmod_eq_emod_of_nonneg (by omega)]
    rw [hp]
    have hd : decide (c < 0) = true := by simpa using h
    go_enter Try.func50, Try.ntmps50
    go_wp2
    go_ret
    exact ⟨rfl, rfl⟩
  · have hp : Pure.pk c n = c % n := by unfold Pure.pk; rw [if_neg h]
    rw [hp]
    have hd : decide (c < 0) = false := by simpa using h
    go_enter Try.func50, Try.ntmps50
    go_wp2
    go_ret
    exact ⟨rfl, rfl⟩

theorem pick_nat (c : Int) (n : Nat) (w : World) (hc : -9223372036854775808 ≤ c ∧ c ≤ 9223372036854775807) (hn : 0 < n) (hn2 : n ≤ 1000000) :
    Calls Try.prog 50 #[.int .i64 c, .int .i64 n] w fun e w' => e = .returned (.int .i64 (Pure.pk c n)) ∧ w' = w :=
  pick_any c n w hc.1 hc.2 (by omega) (by omega)

/-- where an instruction may go on to -/
def TgtOK (l : List Pure.Ins) (i : Nat) (t : Int) : Prop := (0 ≤ t ∧ t < l.length) ∧ ((i : Int) < t ∨ (Pure.cg l t.toNat).op = 2)
def RetTgt (l : List Pure.Ins) (i : Nat) (w : World) (e : Ending) (w' : World) : Prop := ∃ t, e = .returned (.int .i64 t) ∧ TgtOK l i t ∧ w' = w

set_option maxRecDepth 100000 in
set_option maxHeartbeats 1000000 in
theorem target_any (vc : Value) (l : List Pure.Ins) (i : Nat) (raw : Int) (w : World) (hC : Code w vc l) (hl : l.length ≤ 50000) (hi : i + 1 < l.length) (hr : -9223372036854775808 ≤ raw ∧ raw ≤ 9223372036854775807) :
    Calls Try.prog 77 #[vc, .int .i64 i, .int .i64 raw] w (RetTgt l i w) := by
  obtain ⟨ao, cap, rfl, h1, h2, hread⟩ := hC.read
  clear hC
  have hb := Pure.pk_bd raw (n := (l.length : Int)) (by omega)
  have hb2 := Pure.pk_bd raw (n := ((l.length : Int) - i - 1)) (by omega)
  have p1 := fun w => pick_nat raw l.length w hr (by omega) (by omega)
  have p2 := fun w => pick_any raw ((l.length : Int) - i - 1) w hr.1 hr.2 (by omega) (by omega)
  generalize Pure.pk raw ((l.length : Int) - i - 1) = t2 at *
  generalize Pure.pk raw (l.length : Int) = t1 at *
  obtain ⟨k, rfl⟩ := Int.eq_ofNat_of_zero_le hb.1
  have hk : k < l.length := by omega
  obtain ⟨b, off, rfl, hbl, e0, -, -, -⟩ := hread k hk
  clear hread
  have P1 := hide p1
  have P2 := hide p2
  clear p1 p2
  by_cases hki : k ≤ i
  · have hd : decide ((k : Int) ≤ (i : Int)) = true := by simp; omega
    by_cases hop : (Pure.cg l k).op = 2
    · have hn : ((Pure.cg l k).op != 2) = false := by simpa using hop
      go_enter Try.func77, Try.ntmps77
      go_wp2_with (go_at_call 50; refine (P1.out _).mono ?_; rintro e w' ⟨rfl, rfl⟩)
      go_ret
      exact ⟨_, rfl, ⟨hb, .inr (by rw [Int.toNat_natCast]; exact hop)⟩, rfl⟩
    · have hn : ((Pure.cg l k).op != 2) = true := by simpa using hop
      go_enter Try.func77, Try.ntmps77
      go_wp2_with fail
      refine (P1.out _).mono ?_
      rintro e w' ⟨rfl, rfl⟩
      go_wp2_with fail
      refine (P2.out _).mono ?_
      rintro e w'' ⟨rfl, rfl⟩
      go_wp2
      go_ret
      exact ⟨_, rfl, ⟨⟨by omega, by omega⟩, .inl (by omega)⟩, rfl⟩
  · have hd : decide ((k : Int) ≤ (i : Int)) = false := by simp; omega
    go_enter Try.func77, Try.ntmps77
    go_wp2_with (go_at_call 50; refine (P1.out _).mono ?_; rintro e w' ⟨rfl, rfl⟩)
    go_ret
    exact ⟨_, rfl, ⟨hb, .inl (by omega)⟩, rfl⟩

end Go.Proofs.Ytmccnmgaoppogaa

/-
  The walks: the longest beginning of a word that an image takes. (weirkeep)
-/
import Derived.Test.YtmccnmgaoppogabO8
import Derived.Test.YtmccnmgaoppogabO9
namespace Go.Proofs.Ytmccnmgaoppogab
open Go.RowKit

/-- the length of the longest beginning that is matched, or -1 -/
def Pure.Lgst (r : Pure.Re) (u : List Nat) (m : Int) : Prop :=
  (m = -1 ∧ ∀ i, i ≤ u.length → ¬ Pure.M r (u.take i)) ∨ (∃ i : Nat, m = (i : Int) ∧ i ≤ u.length ∧ Pure.M r (u.take i) ∧ ∀ j, i < j → j ≤ u.length → ¬ Pure.M r (u.take j))
def RetLg (r : Pure.Re) (u : List Nat) (w : World) (e : Ending) (w' : World) : Prop := ∃ m : Int, e = .returned (.int .i64 m) ∧ Below w.heap.size w w' ∧ Pure.Lgst r u m

set_option maxRecDepth 100000 in
set_option maxHeartbeats 4000000 in
theorem longest_any (r : Pure.Re) (im s : ByteArray) (w : World) (hi : Pure.Im r im) (hs : s.size ≤ 30) : Calls Try.prog 13 #[.string im, .string s] w (RetLg r (Pure.bytesN s) w) := by
  have IM := hide hi
  clear hi
  go_enter Try.func13, Try.ntmps13
  go_wp2_with fail
  go_loopg [5] (s.size + 1) (fun gk iv wr => ∃ (j : Nat) (n : Int), j ≤ s.size + 1 ∧ gk = j ∧ iv = .int .i64 n ∧ n = (j : Int) - 1 ∧ Below w.heap.size w wr ∧ ∀ i, j ≤ i → i ≤ s.size → ¬ Pure.M r ((Pure.bytesN s).take i))
  case atStart => exact ⟨s.size + 1, _, Nat.le_refl _, rfl, rfl, by omega, Below.refl _ _, fun i h1 h2 => by omega⟩
  case round =>
    obtain ⟨j, n, js, ej, rfl, hn, hbl, hno⟩ := hrel
    have EJ := hide ej
    clear ej
    have BL := hide hbl
    have NO := hide hno
    clear hbl hno
    cases j with
    | succ m =>
      have : n = (m : Int) := by omega
      subst this
      clear hn
      have d1 : decide (0 ≤ (m : Int)) = true := decide_eq_true (by omega)
      have ij0 : (0 : Int) ≤ (m : Int) := by omega
      have ij1 : (m : Int) ≤ (s.size : Int) := by omega
      have wi : IntKind.i64.wrap ((m : Int) - 1) = (m : Int) - 1 := wrap_in _ (by omega) (by omega)
      go_wp2_with fail
      refine (takes_any r im (s.extract 0 m) wr IM.out (by rw [ByteArray.size_extract]; omega)).mono ?_
      rintro e w2 ⟨b, rfl, hb2, hM⟩
      rw [Pure.bytesN_beg] at hM
      have B2 := hide (bel0 BL.out hb2)
      have HM := hide hM
      clear BL hb2 hM
      cases b with
      | true =>
        have FIN : Hid (RetLg r (Pure.bytesN s) w (.returned (.int .i64 (m : Int))) w2) := ⟨m, rfl, B2.out, .inr ⟨m, rfl, by rw [Pure.bytesN_len]; omega, HM.out.1 rfl, fun j h1 h2 => NO.out j (by omega) (by rw [Pure.bytesN_len] at h2; exact h2)⟩⟩
        go_wp2
        go_ret
        exact FIN.out
      | false =>
        go_wp2
        go_roundg m
        case measure => have := EJ.out; omega
        case rel =>
          refine ⟨m, _, by omega, rfl, rfl, by omega, B2.out, fun i h1 h2 h3 => ?_⟩
          by_cases e : i = m
          · subst e
            exact absurd (HM.out.2 h3) (by decide)
          · exact NO.out i (by omega) h2 h3
    | zero =>
      have : n = -1 := by omega
      subst this
      clear hn
      have FIN : Hid (RetLg r (Pure.bytesN s) w (.returned (.int .i64 (-1))) wr) := ⟨-1, rfl, BL.out, .inl ⟨rfl, fun i h1 h2 => NO.out i (by omega) (by rw [Pure.bytesN_len] at h1; exact h1) h2⟩⟩
      go_wp2
      go_ret
      exact FIN.out

end Go.Proofs.Ytmccnmgaoppogab

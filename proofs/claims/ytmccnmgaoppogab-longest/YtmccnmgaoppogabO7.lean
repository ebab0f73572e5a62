/-
  The walks: images tell a from b; a word that is split. (weirkeep)
-/
import Derived.Test.YtmccnmgaoppogabO6
namespace Go.Proofs.Ytmccnmgaoppogab
open Go.RowKit

namespace Pure
theorem bytesN_ext (s : ByteArray) (i j : Nat) : bytesN (s.extract i j) = ((bytesN s).take j).drop i := by
  unfold bytesN
  rw [ByteArray.data_extract, Array.toList_extract, List.extract_eq_take_drop, List.map_take, List.map_drop, List.drop_take]
theorem bytesN_full (s : ByteArray) (i : Nat) : bytesN (s.extract i s.size) = (bytesN s).drop i := by
  rw [bytesN_ext, List.take_of_length_le (by rw [bytesN_len]; omega)]
theorem bytesN_beg (s : ByteArray) (j : Nat) : bytesN (s.extract 0 j) = (bytesN s).take j := by
  rw [bytesN_ext, List.drop_zero]
end Pure

set_option maxRecDepth 100000 in
set_option maxHeartbeats 4000000 in
theorem sound_any (w : World) : Calls Try.prog 9 #[] w (RetVal (.bool true) w) := by
  have IMG := hide (image_any (.pl (Pure.onlyB 97)) ⟨#[97]⟩ w (Pure.a_at.pc Pure.sg_41.1 |>.br1 Pure.sg_41.2.1 |>.pa1 Pure.sg_41.2.2) (by decide) (by decide))
  go_enter Try.func9, Try.ntmps9
  go_wp2_with fail
  refine IMG.out.mono ?_
  clear IMG
  rintro e w1 ⟨str, rfl, hb1, him⟩
  have B1 := hide hb1
  have IM := hide him
  clear hb1 him
  go_wp2_with fail
  refine (takes_any (.pl (Pure.onlyB 97)) str ⟨#[97]⟩ w1 IM.out (by decide)).mono ?_
  rintro e w2 ⟨b, rfl, hb2, hM⟩
  have : b = true := hM.2 (.pl (c := 97) (by decide))
  subst this
  have B2 := hide (bel0 B1.out hb2)
  clear hb2 hM B1
  go_wp2_with fail
  refine (takes_any (.pl (Pure.onlyB 97)) str ⟨#[98]⟩ w2 IM.out (by decide)).mono ?_
  rintro e w3 ⟨b, rfl, hb3, hM⟩
  have : b = false := by
    cases b with
    | false => rfl
    | true =>
      obtain ⟨c, hc, hT⟩ := Pure.M_pl.1 (hM.1 rfl)
      have : c = 98 := by
        have e : Pure.bytesN ⟨#[98]⟩ = [98] := by decide
        rw [e] at hc
        simpa using hc.symm
      subst this
      exact absurd hT (by decide)
  subst this
  have B3 := hide (bel0 B2.out hb3)
  clear hb3 hM B2
  go_wp2_with fail
  refine (takes_any (.pl (Pure.onlyB 97)) str ⟨#[]⟩ w3 IM.out (by decide)).mono ?_
  rintro e w4 ⟨b, rfl, hb4, hM⟩
  have : b = false := by
    cases b with
    | false => rfl
    | true =>
      obtain ⟨c, hc, hT⟩ := Pure.M_pl.1 (hM.1 rfl)
      have e : Pure.bytesN ⟨#[]⟩ = [] := by decide
      rw [e] at hc
      cases hc
  subst this
  have B4 := hide (bel0 B3.out hb4)
  clear hb4 hM B3
  go_wp2
  go_ret
  exact ⟨rfl, B4.out⟩

/-- the word has a place from the k-th byte on, so that the one takes what lies ahead and the other the rest -/
def Pure.Spl (ra rb : Pure.Re) (u : List Nat) (k : Nat) : Prop := ∃ i, k ≤ i ∧ i ≤ u.length ∧ Pure.M ra (u.take i) ∧ Pure.M rb (u.drop i)

set_option maxRecDepth 100000 in
set_option maxHeartbeats 4000000 in
theorem split_any (ra rb : Pure.Re) (ia ib s : ByteArray) (k : Nat) (w : World) (ha : Pure.Im ra ia) (hb : Pure.Im rb ib) (hs : s.size ≤ 30) (hk : k ≤ 1) : Calls Try.prog 11 #[.string ia, .string ib, .string s, .int .i64 k] w (RetBq (Pure.Spl ra rb (Pure.bytesN s) k) w) := by
  have IA := hide ha
  have IB := hide hb
  clear ha hb
  go_enter Try.func11, Try.ntmps11
  go_wp2_with fail
  go_loopg [9] (s.size + 1 - k) (fun gk iv wr => ∃ j : Nat, k ≤ j ∧ j ≤ s.size + 1 ∧ gk = s.size + 1 - j ∧ iv = .int .i64 j ∧ Below w.heap.size w wr ∧ ∀ i, k ≤ i → i < j → Pure.M ra ((Pure.bytesN s).take i) → Pure.M rb ((Pure.bytesN s).drop i) → False)
  case atStart => exact ⟨k, Nat.le_refl _, by omega, rfl, rfl, Below.refl _ _, fun i h1 h2 => by omega⟩
  case round =>
    obtain ⟨j, kj, js, rfl, rfl, hbl, hno⟩ := hrel
    have BL := hide hbl
    have NO := hide hno
    clear hbl hno
    by_cases hj : j ≤ s.size
    · have d1 : decide ((j : Int) ≤ (s.size : Int)) = true := decide_eq_true (by omega)
      have ij0 : (0 : Int) ≤ (j : Int) := by omega
      have ij1 : (j : Int) ≤ (s.size : Int) := by omega
      have wi : IntKind.i64.wrap ((j : Int) + 1) = (j : Int) + 1 := wrap_in _ (by omega) (by omega)
      go_wp2_with fail
      refine (takes_any ra ia (s.extract 0 j) wr IA.out (by rw [ByteArray.size_extract]; omega)).mono ?_
      rintro e w2 ⟨b, rfl, hb2, hM⟩
      rw [Pure.bytesN_beg] at hM
      have B2 := hide (bel0 BL.out hb2)
      have HM := hide hM
      clear BL hb2 hM
      cases b with
      | true =>
        go_wp2_with fail
        refine (takes_any rb ib (s.extract j s.size) w2 IB.out (by rw [ByteArray.size_extract]; omega)).mono ?_
        rintro e w3 ⟨b, rfl, hb3, hN⟩
        rw [Pure.bytesN_full] at hN
        have B3 := hide (bel0 B2.out hb3)
        have HN := hide hN
        clear B2 hb3 hN
        cases b with
        | true =>
          have FIN : Hid (RetBq (Pure.Spl ra rb (Pure.bytesN s) k) w (.returned (.bool true)) w3) := ⟨true, rfl, B3.out, fun _ => ⟨j, kj, by rw [Pure.bytesN_len]; exact hj, HM.out.1 (by trivial), HN.out.1 (by trivial)⟩, fun _ => rfl⟩
          go_wp2
          go_ret
          exact FIN.out
        | false =>
          go_wp2
          go_roundg (s.size + 1 - (j + 1))
          case measure => omega
          case rel =>
            refine ⟨j + 1, by omega, by omega, rfl, by go_num, B3.out, fun i h1 h2 h3 h4 => ?_⟩
            by_cases e : i = j
            · subst e
              exact absurd (HN.out.2 h4) (by decide)
            · exact NO.out i h1 (by omega) h3 h4
      | false =>
        go_wp2
        go_roundg (s.size + 1 - (j + 1))
        case measure => omega
        case rel =>
          refine ⟨j + 1, by omega, by omega, rfl, by go_num, B2.out, fun i h1 h2 h3 h4 => ?_⟩
          by_cases e : i = j
          · subst e
            exact absurd (HM.out.2 h3) (by decide)
          · exact NO.out i h1 (by omega) h3 h4
    · have d1 : decide ((j : Int) ≤ (s.size : Int)) = false := decide_eq_false (by omega)
      have FIN : Hid (RetBq (Pure.Spl ra rb (Pure.bytesN s) k) w (.returned (.bool false)) wr) := ⟨false, rfl, BL.out, by
        constructor
        · intro h; cases h
        · rintro ⟨i, h1, h2, h3, h4⟩
          rw [Pure.bytesN_len] at h2
          exact (NO.out i h1 (by omega) h3 h4).elim⟩
      go_wp2
      go_ret
      exact FIN.out

end Go.Proofs.Ytmccnmgaoppogab

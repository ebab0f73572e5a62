/-
  The walks: a small pattern, a word, a word that is split. (weirkeep)
-/
import Derived.Test.YtmccnmgaoppogabO5
namespace Go.Proofs.Ytmccnmgaoppogab
open Go.RowKit

def littleL : List Value := [.string { data := #[97] }, .string { data := #[98] }, .string { data := #[91, 97, 98, 93] }, .string { data := #[40, 97, 98, 41] }, .string { data := #[40, 97, 124, 98, 41] }, .string { data := #[40, 97, 42, 41] }, .string { data := #[40, 97, 98, 41, 42] }, .string { data := #[40, 97, 124, 98, 41, 63] }, .string { data := #[40, 98, 97, 43, 41] }, .string { data := #[91, 94, 97, 93] }, .string { data := #[46] }, .string { data := #[40, 97, 63, 98, 63, 41] }, .string { data := #[97, 43] }, .string { data := #[40, 91, 98, 45, 99, 93, 97, 41, 42] }, .string { data := #[40, 46, 98, 41] }]
def littleS : List ByteArray := [{ data := #[97] }, { data := #[98] }, { data := #[91, 97, 98, 93] }, { data := #[40, 97, 98, 41] }, { data := #[40, 97, 124, 98, 41] }, { data := #[40, 97, 42, 41] }, { data := #[40, 97, 98, 41, 42] }, { data := #[40, 97, 124, 98, 41, 63] }, { data := #[40, 98, 97, 43, 41] }, { data := #[91, 94, 97, 93] }, { data := #[46] }, { data := #[40, 97, 63, 98, 63, 41] }, { data := #[97, 43] }, { data := #[40, 91, 98, 45, 99, 93, 97, 41, 42] }, { data := #[40, 46, 98, 41] }]

set_option maxRecDepth 100000 in
set_option maxHeartbeats 4000000 in
theorem little_any (k : Int) (w : World) (h0 : -9223372036854775808 ≤ k) (h1 : k ≤ 9223372036854775807) : Calls Try.prog 6 #[.int .i64 k] w (fun e w' => ∃ s q, e = .returned (.string s) ∧ Below w.heap.size w w' ∧ q ∈ Pure.littles ∧ Pure.bytesN s = q.1) := by
  obtain ⟨i, hi, i14⟩ : ∃ i : Nat, Pure.pk k 15 = (i : Int) ∧ i ≤ 14 := by
    have h1 : 0 ≤ Pure.pk k 15 := by unfold Pure.pk; omega
    have h2 : Pure.pk k 15 < 15 := by unfold Pure.pk; omega
    exact ⟨(Pure.pk k 15).toNat, by omega, by omega⟩
  have PICK := hide (fun W => pick_big k 15 W h0 h1 (by omega) (by omega))
  rw [hi] at PICK
  clear hi h0 h1
  obtain ⟨s, q, hs, hq, hsq⟩ : ∃ (s : ByteArray) (q : List Nat × Pure.Re), littleL[i]? = some (.string s) ∧ q ∈ Pure.littles ∧ Pure.bytesN s = q.1 := by
    have e : littleL = (littleS.map Value.string) := rfl
    have hl : i < littleS.length := by show i < 15; omega
    have hl2 : i < Pure.littles.length := by show i < 15; omega
    have em : littleS.map Pure.bytesN = Pure.littles.map Prod.fst := by decide
    refine ⟨littleS[i], Pure.littles[i], ?_, List.getElem_mem _, ?_⟩
    · rw [e, List.getElem?_map, List.getElem?_eq_getElem hl]
      rfl
    · have := congrArg (fun l => l[i]?) em
      simp only [List.getElem?_map, List.getElem?_eq_getElem hl, List.getElem?_eq_getElem hl2, Option.map_some] at this
      exact Option.some.inj this
  unfold littleL at hs
  go_enter Try.func6, Try.ntmps6
  go_wp2_with fail
  refine (PICK.out _).mono ?_
  clear PICK
  rintro e w1 ⟨rfl, rfl⟩
  go_wp2
  go_ret
  exact ⟨s, q, rfl, (Below.refl _ _).alloc (Nat.le_refl _) _, hq, hsq⟩

theorem Bytes.text {B : Nat} {w : World} {v : Value} {xs : List Int} (h : Bytes B w v xs) :
    ∃ ao cap, v = .slice ao xs.length cap ∧ ∃ t, (convert 50 9 (.slice ao xs.length cap)).run Try.prog w = .ok (.string t) w ∧ t.size = xs.length := by
  by_cases hx : 0 < xs.length
  · obtain ⟨g, cap, h1, h2⟩ := Bytes.str h hx
    exact ⟨_, cap, h1, _, h2, by simp [strOfNums, ByteArray.size]⟩
  · have e : xs = [] := List.eq_nil_of_length_eq_zero (by omega)
    subst e
    rcases h.2 with h | ⟨b, cap, C, h1, _⟩
    · exact ⟨none, 0, h.1, _, run_convert_bytes_string w 50 9 5 none 0 0 Try.underlying50 Try.underlying5 Try.underlying9, rfl⟩
    · exact ⟨_, cap, h1, _, run_convert_bytes_arg w 50 5 Try.underlying50 Try.underlying5 b 0 0 cap [] rfl (fun i hi => absurd hi (Nat.not_lt_zero _)) 9 Try.underlying9, rfl⟩

set_option maxRecDepth 100000 in
set_option maxHeartbeats 4000000 in
theorem word_any (s : ByteArray) (w : World) : Calls Try.prog 7 #[.string s] w (fun e w' => ∃ t : ByteArray, e = .returned (.string t) ∧ Below w.heap.size w w' ∧ t.size ≤ 30) := by
  obtain ⟨i0, hi, hz0, hz1, hz2⟩ := info_parts Try.info5
  go_enter Try.func7, Try.ntmps7
  go_wp2_with fail
  go_loopw [3, 4] (fun b i wr => ∃ (k : Nat) (b' : Value) (xs : List Int), k ≤ 30 ∧ k ≤ s.size ∧ i = .int .i64 k ∧ b' = b ∧ xs.length ≤ k ∧ Bytes w.heap.size wr b' xs ∧ Below w.heap.size w wr) (fun _ i _ => 30 - (intOf i).toNat)
  case atStart => exact ⟨0, _, [], by omega, by omega, rfl, rfl, Nat.le_refl _, own_nil _ _ _ _, Below.refl _ _⟩
  case round =>
    obtain ⟨k, b, xs, k30, ks, rfl, rfl, hx, hB, hb⟩ := hrel
    have HB := hide hB
    have HX := hide hx
    have BB := hide hb
    clear hb
    by_cases hlt : k < s.size ∧ k < 30
    · have d1 : decide ((k : Int) < (s.size : Int)) = true := decide_eq_true (by omega)
      have d2 : decide ((k : Int) < 30) = true := decide_eq_true (by omega)
      have ik0 : (0 : Int) ≤ (k : Int) := by omega
      have ik1 : (k : Int) < (s.size : Int) := by omega
      have ix := fun w => idx_str s (k : Int) k rfl hlt.1 w
      have wi : IntKind.i64.wrap ((k : Int) + 1) = (k : Int) + 1 := wrap_in _ (by omega) (by omega)
      clear hB hx
      generalize hxl : xs.length = xn at *
      have HXL := hide hxl
      clear hxl
      go_wp2_with (at_builtin; refine wpList_append_own _ rfl (.tmp 15) (.tmp 21) 50 rfl w.heap.size 5 i0 (.int .u8 0) 1 1 Try.underlying50 hi hz0 hz1 hz2 rfl (by decide) b xn (u8s xs) rfl (World.ownsRow.alloc (by have := HB.out; unfold Bytes at this; rw [HXL.out] at this; exact this) _) ⟨wr.heap.size, 0, none⟩ 1 1 (u8s [(97 + (bt s k).tmod 3) % 256]) rfl rfl (cell_list rfl) (by intro u hu; simp [u8s] at hu; subst hu; rfl) (by have := HX.out; unfold maxLen; omega) (by have := HX.out; omega) (by have := BB.out.size; simp; omega) ?_; intro v2 w2 hown2 hgrow2 _)
      go_roundw
      case rel => exact ⟨k + 1, _, xs ++ [_], by omega, by omega, by go_num, rfl, by simp; have := HX.out; have := HXL.out; omega, Bytes.on (by have := HXL.out; simp; omega) hown2, Below.grown (Below.alloc BB.out BB.out.size _) hgrow2 (by have := BB.out.size; simp; omega) (fun j e => (World.ownsRow.lt HB.out j e).1)⟩
      case measure => simp [intOf]; omega
    · obtain ⟨ao, cap, rfl, t, hcv, hts⟩ := Bytes.text hB
      have FIN : Hid (∃ t' : ByteArray, Ending.returned (.string t) = .returned (.string t') ∧ Below w.heap.size w wr ∧ t'.size ≤ 30) := ⟨t, rfl, BB.out, by omega⟩
      clear hB hx HX HB
      generalize xs.length = xn at *
      clear hts
      by_cases h1 : k < s.size
      · have d1 : decide ((k : Int) < (s.size : Int)) = true := decide_eq_true (by omega)
        have d2 : decide ((k : Int) < 30) = false := decide_eq_false (by omega)
        go_wp2
        go_ret
        exact FIN.out
      · have d1 : decide ((k : Int) < (s.size : Int)) = false := decide_eq_false (by omega)
        go_wp2
        go_ret
        exact FIN.out

end Go.Proofs.Ytmccnmgaoppogab

/-
  The walks: words, and how they are told in a pattern. (weirkeep)
-/
import Derived.Test.YtmccnmgaoppogaaNB
import Derived.Test.YtmccnmgaoppogaaN4
namespace Go.Proofs.Ytmccnmgaoppogaa
open Go.RowKit

namespace Pure
def bytesN (s : ByteArray) : List Nat := s.data.toList.map UInt8.toNat
theorem bytesN_len (s : ByteArray) : (bytesN s).length = s.size := by
  unfold bytesN
  rw [List.length_map, Array.length_toList]
  rfl
theorem bytesN_get (s : ByteArray) (i x : Nat) (h : (bytesN s)[i]? = some x) : bt s i = (x : Int) := by
  unfold bytesN at h
  rw [List.getElem?_map] at h
  unfold bt
  rw [List.getD_eq_getElem?_getD]
  cases hb : s.data.toList[i]? with
  | none => rw [hb] at h; cases h
  | some b =>
    rw [hb] at h
    have : b.toNat = x := by simpa using h
    rw [← this]
    rfl
theorem holds_bytes (s : ByteArray) : Holds s (bytesN s) := ⟨(bytesN_len s).symm, bytesN_get s⟩
theorem bytesN_append (a b : ByteArray) : bytesN (a ++ b) = bytesN a ++ bytesN b := by simp [bytesN]
theorem bytesN_inj {a b : ByteArray} (h : bytesN a = bytesN b) : a = b := by
  apply ByteArray.ext
  apply Array.ext'
  unfold bytesN at h
  exact (List.map_inj_right (fun x y e => UInt8.toNat_inj.1 e)).1 h
theorem bytesN_byt (s : ByteArray) : Byt (bytesN s) := fun c hc => by
  obtain ⟨b, _, rfl⟩ := List.mem_map.1 hc
  exact UInt8.toNat_lt b
theorem bytesN_nums {xs : List Int} (h : ∀ x ∈ xs, 0 ≤ x ∧ x ≤ 255) : bytesN (strOfNums xs) = xs.map Int.toNat := by
  apply List.ext_getElem?
  intro i
  have hs : (strOfNums xs).size = xs.length := by simp [strOfNums, ByteArray.size]
  by_cases c : i < xs.length
  · have e1 : (bytesN (strOfNums xs))[i]? = some ((bytesN (strOfNums xs))[i]'(by rw [bytesN_len, hs]; exact c)) := List.getElem?_eq_getElem _
    have e2 := bytesN_get _ _ _ e1
    rw [bt_str (fun x hx => by have := h x hx; unfold Bytes at *; omega)] at e2
    rw [e1, List.getElem?_map, List.getElem?_eq_getElem c]
    rw [List.getD_eq_getElem?_getD, List.getElem?_eq_getElem c] at e2
    simp only [Option.getD_some] at e2
    simp [e2]
  · rw [List.getElem?_eq_none (by rw [bytesN_len, hs]; omega), List.getElem?_eq_none (by rw [List.length_map]; omega)]
end Pure

/-- the first eight bytes of a word; of the empty one an x -/
def shortB (s : ByteArray) : ByteArray := if s.size = 0 then ⟨#[120]⟩ else if 8 < s.size then s.extract 0 8 else s
theorem short_bd (s : ByteArray) : Pure.bytesN (shortB s) ≠ [] ∧ (Pure.bytesN (shortB s)).length ≤ 8 := by
  have key : 1 ≤ (shortB s).size ∧ (shortB s).size ≤ 8 := by
    unfold shortB
    split
    · exact ⟨by decide, by decide⟩
    · split
      · rw [ByteArray.size_extract]; omega
      · omega
  rw [← Pure.bytesN_len] at key
  exact ⟨fun h => by rw [h] at key; simp at key, key.2⟩

set_option maxRecDepth 100000 in
set_option maxHeartbeats 4000000 in
theorem short_any (s : ByteArray) (w : World) : Calls Try.prog 40 #[.string s] w (RetVal (.string (shortB s)) w) := by
  by_cases h0 : s.size = 0
  · have es : s = ⟨#[]⟩ := by
      apply ByteArray.ext
      exact Array.eq_empty_of_size_eq_zero h0
    subst es
    go_enter Try.func40, Try.ntmps40
    go_wp2
    go_ret
    exact ⟨rfl, Below.refl _ _⟩
  · have e1 : s.toList.isEmpty = false := by
      cases hl : s.toList with
      | nil =>
        exfalso
        have h1 : s.toList = s.data.toList := ByteArray.toList_eq s
        rw [h1] at hl
        have h2 : s.data.toList.length = 0 := by rw [hl]; rfl
        rw [Array.length_toList] at h2
        exact h0 h2
      | cons x r => rfl
    by_cases h8 : 8 < s.size
    · have d1 : decide ((8 : Int) < (s.size : Int)) = true := decide_eq_true (by omega)
      have R : Hid (shortB s = s.extract 0 8) := by show _ = _; unfold shortB; rw [if_neg h0, if_pos h8]
      go_enter Try.func40, Try.ntmps40
      go_wp2
      go_ret
      exact ⟨by rw [R.out]; rfl, Below.refl _ _⟩
    · have d1 : decide ((8 : Int) < (s.size : Int)) = false := decide_eq_false (by omega)
      have R : Hid (shortB s = s) := by show _ = _; unfold shortB; rw [if_neg h0, if_neg h8]
      go_enter Try.func40, Try.ntmps40
      go_wp2
      go_ret
      exact ⟨by rw [R.out]; rfl, Below.refl _ _⟩

/-- a byte, as it is told -/
def RetEsc (c : Nat) (w : World) (e : Ending) (w' : World) : Prop := ∃ t, e = .returned (.string t) ∧ Pure.bytesN t = Pure.escB c ∧ Below w.heap.size w w'

theorem conv_one (w : World) (c : Nat) (_hc : c < 256) : (convert 109 9 (.slice (some ⟨w.heap.size, 0, none⟩) 1 1)).run Try.prog (w.alloc (.cells #[.int .u8 (c : Int)] 5)) = .ok (.string (strOfNums [(c : Int)])) (w.alloc (.cells #[.int .u8 (c : Int)] 5)) := by
  have h := own_lit (B := 0) (w := w) (xs := [(c : Int)]) (n := 1) (g := w.heap.size) (Nat.zero_le _) rfl (by omega) rfl
  obtain ⟨g, cap, e, hr⟩ := h.str (by simp)
  cases e
  exact hr
theorem one_nums (c : Nat) (hc : c < 256) : Pure.bytesN (strOfNums [(c : Int)]) = [c] := by
  rw [Pure.bytesN_nums (fun x hx => by simp at hx; omega)]
  simp

set_option maxRecDepth 100000 in
set_option maxHeartbeats 4000000 in
theorem kescaped_any (c : Nat) (w : World) (hc : c < 256) : Calls Try.prog 41 #[.int .u8 (c : Int)] w (RetEsc c w) := by
  have hb : Below w.heap.size w (w.alloc (.cells #[.int .u8 (c : Int)] 5)) := (Below.refl _ _).alloc (Nat.le_refl _) _
  have cv := conv_one w c hc
  have HB := hide hb
  have ON := hide (one_nums c hc)
  clear hb
  by_cases c1 : c = 10
  · subst c1
    clear cv
    go_enter Try.func41, Try.ntmps41
    go_wp2
    go_ret
    exact ⟨_, rfl, rfl, Below.refl _ _⟩
  · by_cases c2 : c = 32
    · subst c2
      clear cv
      go_enter Try.func41, Try.ntmps41
      go_wp2
      go_ret
      exact ⟨_, rfl, rfl, Below.refl _ _⟩
    · by_cases c3 : c = 40 ∨ c = 41 ∨ c = 91 ∨ c = 93 ∨ c = 42 ∨ c = 43 ∨ c = 63 ∨ c = 124 ∨ c = 46 ∨ c = 92
      · have R : Hid (∀ t, Pure.bytesN t = [c] → Pure.bytesN ((⟨#[92]⟩ : ByteArray) ++ t) = Pure.escB c) := fun t ht => by
          rw [Pure.bytesN_append, ht]
          unfold Pure.escB
          rw [if_neg c1, if_neg c2, if_pos c3]
          rfl
        generalize strOfNums [(c : Int)] = t at *
        generalize hci : (c : Int) = ci at *
        have RC := hide R.out
        have ts : ¬ 9223372036854775807 < 1 + t.size := by
          have h1 := congrArg List.length ON.out
          rw [Pure.bytesN_len] at h1
          simp only [List.length_cons, List.length_nil] at h1
          omega
        clear R
        rcases c3 with h | h | h | h | h | h | h | h | h | h
        · have e : ci = 40 := by omega
          subst e
          clear hci
          go_enter Try.func41, Try.ntmps41
          go_wp2
          go_ret
          exact ⟨_, rfl, RC.out _ ON.out, HB.out⟩
        · have e : ci = 41 := by omega
          subst e
          clear hci
          go_enter Try.func41, Try.ntmps41
          go_wp2
          go_ret
          exact ⟨_, rfl, RC.out _ ON.out, HB.out⟩
        · have e : ci = 91 := by omega
          subst e
          clear hci
          go_enter Try.func41, Try.ntmps41
          go_wp2
          go_ret
          exact ⟨_, rfl, RC.out _ ON.out, HB.out⟩
        · have e : ci = 93 := by omega
          subst e
          clear hci
          go_enter Try.func41, Try.ntmps41
          go_wp2
          go_ret
          exact ⟨_, rfl, RC.out _ ON.out, HB.out⟩
        · have e : ci = 42 := by omega
          subst e
          clear hci
          go_enter Try.func41, Try.ntmps41
          go_wp2
          go_ret
          exact ⟨_, rfl, RC.out _ ON.out, HB.out⟩
        · have e : ci = 43 := by omega
          subst e
          clear hci
          go_enter Try.func41, Try.ntmps41
          go_wp2
          go_ret
          exact ⟨_, rfl, RC.out _ ON.out, HB.out⟩
        · have e : ci = 63 := by omega
          subst e
          clear hci
          go_enter Try.func41, Try.ntmps41
          go_wp2
          go_ret
          exact ⟨_, rfl, RC.out _ ON.out, HB.out⟩
        · have e : ci = 124 := by omega
          subst e
          clear hci
          go_enter Try.func41, Try.ntmps41
          go_wp2
          go_ret
          exact ⟨_, rfl, RC.out _ ON.out, HB.out⟩
        · have e : ci = 46 := by omega
          subst e
          clear hci
          go_enter Try.func41, Try.ntmps41
          go_wp2
          go_ret
          exact ⟨_, rfl, RC.out _ ON.out, HB.out⟩
        · have e : ci = 92 := by omega
          subst e
          clear hci
          go_enter Try.func41, Try.ntmps41
          go_wp2
          go_ret
          exact ⟨_, rfl, RC.out _ ON.out, HB.out⟩
      · have R : Hid (Pure.escB c = [c]) := by
          show _ = _
          unfold Pure.escB
          rw [if_neg c1, if_neg c2, if_neg c3]
        have f1 : ((c : Int) == 10) = false := by simp; omega
        have f2 : ((c : Int) == 32) = false := by simp; omega
        have f3 : ((c : Int) == 40) = false := by simp; omega
        have f4 : ((c : Int) == 41) = false := by simp; omega
        have f5 : ((c : Int) == 91) = false := by simp; omega
        have f6 : ((c : Int) == 93) = false := by simp; omega
        have f7 : ((c : Int) == 42) = false := by simp; omega
        have f8 : ((c : Int) == 43) = false := by simp; omega
        have f9 : ((c : Int) == 63) = false := by simp; omega
        have f10 : ((c : Int) == 124) = false := by simp; omega
        have f11 : ((c : Int) == 46) = false := by simp; omega
        have f12 : ((c : Int) == 92) = false := by simp; omega
        have g1 : ¬ (c : Int) = 10 := by omega
        have g2 : ¬ (c : Int) = 32 := by omega
        have g3 : ¬ (c : Int) = 40 := by omega
        have g4 : ¬ (c : Int) = 41 := by omega
        have g5 : ¬ (c : Int) = 91 := by omega
        have g6 : ¬ (c : Int) = 93 := by omega
        have g7 : ¬ (c : Int) = 42 := by omega
        have g8 : ¬ (c : Int) = 43 := by omega
        have g9 : ¬ (c : Int) = 63 := by omega
        have g10 : ¬ (c : Int) = 124 := by omega
        have g11 : ¬ (c : Int) = 46 := by omega
        have g12 : ¬ (c : Int) = 92 := by omega
        generalize strOfNums [(c : Int)] = t at *
        go_enter Try.func41, Try.ntmps41
        go_wp2
        go_ret
        exact ⟨_, rfl, by rw [R.out]; exact ON.out, HB.out⟩

end Go.Proofs.Ytmccnmgaoppogaa

/-
  The walks: bytes that are read. (images)
-/
import Derived.Test.YtmccnmgaoppogaaMem
import Derived.Deep.RegionHeld3
import Derived.Deep.AppendLies
import Derived.Deep.QuietTactic
import Derived.BigQuiet
import Derived.Laws.IdiomStrings
import Derived.Test.YtmccnmgaoppogaaW11
namespace Go.Proofs.Ytmccnmgaoppogaa
open Go.RowKit

theorem Try.inff3 : (Try.prog.info? 3).map (fun i => (i.zero, i.size, i.bytes)) = some (some (.int .i64 0), 1, 8) := by kernel_rfl

set_option maxHeartbeats 400000 in
theorem pair_any (a b : Int) (w : World) (ha0 : 0 ≤ a) (ha : a ≤ 255) (hb0 : 0 ≤ b) (hb : b ≤ 255) :
    Calls Try.prog 82 #[.int .u8 a, .int .u8 b] w fun e w' => e = .returned (.int .i64 (a + b * 256)) ∧ w = w' := by
  go_enter Try.func82, Try.ntmps82
  go_wp2
  go_ret
  exact ⟨rfl, rfl⟩

theorem wrap_in (x : Int) (h0 : -9223372036854775808 ≤ x) (h1 : x ≤ 9223372036854775807) : IntKind.i64.wrap x = x := by
  rw [IntKind.wrap_i64]; omega

theorem pair_any' (a b : Int) (w : World) (ha : 0 ≤ a ∧ a ≤ 255) (hb : 0 ≤ b ∧ b ≤ 255) :
    Calls Try.prog 82 #[.int .u8 a, .int .u8 b] w fun e w' => e = .returned (.int .i64 (a + b * 256)) ∧ w' = w :=
  (pair_any a b w ha.1 ha.2 hb.1 hb.2).mono fun _ _ h => ⟨h.1, h.2.symm⟩

/-- the byte at a place -/
def bt (s : ByteArray) (n : Nat) : Int := ((s.data.toList.getD n 0).toNat : Int)
theorem bt_bd (s : ByteArray) (n : Nat) : 0 ≤ bt s n ∧ bt s n ≤ 255 := by
  unfold bt
  have := UInt8.toNat_lt (s.data.toList.getD n 0)
  omega
theorem idx_str (s : ByteArray) (i : Int) (n : Nat) (hi : i = n) (h : n < s.size) (w : World) : (Instr.index 9 (.string s) (.int .i64 i)).run Try.prog w = .ok (.int .u8 (bt s n)) w := by
  subst hi
  rw [run_index_string w _ _ _ _ Try.underlying9, dif_pos (by omega)]
  have e : bt s n = (((s[(n : Int).toNat]'(by simpa using h)).toNat : Nat) : Int) := by
    have h' : n < s.data.size := h
    unfold bt
    simp only [Int.toNat_natCast]
    rw [List.getD_eq_getElem?_getD, List.getElem?_eq_getElem (by simpa using h')]
    rfl
  rw [e]

def pr (s : ByteArray) (n : Nat) : Int := bt s n + bt s (n + 1) * 256
def entsOf (s : ByteArray) (at0 k : Nat) : List Int := (List.range k).map (fun i => pr s (at0 + 2 * i))
def rulesOf (s : ByteArray) (at0 k : Nat) : List Pure.Rule := (List.range k).map (fun i => ⟨bt s (at0 + 3 * i), bt s (at0 + 3 * i + 1), bt s (at0 + 3 * i + 2)⟩)
def codeOf (s : ByteArray) (at0 k : Nat) : List Pure.Ins := (List.range k).map (fun i => ⟨bt s (at0 + 5 * i), bt s (at0 + 5 * i + 1), bt s (at0 + 5 * i + 2), pr s (at0 + 5 * i + 3)⟩)

theorem ents_step (s : ByteArray) (at0 k : Nat) : intCells (entsOf s at0 (k + 1)) = intCells (entsOf s at0 k) ++ [.int .i64 (bt s (at0 + 2 * k) + bt s (at0 + 2 * k + 1) * 256)] := by
  simp [entsOf, intCells, List.range_succ, pr]
theorem rules_step (s : ByteArray) (at0 k : Nat) : ruleCells (rulesOf s at0 (k + 1)) = ruleCells (rulesOf s at0 k) ++ [.int .i64 (bt s (at0 + 3 * k)), .int .i64 (bt s (at0 + 3 * k + 1)), .int .i64 (bt s (at0 + 3 * k + 2))] := by
  unfold rulesOf ruleCells
  rw [List.range_succ, List.map_append, List.flatMap_append]
  simp
theorem code_step (s : ByteArray) (at0 k : Nat) : insCells (codeOf s at0 (k + 1)) = insCells (codeOf s at0 k) ++ [.int .i64 (bt s (at0 + 5 * k)), .int .i64 (bt s (at0 + 5 * k + 1)), .int .i64 (bt s (at0 + 5 * k + 2)), .int .i64 (bt s (at0 + 5 * k + 3) + bt s (at0 + 5 * k + 3 + 1) * 256)] := by
  unfold codeOf insCells
  rw [List.range_succ, List.map_append, List.flatMap_append]
  simp [pr]
theorem entsOf_len (s : ByteArray) (at0 k : Nat) : (entsOf s at0 k).length = k := by simp [entsOf]
theorem rulesOf_len (s : ByteArray) (at0 k : Nat) : (rulesOf s at0 k).length = k := by simp [rulesOf]
theorem codeOf_len (s : ByteArray) (at0 k : Nat) : (codeOf s at0 k).length = k := by simp [codeOf]

/-- a list of n elements of type e comes back in a row of the call's own -/
def RetRow (e size n : Nat) (xs : List Value) (w : World) (en : Ending) (w' : World) : Prop := ∃ v, en = .returned v ∧ Below w.heap.size w w' ∧ w'.ownsRow w.heap.size e size v n xs

theorem below_step {B : Nat} {w wr w2 : World} {o : Obj} {row : Option Nat} (h : Below B w wr) (hB : B ≤ wr.heap.size) (hg : (wr.alloc o).drew.grownBy w2 row) (hr : ∀ k, row = some k → B ≤ k) : Below B w w2 := by
  refine ((h.alloc hB o).drew).grown hg ?_ hr
  show B ≤ (wr.alloc o).heap.size
  simp; omega

theorem cell_list3 {w : World} {xs : List Value} {t : TypeId} {n : Nat} (hn : n = w.heap.size) (j : Nat) (u : Value) (h : xs[j]? = some u) : (w.alloc (.cells xs.toArray t)).cell? ((⟨n, 0, none⟩ : Addr).add j) = some u := by
  subst hn
  have : (w.alloc (.cells xs.toArray t)).cell? ⟨w.heap.size, j, none⟩ = some u := by
    rw [World.cell?_alloc_mark]; simpa using h
  by_cases hj : j = 0
  · subst hj; simpa [Addr.add] using this
  · simpa [Addr.add, hj] using this

set_option maxRecDepth 100000 in
set_option maxHeartbeats 2000000 in
theorem readEntries_any (s : ByteArray) (w : World) (hs : s.size ≤ 1000000) :
    Calls Try.prog 83 #[.string s] w (RetRow 3 1 (s.size / 2) (intCells (entsOf s 0 (s.size / 2))) w) := by
  obtain ⟨i0, hi, hz0, hz1, hz2⟩ := info_parts Try.inff3
  go_enter Try.func83, Try.ntmps83
  go_wp2_with (at_make; refine wpList_make_own _ rfl _ _ 22 rfl w.heap.size 3 i0 (.int .i64 0) 1 Try.underlying22 hi hz0 hz1 _ _ _ (s.size / 2) rfl rfl (by omega) (by rw [hz2]; omega) (by unfold maxLen; omega) (Nat.le_refl _) ?_; intro w1 hown1 hgrow1)
  have hbel1 : Below w.heap.size w w1 := (Below.refl _ _).grown hgrow1 (Nat.le_refl _) (fun k h => by cases h)
  have HO := hide hown1
  clear hown1 hgrow1
  go_loopw [3, 4] (fun f i wr => ∃ (k : Nat) (f' : Value), k ≤ s.size / 2 ∧ i = .int .i64 ((2 * k : Nat) : Int) ∧ f' = f ∧ Below w.heap.size w wr ∧ wr.ownsRow w.heap.size 3 1 f' k (intCells (entsOf s 0 k))) (fun _ i _ => s.size + 2 - (intOf i).toNat)
  case atStart => exact ⟨0, _, Nat.zero_le _, rfl, rfl, hbel1, HO.out⟩
  case round =>
    clear HO hbel1
    obtain ⟨k, f, hk, rfl, rfl, hbel, hown⟩ := hrel
    by_cases hlt : 2 * k + 2 ≤ s.size
    · have hk1 : k + 1 ≤ s.size / 2 := by omega
      have hst := ents_step s 0 k
      have HST := hide hst
      clear hst
      rw [Nat.zero_add] at HST
      generalize ha : 2 * k = a at *
      have HA := hide ha
      clear ha
      have x0 := fun w => idx_str s (a : Int) a rfl (by omega) w
      have x1 := fun w => idx_str s ((a : Int) + 1) (a + 1) (by omega) (by omega) w
      have b0 := bt_bd s a
      have b1 := bt_bd s (a + 1)
      generalize bt s a = p0 at *
      generalize bt s (a + 1) = p1 at *
      have j0 : (0 : Int) ≤ (a : Int) := by omega
      have j1 : (a : Int) < (s.size : Int) := by omega
      have j2 : (0 : Int) ≤ (a : Int) + 1 := by omega
      have j3 : (a : Int) + 1 < (s.size : Int) := by omega
      have wr1 : IntKind.i64.wrap ((a : Int) + 1) = (a : Int) + 1 := wrap_in _ (by omega) (by omega)
      have HO := hide hown
      clear hown
      go_wp2_with fail
      go_region_held3 (fun _ => True) (trivial) (first | (refine step_append_lies _ (by rfl) _ _ _ (by rfl) w.heap.size 3 i0 _ 1 8 Try.underlying22 hi hz0 hz1 hz2 rfl (by omega) f k (intCells (entsOf s 0 k)) (by rfl) ((World.ownsRow.alloc HO.out _).drew) ⟨wr.heap.size, 0, none⟩ 1 1 [.int .i64 (p0 + p1 * 256)] (by rfl) (by rfl) (World.news_of_block (cs := #[.int .i64 (p0 + p1 * 256)]) (t := 3) (fr := (0, 0)) (heap_alloc_new wr _)) (by simp [Value.oneCell']) (by omega) (by unfold maxLen; omega) (by omega) (by have := hbel.size; simp; omega) (wr.heap.size + 1) (by simp) ?_; intro g2 cap2 w2 hown2 hgrow2 hat2 hlt2) | (go_at_call 82; refine (pair_any _ _ _ b0.1 b0.2 b1.1 b1.2).mono ?_; rintro e w' ⟨rfl, rfl⟩))
      all_goals
        have hbel2 : Below w.heap.size w w2 := below_step hbel hbel.size hgrow2 (fun k' h => (World.ownsRow.lt HO.out k' h).1)
        rw [← HST.out] at hown2
        clear hgrow2 hat2 hlt2 x0 x1
        go_wp2
        go_roundw
        case rel => exact ⟨k + 1, _, hk1, by have := HA.out; go_num, rfl, hbel2, hown2⟩
        case measure => simp [intOf]; omega
    · have hke : k = s.size / 2 := by omega
      subst hke
      go_wp2
      go_ret
      exact ⟨_, rfl, hbel, hown⟩

end Go.Proofs.Ytmccnmgaoppogaa

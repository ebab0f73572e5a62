/-
  The walks: bytes by value. (rules)
-/
import Derived.Test.YtmccnmgaoppogaaE3
import Derived.Deep.WholeRow
import Derived.Deep.MidRow
namespace Go.Proofs.Ytmccnmgaoppogaa
open Go.RowKit

/-- of each byte, whether it is one of them -/
def bitsL (T : Nat → Bool) : List Value := (List.range 256).map (fun n => .bool (T n))
theorem bitsL_length (T : Nat → Bool) : (bitsL T).length = 256 := by simp [bitsL]
theorem bitsL_get (T : Nat → Bool) {n : Nat} (h : n < 256) : (bitsL T)[n]? = some (.bool (T n)) := by
  rw [bitsL, List.getElem?_map, List.getElem?_range h]
  rfl
theorem bitsL_set (T : Nat → Bool) {k : Nat} (b : Bool) : (bitsL T).set k (.bool b) = bitsL (fun n => if n = k then b else T n) := by
  apply List.ext_getElem?
  intro i
  rw [List.getElem?_set]
  by_cases hi : i < 256
  · rw [bitsL_get _ hi, bitsL_get _ hi, bitsL_length]
    by_cases hk : k = i
    · subst hk
      simp [hi]
    · have : ¬i = k := fun e => hk e.symm
      simp [hk, this]
  · rw [List.getElem?_eq_none (by rw [bitsL_length]; omega), List.getElem?_eq_none (by rw [bitsL_length]; omega), bitsL_length]
    split
    · rw [if_neg (by omega)]
    · rfl
theorem bitsL_one (T : Nat → Bool) : ∀ v ∈ bitsL T, v.oneCell' = true := by
  intro v hv
  simp only [bitsL, List.mem_map] at hv
  obtain ⟨n, _, rfl⟩ := hv
  rfl
abbrev bitsV (T : Nat → Bool) : Value := .agg (bitsL T).toArray

theorem bits_info : (Try.prog.info? 246).map (fun i => (i.zero, i.size)) = some (some (.agg (List.replicate 256 (Value.bool false)).toArray), 256) := by kernel_rfl
theorem bits_zero : (List.replicate 256 (Value.bool false)) = bitsL Pure.noneB := by
  apply List.ext_getElem?
  intro i
  by_cases hi : i < 256
  · rw [bitsL_get _ hi, List.getElem?_replicate_of_lt hi]
    rfl
  · rw [List.getElem?_eq_none (by rw [List.length_replicate]; omega), List.getElem?_eq_none (by rw [bitsL_length]; omega)]
theorem bits_zeroV (w : World) : (zeroValue 246).run Try.prog w = .ok (bitsV Pure.noneB) w := by
  have := (zero_of_info bits_info).1 w
  rw [bits_zero] at this
  exact this
theorem bits_size : (Try.prog.info? 246).map (·.size) = some 256 := (zero_of_info bits_info).2

theorem blk_setCells {g t : Nat} : ∀ (vs pre post : List Value) (W : World), Blk W g t (pre ++ post) → post.length = vs.length → Blk (W.setCells g pre.length vs) g t (pre ++ vs) := by
  intro vs
  induction vs with
  | nil =>
    intro pre post W h hl
    have : post = [] := List.eq_nil_of_length_eq_zero hl
    subst this
    exact h
  | cons v vs ih =>
    intro pre post W h hl
    cases post with
    | nil => simp at hl
    | cons p post =>
      have h1 := blk_set h pre.length v
      have e : (pre ++ p :: post).set pre.length v = (pre ++ [v]) ++ post := by
        rw [List.set_append_right _ _ (Nat.le_refl _), Nat.sub_self]
        simp
      rw [e] at h1
      have := ih (pre ++ [v]) post _ h1 (by simpa using hl)
      show Blk ((W.setCell ⟨g, pre.length, none⟩ v).setCells g (pre.length + 1) vs) g t _
      rw [List.length_append, List.length_singleton] at this
      simpa using this
theorem blk_stored {W : World} {g t : Nat} {xs : List Value} (vs : List Value) (h : Blk W g t xs) (hl : xs.length = vs.length) : Blk (W.setCells g 0 vs) g t vs := blk_setCells vs [] xs W h hl
theorem blk_setCells_other {g g' t : Nat} {xs : List Value} : ∀ (vs : List Value) (o : Nat) (W : World), Blk W g t xs → g ≠ g' → Blk (W.setCells g' o vs) g t xs := by
  intro vs
  induction vs with
  | nil => intro o W h _; exact h
  | cons v vs ih => intro o W h hne; exact ih (o + 1) _ (blk_other h hne o v) hne
theorem below_cells {B g : Nat} {a : World} (hg : B ≤ g) : ∀ (vs : List Value) (o : Nat) (W : World), Below B a W → Below B a (W.setCells g o vs) := by
  intro vs
  induction vs with
  | nil => intro o W h; exact h
  | cons v vs ih => intro o W h; exact ih (o + 1) _ (h.setCell hg v)
theorem blk_range {W : World} {g t : Nat} {xs : List Value} (h : Blk W g t xs) : W.rangeAt g 0 xs := fun j v hv => by
  rw [Nat.zero_add]
  exact blk_cell h hv
theorem blk_there {W : World} {g t : Nat} {xs : List Value} (h : Blk W g t xs) : W.there g 0 xs.length := fun j hj => by
  rw [Nat.zero_add]
  refine ⟨?_, blk_frozen h j⟩
  rw [blk_cell h (List.getElem?_eq_getElem hj)]
  rfl

section
variable {W : World} {g : Nat} {T : Nat → Bool}
theorem bits_load (h : Blk W g 246 (bitsL T)) : (Instr.loadAt 246 (.pointer (some ⟨g, 0, none⟩))).run Try.prog W = .ok (.agg (bitsL T).toArray) W :=
  run_loadAt_mid W g 0 246 (bitsL T) _ (blk_range h) Try.underlying246 rfl (by rw [bitsL_length]; exact bits_size)
theorem bits_loadVar (h : Blk W g 246 (bitsL T)) : (loadVar 246 ⟨g, 0, none⟩).run Try.prog W = .ok (.agg (bitsL T).toArray) W :=
  run_loadVar_mid W g 0 246 (bitsL T) _ (blk_range h) Try.underlying246 rfl (by rw [bitsL_length]; exact bits_size)
theorem bits_store (h : Blk W g 246 (bitsL T)) (T' : Nat → Bool) : (Instr.storeAt 246 (.pointer (some ⟨g, 0, none⟩)) (.agg (bitsL T').toArray)).run Try.prog W = .ok () (W.setCells g 0 (bitsL T')) := by
  have := run_storeAt_mid (P := Try.prog) W g 0 246 (bitsL T').toArray (by have := blk_there h; rw [bitsL_length] at this; simpa [bitsL_length] using this) (by simp only [List.size_toArray, bitsL_length]; exact bits_size) (all_oneCell_toArray (bitsL_one T'))
  simpa using this
theorem bits_stored (h : Blk W g 246 (bitsL T)) (T' : Nat → Bool) : Blk (W.setCells g 0 (bitsL T')) g 246 (bitsL T') := blk_stored (bitsL T') h (by rw [bitsL_length, bitsL_length])
end

def midT (T U : Nat → Bool) (k : Nat) : Nat → Bool := fun n => if n < k then U n else T n
theorem midT_zero (T U : Nat → Bool) : midT T U 0 = T := by funext n; simp [midT]
theorem midT_end (T U : Nat → Bool) : bitsL (midT T U 256) = bitsL U := by
  apply List.ext_getElem?
  intro i
  by_cases hi : i < 256
  · rw [bitsL_get _ hi, bitsL_get _ hi]
    simp [midT, hi]
  · rw [List.getElem?_eq_none (by rw [bitsL_length]; omega), List.getElem?_eq_none (by rw [bitsL_length]; omega)]
theorem midT_step (T U : Nat → Bool) (k : Nat) : (bitsL (midT T U k)).set k (.bool (U k)) = bitsL (midT T U (k + 1)) := by
  rw [bitsL_set]
  congr 1
  funext n
  unfold midT
  by_cases h : n = k
  · subst h
    simp
  · by_cases h2 : n < k
    · simp [h, h2, Nat.lt_succ_of_lt h2]
    · have : ¬n < k + 1 := by omega
      simp [h, h2, this]

theorem two_bits (w : World) (T U : Nat → Bool) : Blk ((w.alloc (.cells (bitsL T).toArray 246)).alloc (.cells (bitsL U).toArray 246)) w.heap.size 246 (bitsL T) ∧ Blk ((w.alloc (.cells (bitsL T).toArray 246)).alloc (.cells (bitsL U).toArray 246)) (w.heap.size + 1) 246 (bitsL U) := by
  have h1 := heap_alloc_new w (.cells (bitsL T).toArray 246)
  have h2 := heap_alloc_new (w.alloc (.cells (bitsL T).toArray 246)) (.cells (bitsL U).toArray 246)
  rw [World.size_alloc] at h2
  exact ⟨blk_alloc h1 _, h2⟩

set_option maxRecDepth 100000 in
set_option maxHeartbeats 2000000 in
theorem with_any (T : Nat → Bool) (lo hi : Int) (w : World) :
    Calls Try.prog 179 #[bitsV T, .int .i64 lo, .int .i64 hi] w (RetVal (bitsV (Pure.wid T lo hi)) w) := by
  have zv := bits_zeroV
  have TB := hide (two_bits w T Pure.noneB)
  have B0 : Hid (Below w.heap.size w ((w.alloc (.cells (bitsL T).toArray 246)).alloc (.cells (bitsL Pure.noneB).toArray 246))) := ((Below.refl w.heap.size w).alloc (Nat.le_refl _) _).alloc (by simp) _
  go_enter Try.func179, Try.ntmps179
  go_wp2_with fail
  clear zv
  go_loopg [8] 256 (fun gk kv wx => ∃ k : Nat, k ≤ 256 ∧ kv = .int .i64 k ∧ gk = 256 - k ∧ Below w.heap.size w wx ∧ Blk wx w.heap.size 246 (bitsL (midT T (Pure.wid T lo hi) k)) ∧ Blk wx (w.heap.size + 1) 246 (bitsL Pure.noneB))
  case atStart => exact ⟨0, Nat.zero_le _, rfl, rfl, B0.out, by rw [midT_zero]; exact TB.out.1, TB.out.2⟩
  case round =>
    clear B0 TB
    obtain ⟨k, hk, rfl, rfl, hb, h1, h2⟩ := hrel
    have HB := hide hb
    have H1 := hide h1
    have H2 := hide h2
    clear hb h1 h2
    by_cases hlt : k < 256
    · have d1 : decide ((k : Int) < 256) = true := decide_eq_true (by omega)
      have ik0 : (0 : Int) ≤ (k : Int) := by omega
      have ik1 : (k : Int) < 256 := by omega
      have wi : IntKind.i64.wrap ((k : Int) + 1) = (k : Int) + 1 := wrap_in _ (by omega) (by omega)
      have c1 : wr.cell? ⟨w.heap.size, k, none⟩ = some (.bool (T k)) := by
        have := blk_cell H1.out (bitsL_get _ hlt)
        simpa [midT] using this
      have f1 := blk_frozen H1.out k
      have N1 : Hid (Blk (wr.setCell ⟨w.heap.size, k, none⟩ (.bool (Pure.wid T lo hi k))) w.heap.size 246 (bitsL (midT T (Pure.wid T lo hi) (k + 1)))) := by
        have := blk_set H1.out k (.bool (Pure.wid T lo hi k))
        rw [midT_step] at this
        exact this
      have N2 : Hid (Blk (wr.setCell ⟨w.heap.size, k, none⟩ (.bool (Pure.wid T lo hi k))) (w.heap.size + 1) 246 (bitsL Pure.noneB)) := blk_other H2.out (by omega) k _
      have NB : Hid (Below w.heap.size w (wr.setCell ⟨w.heap.size, k, none⟩ (.bool (Pure.wid T lo hi k)))) := HB.out.setCell (Nat.le_refl _) _
      have hw : Pure.wid T lo hi k = (T k || (decide (lo ≤ (k : Int)) && decide ((k : Int) ≤ hi))) := rfl
      generalize Pure.wid T lo hi k = u at *
      generalize T k = t at *
      have q : ∀ b1 b2 : Bool, decide (lo ≤ (k : Int)) = b1 → decide ((k : Int) ≤ hi) = b2 → u = (t || (b1 && b2)) := fun b1 b2 e1 e2 => by rw [hw, e1, e2]
      clear hw
      cases t with
      | true =>
        have e := q _ _ rfl rfl
        simp only [Bool.true_or] at e
        subst e
        clear q
        go_wp2
        go_roundg (256 - (k + 1))
        case measure => omega
        case rel => exact ⟨k + 1, by omega, by go_num, rfl, NB.out, N1.out, N2.out⟩
      | false =>
        cases e1 : decide (lo ≤ (k : Int)) with
        | false =>
          have e := q _ _ e1 rfl
          simp only [Bool.false_and, Bool.false_or] at e
          subst e
          clear q
          go_wp2
          go_roundg (256 - (k + 1))
          case measure => omega
          case rel => exact ⟨k + 1, by omega, by go_num, rfl, NB.out, N1.out, N2.out⟩
        | true =>
          cases e2 : decide ((k : Int) ≤ hi) with
          | false =>
            have e := q _ _ e1 e2
            simp only [Bool.and_false, Bool.false_or] at e
            subst e
            clear q
            go_wp2
            go_roundg (256 - (k + 1))
            case measure => omega
            case rel => exact ⟨k + 1, by omega, by go_num, rfl, NB.out, N1.out, N2.out⟩
          | true =>
            have e := q _ _ e1 e2
            simp only [Bool.and_true, Bool.false_or] at e
            subst e
            clear q
            go_wp2
            go_roundg (256 - (k + 1))
            case measure => omega
            case rel => exact ⟨k + 1, by omega, by go_num, rfl, NB.out, N1.out, N2.out⟩
    · have d1 : decide ((k : Int) < 256) = false := decide_eq_false (by omega)
      have e : k = 256 := by omega
      subst e
      go_wp2_with (first | (refine wpList_load_mid rfl 246 (.tmp 3) rfl w.heap.size 0 rfl (bitsL (midT T (Pure.wid T lo hi) 256)) _ (blk_range H1.out) Try.underlying246 rfl (by rw [bitsL_length]; exact bits_size) ?_) | (refine wpList_store_mid rfl 246 (.tmp 6) (.tmp 27) rfl (w.heap.size + 1) 0 (bitsL (midT T (Pure.wid T lo hi) 256)).toArray rfl rfl (by have := blk_there H2.out; rw [bitsL_length] at this; simpa [bitsL_length] using this) (by simp only [List.size_toArray, bitsL_length]; exact bits_size) (all_oneCell_toArray (bitsL_one _)) ?_))
      have N2 := bits_stored H2.out (midT T (Pure.wid T lo hi) 256)
      have NB := below_cells (a := w) (B := w.heap.size) (g := w.heap.size + 1) (by omega) (bitsL (midT T (Pure.wid T lo hi) 256)) 0 wr HB.out
      have ld := bits_loadVar N2
      refine bodyPost_ret (v := .agg (bitsL (midT T (Pure.wid T lo hi) 256)).toArray) ?_ rfl ⟨by rw [midT_end], NB⟩
      simp [results, Try.results179, Act.put, asAddr, ld]

set_option maxRecDepth 100000 in
set_option maxHeartbeats 2000000 in
theorem allBut_any (T : Nat → Bool) (w : World) :
    Calls Try.prog 175 #[bitsV T] w (RetVal (bitsV (Pure.notB T)) w) := by
  have zv := bits_zeroV
  have TB := hide (two_bits w T Pure.noneB)
  have B0 : Hid (Below w.heap.size w ((w.alloc (.cells (bitsL T).toArray 246)).alloc (.cells (bitsL Pure.noneB).toArray 246))) := ((Below.refl w.heap.size w).alloc (Nat.le_refl _) _).alloc (by simp) _
  go_enter Try.func175, Try.ntmps175
  go_wp2_with fail
  clear zv
  go_loopg [4] 256 (fun gk kv wx => ∃ k : Nat, k ≤ 256 ∧ kv = .int .i64 k ∧ gk = 256 - k ∧ Below w.heap.size w wx ∧ Blk wx w.heap.size 246 (bitsL (midT T (Pure.notB T) k)) ∧ Blk wx (w.heap.size + 1) 246 (bitsL Pure.noneB))
  case atStart => exact ⟨0, Nat.zero_le _, rfl, rfl, B0.out, by rw [midT_zero]; exact TB.out.1, TB.out.2⟩
  case round =>
    clear B0 TB
    obtain ⟨k, hk, rfl, rfl, hb, h1, h2⟩ := hrel
    have HB := hide hb
    have H1 := hide h1
    have H2 := hide h2
    clear hb h1 h2
    by_cases hlt : k < 256
    · have d1 : decide ((k : Int) < 256) = true := decide_eq_true (by omega)
      have ik0 : (0 : Int) ≤ (k : Int) := by omega
      have ik1 : (k : Int) < 256 := by omega
      have wi : IntKind.i64.wrap ((k : Int) + 1) = (k : Int) + 1 := wrap_in _ (by omega) (by omega)
      have c1 : wr.cell? ⟨w.heap.size, k, none⟩ = some (.bool (T k)) := by
        have := blk_cell H1.out (bitsL_get _ hlt)
        simpa [midT] using this
      have f1 := blk_frozen H1.out k
      have N1 : Hid (Blk (wr.setCell ⟨w.heap.size, k, none⟩ (.bool (!T k))) w.heap.size 246 (bitsL (midT T (Pure.notB T) (k + 1)))) := by
        have := blk_set H1.out k (.bool (Pure.notB T k))
        rw [midT_step] at this
        exact this
      have N2 : Hid (Blk (wr.setCell ⟨w.heap.size, k, none⟩ (.bool (!T k))) (w.heap.size + 1) 246 (bitsL Pure.noneB)) := blk_other H2.out (by omega) k _
      have NB : Hid (Below w.heap.size w (wr.setCell ⟨w.heap.size, k, none⟩ (.bool (!T k)))) := HB.out.setCell (Nat.le_refl _) _
      go_wp2
      go_roundg (256 - (k + 1))
      case measure => omega
      case rel => exact ⟨k + 1, by omega, by go_num, rfl, NB.out, N1.out, N2.out⟩
    · have d1 : decide ((k : Int) < 256) = false := decide_eq_false (by omega)
      have e : k = 256 := by omega
      subst e
      go_wp2_with (first | (refine wpList_load_mid rfl 246 (.tmp 1) rfl w.heap.size 0 rfl (bitsL (midT T (Pure.notB T) 256)) _ (blk_range H1.out) Try.underlying246 rfl (by rw [bitsL_length]; exact bits_size) ?_) | (refine wpList_store_mid rfl 246 (.tmp 2) (.tmp 14) rfl (w.heap.size + 1) 0 (bitsL (midT T (Pure.notB T) 256)).toArray rfl rfl (by have := blk_there H2.out; rw [bitsL_length] at this; simpa [bitsL_length] using this) (by simp only [List.size_toArray, bitsL_length]; exact bits_size) (all_oneCell_toArray (bitsL_one _)) ?_))
      have N2 := bits_stored H2.out (midT T (Pure.notB T) 256)
      have NB := below_cells (a := w) (B := w.heap.size) (g := w.heap.size + 1) (by omega) (bitsL (midT T (Pure.notB T) 256)) 0 wr HB.out
      have ld := bits_loadVar N2
      refine bodyPost_ret (v := .agg (bitsL (midT T (Pure.notB T) 256)).toArray) ?_ rfl ⟨by rw [midT_end], NB⟩
      simp [results, Try.results175, Act.put, asAddr, ld]

theorem wid_only (b : Int) : Pure.wid Pure.noneB b b = Pure.onlyB b := by
  funext n
  unfold Pure.wid Pure.noneB Pure.onlyB
  by_cases h : (n : Int) = b
  · simp [h]
  · have : ¬(b ≤ (n : Int) ∧ (n : Int) ≤ b) := by omega
    simp only [Bool.false_or]
    rw [Bool.eq_iff_iff]
    simp only [Bool.and_eq_true, decide_eq_true_eq]
    exact ⟨fun k => absurd k this, fun k => absurd k h⟩

set_option maxRecDepth 100000 in
set_option maxHeartbeats 2000000 in
theorem only_any (b : Int) (w : World) :
    Calls Try.prog 176 #[.int .i64 b] w (RetVal (bitsV (Pure.onlyB b)) w) := by
  have zv := bits_zeroV
  have KB : Hid (Blk (w.alloc (.cells (bitsL Pure.noneB).toArray 246)) w.heap.size 246 (bitsL Pure.noneB)) := heap_alloc_new w _
  have B0 : Hid (Below w.heap.size w (w.alloc (.cells (bitsL Pure.noneB).toArray 246))) := (Below.refl w.heap.size w).alloc (Nat.le_refl _) _
  go_enter Try.func176, Try.ntmps176
  go_wp2_with fail
  clear zv
  refine (with_any Pure.noneB b b _).mono ?_
  rintro e w1 ⟨rfl, hb1⟩
  rw [wid_only]
  have K1 := hide (blk_below KB.out hb1 (blk_lt KB.out))
  have B1 := hide (bel0 B0.out hb1)
  clear hb1 KB B0
  go_wp2_with (refine wpList_store_mid rfl 246 (.tmp 2) (.tmp 6) rfl w.heap.size 0 (bitsL (Pure.onlyB b)).toArray rfl rfl (by have := blk_there K1.out; rw [bitsL_length] at this; simpa [bitsL_length] using this) (by simp only [List.size_toArray, bitsL_length]; exact bits_size) (all_oneCell_toArray (bitsL_one _)) ?_)
  have N2 := bits_stored K1.out (Pure.onlyB b)
  have NB := below_cells (a := w) (B := w.heap.size) (g := w.heap.size) (Nat.le_refl _) (bitsL (Pure.onlyB b)) 0 w1 B1.out
  have ld := bits_loadVar N2
  refine bodyPost_ret (v := .agg (bitsL (Pure.onlyB b)).toArray) ?_ rfl ⟨rfl, NB⟩
  simp [results, Try.results176, Act.put, asAddr, ld]

theorem beginsAtom_any (b : Int) (w : World) :
    Calls Try.prog 164 #[.int .i64 b] w (RetVal (.bool (decide (Pure.BegAtom b))) w) := by
  by_cases h : Pure.BegAtom b
  · have hb := h
    unfold Pure.BegAtom at hb
    have n1 : (b == 41) = false := by simp; omega
    have n2 : (b == 93) = false := by simp; omega
    have n3 : (b == 42) = false := by simp; omega
    have n4 : (b == 43) = false := by simp; omega
    have n5 : (b == 63) = false := by simp; omega
    have n6 : (b == 124) = false := by simp; omega
    have n7 : (b == 32) = false := by simp; omega
    have n8 : (b == 10) = false := by simp; omega
    have n9 : (b == -1) = false := by simp; omega
    rw [decide_eq_true h]
    clear hb h
    go_enter Try.func164, Try.ntmps164
    go_wp2
    go_ret
    exact ⟨rfl, Below.refl _ _⟩
  · rw [decide_eq_false h]
    unfold Pure.BegAtom at h
    have h' : b = 41 ∨ b = 93 ∨ b = 42 ∨ b = 43 ∨ b = 63 ∨ b = 124 ∨ b = 32 ∨ b = 10 ∨ b = -1 := by omega
    clear h
    rcases h' with rfl | rfl | rfl | rfl | rfl | rfl | rfl | rfl | rfl
    all_goals
      go_enter Try.func164, Try.ntmps164
      go_wp2
      go_ret
      exact ⟨rfl, Below.refl _ _⟩

end Go.Proofs.Ytmccnmgaoppogaa

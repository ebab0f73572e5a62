/-
  The walks: the document's reader of all lines. (weirref)
-/
import Derived.Test.YtmccnmgaoppogaaH13
namespace Go.Proofs.Ytmccnmgaoppogaa
open Go.RowKit

/-- what the document keeps of rules -/
structure DR where
  ns : List Pure.Nd
  ls : List DLn
  modes : Int
  down : Int
namespace Pure
def addD (r : DR) (x : Ln) : DR := ⟨r.ns ++ nodes x.re r.ns.length, r.ls ++ [⟨x.mode, x.emit, x.act, x.md, ((r.ns.length + x.re.size - 1 : Nat) : Int)⟩], dmod r.modes x, upd r.ls.length x.down r.down⟩
def allD (ls : List Ln) : DR := ls.foldl addD ⟨[], [], 0, -1⟩
theorem allD_snoc (ls : List Ln) (x : Ln) : allD (ls ++ [x]) = addD (allD ls) x := by simp [allD]
theorem foldD_length (ls : List Ln) : ∀ r : DR, (ls.foldl addD r).ls.length = r.ls.length + ls.length := by
  induction ls with
  | nil => intro r; rfl
  | cons x t ih => intro r; rw [List.foldl_cons, ih]; simp [addD]; omega
theorem allD_length (ls : List Ln) : (allD ls).ls.length = ls.length := by unfold allD; rw [foldD_length]; simp
theorem LnP.size {s : ByteArray} {i k : Nat} {x : Ln} (h : LnP s i k x) : x.re.size + 2 * i ≤ 2 * k := by
  cases h with
  | mk h1 h2 h3 h4 h5 =>
    have a := h3.size
    have b := h5.le
    simp only [Nt.sz, Nt.un] at a
    simp only
    omega
theorem dmod_bd {m : Int} {x : Ln} (hx : LnB x) (h : 0 ≤ m ∧ m ≤ 4) : 0 ≤ dmod m x ∧ dmod m x ≤ 4 := by
  unfold LnB at hx
  unfold dmod dm1
  split <;> split <;> (try split) <;> omega
end Pure

/-- while the document's lines are read: the next is at k -/
structure DI (s : ByteArray) (w : World) (g k : Nat) (ls all : List Pure.Ln) (W : World) : Prop where
  dr : ∃ vn al cl, Dr w.heap.size g s k (Pure.allD ls).ns vn (.slice al (Pure.allD ls).ls.length cl) (Pure.allD ls).modes (Pure.allD ls).down W ∧ W.ownsRow w.heap.size 141 5 (.slice al (Pure.allD ls).ls.length cl) (Pure.allD ls).ls.length (dlC (Pure.allD ls).ls)
  be : Below w.heap.size w W
  on : (Pure.Lns s k ls all ∧ k < s.size) ∨ (s.size < k ∧ ls = all)
  ns : (Pure.allD ls).ns.length ≤ 2 * k
  md : 0 ≤ (Pure.allD ls).modes ∧ (Pure.allD ls).modes ≤ 4
  n : ls.length ≤ 16
  le : k ≤ s.size + 1

/-- the document's rules come back -/
def RetRl (s : ByteArray) (all : List Pure.Ln) (w : World) (e : Ending) (w' : World) : Prop :=
  ∃ g vn al cl, e = .returned (.pointer (some ⟨g, 0, none⟩)) ∧ Below w.heap.size w w' ∧ Dr w.heap.size g s (s.size + 1) (Pure.allD all).ns vn (.slice al (Pure.allD all).ls.length cl) (Pure.allD all).modes (Pure.allD all).down w' ∧ w'.ownsRow w.heap.size 141 5 (.slice al (Pure.allD all).ls.length cl) (Pure.allD all).ls.length (dlC (Pure.allD all).ls)

theorem Pure.Lns.pos {s : ByteArray} {i : Nat} {ls all : List Pure.Ln} (h : Pure.Lns s i ls all) : i < s.size := by
  cases h with
  | done h1 => have := h1.le; omega
  | more h1 => have := h1.le; omega

set_option maxRecDepth 100000 in
set_option maxHeartbeats 4000000 in
theorem dread_any (s : ByteArray) (hs : s.size ≤ 400) (all : List Pure.Ln) (hA : Pure.Lns s 0 [] all) (w : World) :
    Calls Try.prog 65 #[.string s] w (RetRl s all w) := by
  have hp := hA.pos
  have I0 : Hid (DI s w w.heap.size 0 [] all (w.alloc (.cells #[.int .i64 0, .slice none 0 0, .slice none 0 0, .int .i64 (-1), .string s, .int .i64 0] 138))) :=
    ⟨⟨.slice none 0 0, none, 0, ⟨heap_alloc_new _ _, Nat.le_refl _, own_nil _ _ _ _⟩, own_nil _ _ _ _⟩, (Below.refl _ _).alloc (Nat.le_refl _) _, .inl ⟨hA, hp⟩, Nat.zero_le _, by decide, by simp, Nat.zero_le _⟩
  go_enter Try.func65, Try.ntmps65
  go_wp2_with fail
  go_loopg [7] (s.size + 1) (fun gk _ wx => ∃ k ls, gk = s.size + 1 - k ∧ DI s w w.heap.size k ls all wx)
  case atStart => exact ⟨0, [], rfl, I0.out⟩
  case round =>
    clear I0
    obtain ⟨k, ls, rfl, hI⟩ := hrel
    obtain ⟨vn, al, cl, hd, hr⟩ := hI.dr
    have c5 := blk_cell (j := 5) hd.rb rfl
    rcases hI.on with ⟨hL, hk⟩ | ⟨hk, rfl⟩
    · have d1 : decide ((k : Int) < (s.size : Int)) = true := decide_eq_true (by omega)
      have LL := Pure.allD_length ls
      have STEP : Hid (∃ (x : Pure.Ln) (j : Nat), Pure.LnP s k j x ∧ (j = s.size ∨ Pure.pkb s j = 10) ∧ ls.length + 1 ≤ 16 ∧ ((Pure.Lns s (j + 1) (ls ++ [x]) all ∧ j + 1 < s.size) ∨ (s.size < j + 1 ∧ ls ++ [x] = all))) := by
        have n := hI.n
        have hc := hA.bds
        cases hL with
        | done h1 => exact ⟨_, _, h1, .inl rfl, by have := hc.2.2; simpa using this, .inr ⟨Nat.lt_succ_self _, rfl⟩⟩
        | more h1 h2 h3 h4 => exact ⟨_, _, h1, .inr h2, by omega, .inl ⟨h4, h4.pos⟩⟩
      obtain ⟨x, j, hx, hj, hn, hon⟩ := STEP.out
      clear STEP
      have CALL := hide (fun W (h : Dr w.heap.size w.heap.size s k (Pure.allD ls).ns vn (.slice al (Pure.allD ls).ls.length cl) (Pure.allD ls).modes (Pure.allD ls).down W) (h2 : W.ownsRow w.heap.size 141 5 (.slice al (Pure.allD ls).ls.length cl) (Pure.allD ls).ls.length (dlC (Pure.allD ls).ls)) => dline_any w.heap.size w.heap.size k j s (Pure.allD ls).ns vn al cl (Pure.allD ls).ls (Pure.allD ls).modes (Pure.allD ls).down x W h h2 hs hI.ns (by omega) (by have := hI.md; omega) hx hj)
      have HD := hide (And.intro hd hr)
      have NEXT : Hid (∀ w2, Below w.heap.size wr w2 → (∃ vn al cl, Dr w.heap.size w.heap.size s (j + 1) (Pure.allD (ls ++ [x])).ns vn (.slice al (Pure.allD (ls ++ [x])).ls.length cl) (Pure.allD (ls ++ [x])).modes (Pure.allD (ls ++ [x])).down w2 ∧ w2.ownsRow w.heap.size 141 5 (.slice al (Pure.allD (ls ++ [x])).ls.length cl) (Pure.allD (ls ++ [x])).ls.length (dlC (Pure.allD (ls ++ [x])).ls)) → DI s w w.heap.size (j + 1) (ls ++ [x]) all w2) := by
        intro w2 hb h2
        have b := hx.le
        have c := hx.size
        refine ⟨h2, hI.be.trans hb, hon, ?_, ?_, by simpa using hn, by omega⟩
        · rw [Pure.allD_snoc]
          have := hI.ns
          simp only [Pure.addD, List.length_append, Pure.nodes_length]
          omega
        · rw [Pure.allD_snoc]
          exact Pure.dmod_bd hx.bd hI.md
      have HX := hx.le
      clear hI hd hr hL hon hx hj LL
      go_wp2_with fail
      refine (CALL.out _ HD.out.1 HD.out.2).mono ?_
      clear CALL HD
      rintro e w2 ⟨rfl, hb, vn2, al2, cl2, hd2, hr2⟩
      have N2 : Hid (DI s w w.heap.size (j + 1) (ls ++ [x]) all w2) := NEXT.out w2 hb ⟨vn2, al2, cl2, by rw [Pure.allD_snoc]; exact hd2, by rw [Pure.allD_snoc]; exact hr2⟩
      clear NEXT hd2 hr2 hb c5
      go_wp2
      go_roundg (s.size + 1 - (j + 1))
      case measure => omega
      case rel => exact ⟨j + 1, ls ++ [x], rfl, N2.out⟩
    · have d1 : decide ((k : Int) < (s.size : Int)) = false := decide_eq_false (by omega)
      have HI := hide hI
      have HD := hide (And.intro hd hr)
      have ek : k = s.size + 1 := by have := hI.le; omega
      clear hI hd hr
      go_wp2
      go_ret
      subst ek
      exact ⟨_, vn, al, cl, rfl, HI.out.be, HD.out.1, HD.out.2⟩

end Go.Proofs.Ytmccnmgaoppogaa

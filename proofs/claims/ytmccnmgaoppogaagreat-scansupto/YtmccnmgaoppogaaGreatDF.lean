/-
  The walks: begins. (weirlaw)
  The walks: plays, at the kinds of steps that Scans lets by. (weirlaw)
  Scans; from data to memory: a script that came in.
-/
import Derived.Test.YtmccnmgaoppogaaGreatDE
import Derived.Test.YtmccnmgaoppogaaGreatW14
import Derived.Test.YtmccnmgaoppogaaGreatB2
import Derived.ProofKit
import Derived.SizedLaws
import Derived.Deep.Slices
import Derived.Deep.Strs
import Derived.Lib.SmallJoins
import Derived.JoinedCond
namespace Go.Proofs.YtmccnmgaoppogaaGreat
open Go.RowKit

def smallP : Pure.Prg := ⟨[0], [⟨1, 0, 0⟩], [⟨2, 0, 0, 0⟩, ⟨1, 0, 0, 0⟩, ⟨5, 0, 0, 0⟩]⟩

theorem small_right : Pure.RightP smallP := by
  have e0 : ∀ i, i < 1 → i = 0 := fun i h => by omega
  have cs : ∀ i, i < 3 → i = 0 ∨ i = 1 ∨ i = 2 := fun i h => by omega
  refine ⟨⟨⟨by decide, by decide⟩, fun i hi => ?_⟩, ⟨⟨by decide, by decide⟩, fun i hi => ?_⟩, ⟨⟨by decide, by decide⟩, fun i hi => ?_, .inr rfl⟩, fun i => 2 - i, fun i hi j hj => ?_⟩
  · have := e0 i hi; subst this; exact ⟨Int.le_refl _, by decide⟩
  · have := e0 i hi; subst this; exact ⟨.inr rfl, ⟨by decide, by decide⟩, ⟨by decide, by decide⟩, .inr (.inr rfl)⟩
  · rcases cs i hi with h | h | h
    · subst h; exact .inr (.inl ⟨.inl rfl, rfl, rfl, rfl⟩)
    · subst h; exact .inl ⟨rfl, Int.le_refl _, by decide, rfl, rfl⟩
    · subst h; exact .inr (.inl ⟨.inr rfl, rfl, rfl, rfl⟩)
  · rcases cs i hi with h | h | h
    · subst h; simp [Pure.succ, Pure.fst, Pure.snd, smallP] at hj
    · subst h; simp [Pure.succ, Pure.fst, Pure.snd, smallP] at hj; subst hj; show 2 - 2 < 2 - 1; omega
    · subst h; simp [Pure.succ, Pure.fst, Pure.snd, smallP] at hj

theorem small_start : StartOK (strOfNums (Pure.img smallP)) 1 0 := by
  have := img_form small_right
  exact ⟨⟨this.1, by rw [this.2]; exact small_right⟩, ⟨by decide, by decide⟩, ⟨by decide, by decide⟩⟩

theorem three_blocks (w : World) (t1 t2 t3 : Nat) (c1 c2 c3 : List Value) (o : Obj) :
    Blk ((((w.alloc (.cells c1.toArray t1)).alloc (.cells c2.toArray t2)).alloc (.cells c3.toArray t3)).alloc o) w.heap.size t1 c1 ∧ Blk ((((w.alloc (.cells c1.toArray t1)).alloc (.cells c2.toArray t2)).alloc (.cells c3.toArray t3)).alloc o) (w.heap.size + 1) t2 c2 ∧ Blk ((((w.alloc (.cells c1.toArray t1)).alloc (.cells c2.toArray t2)).alloc (.cells c3.toArray t3)).alloc o) (w.heap.size + 1 + 1) t3 c3 := by
  have h1 := heap_alloc_new w (.cells c1.toArray t1)
  have h2 := heap_alloc_new (w.alloc (.cells c1.toArray t1)) (.cells c2.toArray t2)
  rw [World.size_alloc] at h2
  have h3 := heap_alloc_new ((w.alloc (.cells c1.toArray t1)).alloc (.cells c2.toArray t2)) (.cells c3.toArray t3)
  rw [World.size_alloc, World.size_alloc] at h3
  exact ⟨blk_alloc (blk_alloc (blk_alloc h1 _) _) _, blk_alloc (blk_alloc h2 _) _, blk_alloc h3 _⟩

/-- neither images nor scanners any more -/
theorem WI.clear {N gw gd : Nat} {ims : List ByteArray} {zs : List Gz} {ts : List Tl} {n : Int} {vim vsc vts vnt : Value} {W : World} (h : WI N gw gd ims zs ts n vim vsc vts vnt W) :
    WI N gw gd [] [] ts n (.slice none 0 0) (.slice none 0 0) vts vnt ((W.setCell ⟨gw, 1, none⟩ (.slice none 0 0)).setCell ⟨gw, 0, none⟩ (.slice none 0 0)) := by
  have w1 := blk_set h.q.w 1 (.slice none 0 0)
  have w2 := blk_set w1 0 (.slice none 0 0)
  have s1 := Lib.grownBy_setCell W gw 1 (.slice none 0 0)
  have s2 := Lib.grownBy_setCell (W.setCell ⟨gw, 1, none⟩ (.slice none 0 0)) gw 0 (.slice none 0 0)
  have sz : ((W.setCell ⟨gw, 1, none⟩ (.slice none 0 0)).setCell ⟨gw, 0, none⟩ (.slice none 0 0)).heap.size = W.heap.size := by simp [World.setCell]
  have d1 := blk_other h.d (blk_ne' h.d h.q.w (by decide)) 1 (.slice none 0 0)
  refine ⟨⟨w2, own_nil _ _ _ _, own_nil _ _ _ _, fun z hz => ⟨?_, fun g e => ?_⟩, fun z hz => by simp at hz, Nat.le_refl _⟩, blk_other d1 (blk_ne' d1 w1 (by decide)) 0 _, own_apart (own_apart h.tl h.q.w (by decide) s1) w1 (by decide) s2, own_apart (own_apart h.tn h.q.w (by decide) s1) w1 (by decide) s2, fun b _ z hz => by simp at hz, fun i j x y hx => by simp at hx, h.up.1, fun z hz => by simp at hz⟩
  · refine (h.q.parts z hz).1.keep (fun g xs _ hb => ?_)
    have b1 := blk_other hb (blk_ne' hb h.q.w (by decide)) 1 (.slice none 0 0)
    exact blk_other b1 (blk_ne' b1 w1 (by decide)) 0 _
  · have := (h.q.parts z hz).2 g e
    rw [sz]
    exact this

def RetBs (gw gd : Nat) (w : World) (e : Ending) (w' : World) : Prop :=
  e = .returned (.bool true) ∧ Below gd w w' ∧ WI 0 gw gd [] [] [] 0 (.slice none 0 0) (.slice none 0 0) (.slice none 0 0) (.slice none 0 0) w'

set_option maxRecDepth 100000 in
set_option maxHeartbeats 4000000 in
theorem begins_any (gw gd : Nat) (w : World) (h : WI 0 gw gd [] [] [] 0 (.slice none 0 0) (.slice none 0 0) (.slice none 0 0) (.slice none 0 0) w) :
    Calls Tryz.prog 8 #[.pointer (some ⟨gw, 0, none⟩), .int .i64 1] w (RetBs gw gd w) := by
  have H0 := hide h
  have dl := blk_lt h.d
  clear h
  go_enter Tryz.func8, Tryz.ntmps8
  have TB := hide (three_blocks w 3 59 61 [.int .i64 0] [.int .i64 1, .int .i64 0, .int .i64 0] [.int .i64 2, .int .i64 0, .int .i64 0, .int .i64 0, .int .i64 1, .int .i64 0, .int .i64 0, .int .i64 0, .int .i64 5, .int .i64 0, .int .i64 0, .int .i64 0] (.cells #[.slice (some ⟨w.heap.size, 0, none⟩) 1 1, .slice (some ⟨w.heap.size + 1, 0, none⟩) 1 1, .slice (some ⟨w.heap.size + 1 + 1, 0, none⟩) 3 3] 43))
  have B1 : Hid (Below w.heap.size w ((((w.alloc (.cells #[.int .i64 0] 3)).alloc (.cells #[.int .i64 1, .int .i64 0, .int .i64 0] 59)).alloc (.cells #[.int .i64 2, .int .i64 0, .int .i64 0, .int .i64 0, .int .i64 1, .int .i64 0, .int .i64 0, .int .i64 0, .int .i64 5, .int .i64 0, .int .i64 0, .int .i64 0] 61)).alloc (.cells #[.slice (some ⟨w.heap.size, 0, none⟩) 1 1, .slice (some ⟨w.heap.size + 1, 0, none⟩) 1 1, .slice (some ⟨w.heap.size + 1 + 1, 0, none⟩) 3 3] 43))) := ((((Below.refl w.heap.size w).alloc (Nat.le_refl _) _).alloc (by simp) _).alloc (by simp; omega) _).alloc (by simp; omega) _
  go_wp2_with fail
  generalize ((((w.alloc (.cells #[.int .i64 0] 3)).alloc (.cells #[.int .i64 1, .int .i64 0, .int .i64 0] 59)).alloc (.cells #[.int .i64 2, .int .i64 0, .int .i64 0, .int .i64 0, .int .i64 1, .int .i64 0, .int .i64 0, .int .i64 0, .int .i64 5, .int .i64 0, .int .i64 0, .int .i64 0] 61)).alloc (.cells #[.slice (some ⟨w.heap.size, 0, none⟩) 1 1, .slice (some ⟨w.heap.size + 1, 0, none⟩) 1 1, .slice (some ⟨w.heap.size + 1 + 1, 0, none⟩) 3 3] 43)) = W1 at *
  have PK := hide (refPack_any (.slice (some ⟨w.heap.size, 0, none⟩) 1 1) (.slice (some ⟨w.heap.size + 1, 0, none⟩) 1 1) (.slice (some ⟨w.heap.size + 1 + 1, 0, none⟩) 3 3) smallP W1
    ⟨_, _, rfl, Nat.le_refl _, by decide, fun i hi => ⟨w.heap.size, 0, rfl, blk_lt TB.out.1, by
      obtain rfl : i = 0 := by simp [smallP] at hi; omega
      exact blk_cell (j := 0) TB.out.1 rfl⟩⟩
    ⟨_, _, rfl, Nat.le_refl _, by decide, fun i hi => ⟨w.heap.size + 1, 0, rfl, blk_lt TB.out.2.1, by
      obtain rfl : i = 0 := by simp [smallP] at hi; omega
      exact ⟨blk_cell (j := 0) TB.out.2.1 rfl, blk_cell (j := 1) TB.out.2.1 rfl, blk_cell (j := 2) TB.out.2.1 rfl⟩⟩⟩
    ⟨_, _, rfl, Nat.le_refl _, by decide, fun i hi => ⟨w.heap.size + 1 + 1, 0, rfl, blk_lt TB.out.2.2, by
      have k := TB.out.2.2
      have h3 : i = 0 ∨ i = 1 ∨ i = 2 := by simp [smallP] at hi; omega
      rcases h3 with rfl | rfl | rfl
      · exact ⟨blk_cell (j := 0) k rfl, blk_cell (j := 1) k rfl, blk_cell (j := 2) k rfl, blk_cell (j := 3) k rfl⟩
      · exact ⟨blk_cell (j := 4) k rfl, blk_cell (j := 5) k rfl, blk_cell (j := 6) k rfl, blk_cell (j := 7) k rfl⟩
      · exact ⟨blk_cell (j := 8) k rfl, blk_cell (j := 9) k rfl, blk_cell (j := 10) k rfl, blk_cell (j := 11) k rfl⟩⟩⟩)
  refine PK.out.mono ?_
  clear PK TB
  rintro e W2 ⟨s, c, rfl, hb2, hok⟩
  rcases hok with ⟨_, rfl, rfl⟩ | ⟨hno, _⟩
  rotate_left
  · exact absurd small_right hno
  have B2 := hide (bel0 B1.out hb2)
  clear hb2 B1
  have H2 := hide (H0.out.below B2.out)
  have BG := hide (begun_any 0 gw gd [] [] [] 0 _ _ _ _ (strOfNums (Pure.img smallP)) 1 0 W2 H2.out (by decide) ⟨by decide, by decide⟩ ⟨by decide, by decide⟩ (by decide))
  generalize hsm : strOfNums (Pure.img smallP) = sm at *
  have SM := hide hsm
  clear hsm
  go_wp2_with fail
  refine BG.out.mono ?_
  clear BG
  rintro e W3 ⟨rfl, hk, ⟨hno, _⟩ | ⟨_, x, v2, hW⟩⟩
  · exact absurd (by rw [← SM.out]; exact small_start) hno
  obtain ⟨az, cz, rfl, -, -⟩ := own_form hW.q.sc
  have H3 := hide hW
  have K3 := hide hk
  have c1 := blk_cell (j := 1) hW.q.w rfl
  have c0 := blk_cell (j := 0) hW.q.w rfl
  have f1 := blk_frozen hW.q.w 1
  have f0 := blk_frozen hW.q.w 0
  clear hW hk
  go_wp2
  go_ret
  exact ⟨rfl, (B2.out.mono (by omega)).trans ((K3.out.lo.setCell H3.out.up.1 _).setCell H3.out.up.1 _), H3.out.clear⟩

end Go.Proofs.YtmccnmgaoppogaaGreat

namespace Go.Proofs.YtmccnmgaoppogaaGreat
open Go.RowKit

/-- a step, as it lies in memory -/
structure Sop where
  kind : Int
  on : Int
  a : Int
  b : Int
  s : ByteArray
  ae : Option Addr
  ne : Nat
  ce : Nat
  ar : Option Addr
  nr : Nat
  cr : Nat
  ac : Option Addr
  nc : Nat
  cc : Nat

def Sops (W : World) (v : Value) (l : List Sop) : Prop := ∃ ao cap, v = .slice ao l.length cap ∧ l.length ≤ cap ∧ cap ≤ 9223372036854775807 ∧
  ∀ (i : Nat) (x : Sop), l[i]? = some x → ∃ b off, ao = some ⟨b, off, none⟩ ∧ b < W.heap.size ∧ W.cell? ⟨b, off + i * 8, none⟩ = some (.int .i64 x.kind) ∧ W.cell? ⟨b, off + i * 8 + 1, none⟩ = some (.int .i64 x.on) ∧ W.cell? ⟨b, off + i * 8 + 2, none⟩ = some (.int .i64 x.a) ∧ W.cell? ⟨b, off + i * 8 + 3, none⟩ = some (.int .i64 x.b) ∧ W.cell? ⟨b, off + i * 8 + 4, none⟩ = some (.string x.s) ∧ W.cell? ⟨b, off + i * 8 + 5, none⟩ = some (.slice x.ae x.ne x.ce) ∧ W.cell? ⟨b, off + i * 8 + 6, none⟩ = some (.slice x.ar x.nr x.cr) ∧ W.cell? ⟨b, off + i * 8 + 7, none⟩ = some (.slice x.ac x.nc x.cc)

def SopR (l : List Sop) : Prop := ∀ x ∈ l, Rng x.on ∧ Rng x.a ∧ Rng x.b
def sumS (l : List Sop) : Nat := (l.map (fun x => x.s.size)).sum

theorem sumS_take {l : List Sop} {i : Nat} {x : Sop} (h : l[i]? = some x) : sumS (l.take (i + 1)) = sumS (l.take i) + x.s.size := by
  unfold sumS
  rw [List.take_add_one, h]
  simp
theorem sumS_le (l : List Sop) (i : Nat) : sumS (l.take i) ≤ sumS l := by
  unfold sumS
  have : l.map (fun x => x.s.size) = (l.take i).map (fun x => x.s.size) ++ (l.drop i).map (fun x => x.s.size) := by rw [← List.map_append, List.take_append_drop]
  rw [this, List.sum_append]
  omega

/-- all that a script has made, and how much it may be by now -/
def PI (l : List Sop) (gw gd i : Nat) (W : World) : Prop :=
  ∃ N ims zs ts n vim vsc vts vnt, WI N gw gd ims zs ts n vim vsc vts vnt W ∧ N ≤ sumS (l.take i) ∧ ims.length ≤ i ∧ zs.length ≤ i ∧ ts.length ≤ i ∧ (0 ≤ n ∧ n ≤ i) ∧ (∀ x ∈ ts, x.cap ≤ 9223372036854775807) ∧ ∀ t ∈ ims, t.size ≤ 9223372036854775807

theorem WI.start {w : World} : WI 0 (w.heap.size + 1) w.heap.size [] [] [] 0 (.slice none 0 0) (.slice none 0 0) (.slice none 0 0) (.slice none 0 0) ((w.alloc (.cells #[.int .i64 0, .slice none 0 0, .slice none 0 0, .slice none 0 0, .slice none 0 0, .slice none 0 0, .slice none 0 0, .slice none 0 0, .slice none 0 0] 33)).alloc (.cells #[.slice none 0 0, .slice none 0 0, .pointer (some ⟨w.heap.size, 0, none⟩)] 37)) := by
  have h1 := heap_alloc_new w (.cells #[.int .i64 0, .slice none 0 0, .slice none 0 0, .slice none 0 0, .slice none 0 0, .slice none 0 0, .slice none 0 0, .slice none 0 0, .slice none 0 0] 33)
  have h2 := heap_alloc_new (w.alloc (.cells #[.int .i64 0, .slice none 0 0, .slice none 0 0, .slice none 0 0, .slice none 0 0, .slice none 0 0, .slice none 0 0, .slice none 0 0, .slice none 0 0] 33)) (.cells #[.slice none 0 0, .slice none 0 0, .pointer (some ⟨w.heap.size, 0, none⟩)] 37)
  rw [World.size_alloc] at h2
  exact ⟨⟨h2, own_nil _ _ _ _, own_nil _ _ _ _, fun x hx => by simp at hx, fun x hx => by simp at hx, Nat.le_refl _⟩, blk_alloc (t := 33) (xs := drC 0 (.slice none 0 0) (.slice none 0 0)) h1 _, own_nil _ _ _ _, own_nil _ _ _ _, fun b hb => (by cases hb), fun i j x y hx => (by simp at hx), by omega, fun x hx => by simp at hx⟩

set_option maxRecDepth 100000 in
set_option maxHeartbeats 4000000 in
theorem plays_any (v : Value) (l : List Sop) (w : World) (hS : Sops w v l) (hR : SopR l) (hb : sumS l ≤ 1048576) (hl : l.length ≤ 1048576) :
    Calls Tryz.prog 6 #[v, .int .i64 1, .int .i64 4, .int .i64 1] w (RetV (.bool true) w) := by
  obtain ⟨ao, cap, rfl, l1, l2, HSx⟩ := hS
  have HS := hide HSx
  have HR := hide hR
  have H0 := hide (WI.start (w := w))
  have B0 : Hid (Below w.heap.size w ((w.alloc (.cells #[.int .i64 0, .slice none 0 0, .slice none 0 0, .slice none 0 0, .slice none 0 0, .slice none 0 0, .slice none 0 0, .slice none 0 0, .slice none 0 0] 33)).alloc (.cells #[.slice none 0 0, .slice none 0 0, .pointer (some ⟨w.heap.size, 0, none⟩)] 37))) := ((Below.refl w.heap.size w).alloc (Nat.le_refl _) _).alloc (by simp) _
  clear HSx hR
  go_enter Tryz.func6, Tryz.ntmps6
  go_wp2_with fail
  generalize ((w.alloc (.cells #[.int .i64 0, .slice none 0 0, .slice none 0 0, .slice none 0 0, .slice none 0 0, .slice none 0 0, .slice none 0 0, .slice none 0 0, .slice none 0 0] 33)).alloc (.cells #[.slice none 0 0, .slice none 0 0, .pointer (some ⟨w.heap.size, 0, none⟩)] 37)) = W0 at *
  refine (begins_any (w.heap.size + 1) w.heap.size W0 H0.out).mono ?_
  clear H0
  rintro e W1 ⟨rfl, hb1, hW1⟩
  have B1 := hide (B0.out.trans hb1)
  have P1 : Hid (PI l (w.heap.size + 1) w.heap.size 0 W1) := ⟨_, _, _, _, _, _, _, _, _, hW1, Nat.zero_le _, Nat.le_refl _, Nat.le_refl _, Nat.le_refl _, ⟨Int.le_refl _, Int.le_refl _⟩, fun x hx => by simp at hx, fun x hx => by simp at hx⟩
  clear hb1 hW1 B0
  go_wp2_with fail
  go_loopg [11] l.length (fun gk iv wx => ∃ i : Nat, i ≤ l.length ∧ iv = .int .i64 i ∧ gk = l.length - i ∧ Below w.heap.size w wx ∧ PI l (w.heap.size + 1) w.heap.size i wx)
  case atStart => exact ⟨0, Nat.zero_le _, rfl, rfl, B1.out, P1.out⟩
  case round =>
    clear B1 P1
    obtain ⟨i, hi, rfl, rfl, hbx, hP⟩ := hrel
    have BX := hide hbx
    have HP := hide hP
    have sz := hbx.size
    by_cases hlt : i < l.length
    · have hii : decide ((i : Int) < (l.length : Int)) = true := decide_eq_true (by omega)
      have i0 : (0 : Int) ≤ (i : Int) := by omega
      have i1 : (i : Int) < (l.length : Int) := by omega
      have wi : IntKind.i64.wrap ((i : Int) + 1) = (i : Int) + 1 := wrap_in _ (by omega) (by omega)
      obtain ⟨x, hx⟩ : ∃ x, l[i]? = some x := ⟨_, List.getElem?_eq_getElem hlt⟩
      obtain ⟨b, off, rfl, hbl, e0, e1, e2, e3, e4, e5, e6, e7⟩ := HS.out i x hx
      have rx := HR.out x (List.mem_of_getElem? hx)
      have s1 := sumS_take hx
      have s2 := sumS_le l (i + 1)
      have ge : ∀ j v, w.cell? ⟨b, j, none⟩ = some v → wr.cell? ⟨b, j, none⟩ = some v := fun j v h => (hbx.cell (p := ⟨b, j, none⟩) hbl).trans h
      have k0 := ge _ _ e0
      have k1 := ge _ _ e1
      have k2 := ge _ _ e2
      have k3 := ge _ _ e3
      have k4 := ge _ _ e4
      have k5 := ge _ _ e5
      have k6 := ge _ _ e6
      have k7 := ge _ _ e7
      clear ge e0 e1 e2 e3 e4 e5 e6 e7 hbx hP hx
      obtain ⟨kind, on, a, b', s, ae, ne, ce, ar, nr, cr, ac, nc, cc⟩ := x
      simp only at k0 k1 k2 k3 k4 k5 k6 k7 rx s1
      by_cases hk : kind = 1 ∨ kind = 2 ∨ kind = 3 ∨ kind = 4 ∨ kind = 9
      · obtain ⟨N, ims, zs, ts, n, vim, vsc, vts, vnt, hW, q1, q2, q3, q4, q5, q6, q7⟩ := HP.out
        have ST := hide (step_any N (w.heap.size + 1) w.heap.size ims zs ts n vim vsc vts vnt kind on a b' s ae ar ac ne ce nr cr nc cc wr hW (by omega) (by omega) (by omega) (by omega) (by omega) q7 rx.2.1 rx.2.2 rx.1 hk)
        have Q6 := hide q6
        have Q7 := hide q7
        clear hW HP
        have STEP : Hid (∀ (e : Ending) (w2 : World), RetSt (N + s.size) (w.heap.size + 1) w.heap.size ims.length zs.length ts.length ts n ims s wr e w2 → e = .returned (.bool true) ∧ Below w.heap.size w w2 ∧ PI l (w.heap.size + 1) w.heap.size (i + 1) w2) := by
          rintro e w2 ⟨rfl, hlo, ims', zs', ts', n', vim', vsc', vts', vnt', hW', a1, a2, a3, a4, a5, a6⟩
          exact ⟨rfl, BX.out.trans hlo, _, _, _, _, _, _, _, _, _, hW', by omega, by omega, by omega, by omega, ⟨a4.1, by omega⟩, fun y hy => (a5 y hy).elim (fun h => Q6.out y h) id, fun t ht => (a6 t ht).elim (fun h => Q7.out t h) (fun h => by rw [h]; omega)⟩
        clear q6 q7 sz
        rcases hk with rfl | rfl | rfl | rfl | rfl
        all_goals
          go_wp2_with fail
          refine ST.out.mono ?_
          clear ST k0 k1 k2 k3 k4 k5 k6 k7
          intro e w2 hst
          obtain ⟨rfl, hb2, hP2⟩ := STEP.out e w2 hst
          clear STEP hst
          obtain ⟨N2, ims2, zs2, ts2, n2, vim2, vsc2, vts2, vnt2, hW2, p1, p2, p3, p4, p5, p6, p7⟩ := hP2
          have LK := hide (looks_any N2 (w.heap.size + 1) w.heap.size ims2 zs2 ts2 n2 vim2 vsc2 vts2 vnt2 w2 hW2 p6 (by omega))
          have B2 := hide hb2
          have H2 := hide hW2
          have P6 := hide p6
          have P7 := hide p7
          have c2 := blk_cell (j := 2) hW2.q.w rfl
          clear hb2 hW2 p6 p7
          go_wp2_with fail
          refine LK.out.mono ?_
          clear LK c2
          rintro e w3 ⟨rfl, hb3⟩
          have B3 := hide (bel0 B2.out hb3)
          have P3 : Hid (PI l (w.heap.size + 1) w.heap.size (i + 1) w3) := ⟨_, _, _, _, _, _, _, _, _, H2.out.below hb3, p1, p2, p3, p4, p5, P6.out, P7.out⟩
          clear hb3
          go_wp2
          go_roundg (l.length - (i + 1))
          case measure => omega
          case rel => exact ⟨i + 1, by omega, by go_num, rfl, B3.out, P3.out⟩
      · have P3 : Hid (PI l (w.heap.size + 1) w.heap.size (i + 1) wr) := by
          obtain ⟨N, ims, zs, ts, n, vim, vsc, vts, vnt, hW, q1, q2, q3, q4, q5, q6, q7⟩ := HP.out
          exact ⟨_, _, _, _, _, _, _, _, _, hW, by omega, by omega, by omega, by omega, by omega, q6, q7⟩
        have n1 : (kind != 1) = true := by simp; omega
        have n9 : (kind != 9) = true := by simp; omega
        by_cases hk1 : kind < 1
        · have d1 : decide (kind < 1) = true := decide_eq_true hk1
          go_wp2
          go_roundg (l.length - (i + 1))
          case measure => omega
          case rel => exact ⟨i + 1, by omega, by go_num, rfl, BX.out, P3.out⟩
        · have d1 : decide (kind < 1) = false := decide_eq_false hk1
          have d4 : decide (4 < kind) = true := decide_eq_true (by omega)
          go_wp2
          go_roundg (l.length - (i + 1))
          case measure => omega
          case rel => exact ⟨i + 1, by omega, by go_num, rfl, BX.out, P3.out⟩
    · have hii : decide ((i : Int) < (l.length : Int)) = false := decide_eq_false (by omega)
      clear hbx hP
      go_wp2
      go_ret
      exact ⟨rfl, BX.out⟩

end Go.Proofs.YtmccnmgaoppogaaGreat

namespace Go.Proofs.YtmccnmgaoppogaaGreat
open Go.ChangeShapes Go.WideShapes Go.ChangeAt Go.RowKit Go.Deep Go.Joins

set_option maxHeartbeats 1000000 in
theorem scans_any (v : Value) (l : List Sop) (w : World) (hS : Sops w v l) (hR : SopR l) (hb : sumS l ≤ 1048576) (hl : l.length ≤ 1048576) :
    Calls Tryz.prog 3 #[v] w (RetV (.bool true) w) := by
  have PL := hide (plays_any v l w hS hR hb hl)
  obtain ⟨ao, cap, rfl, l1, l2, HSx⟩ := hS
  clear HSx
  go_enter Tryz.func3, Tryz.ntmps3
  go_wp2_with fail
  refine PL.out.mono ?_
  clear PL
  rintro e w' ⟨rfl, hb⟩
  have HB := hide hb
  clear hb
  go_wp2
  go_ret
  exact ⟨rfl, HB.out⟩

theorem Tryz.own : ownKnob Tryz.prog.godebug = none := by kernel_rfl
theorem Tryz.laidOut : laidOutB Tryz.prog = true := by kernel_rfl
theorem Tryz.cells3 : Tryz.prog.cellsOf 3 = 1 := by kernel_rfl
theorem Tryz.cells9 : Tryz.prog.cellsOf 9 = 1 := by kernel_rfl
theorem Tryz.cells43 : Tryz.prog.cellsOf 43 = 3 := by kernel_rfl
theorem Tryz.cells31 : Tryz.prog.cellsOf 31 = 1 := by kernel_rfl
theorem Tryz.cells40 : Tryz.prog.cellsOf 40 = 1 := by kernel_rfl
theorem Tryz.cells41 : Tryz.prog.cellsOf 41 = 1 := by kernel_rfl
theorem Tryz.cells45 : Tryz.prog.cellsOf 45 = 8 := by kernel_rfl

theorem rng_wf {n : Int} (h : (Lit.int .i64 n).wf = true) : Rng n := by
  simp only [Lit.wf, Bool.and_eq_true, decide_eq_true_eq] at h
  exact h
theorem bulk_append {H : Type} (l r : List (DataW H)) : Rows.uptoBulkAll (l ++ r) = Rows.uptoBulkAll l + Rows.uptoBulkAll r := by
  induction l with
  | nil => simp [Rows.uptoBulkAll]
  | cons x l ih => simp only [List.cons_append, Rows.uptoBulkAll, ih]; omega
theorem bulk_small {H : Type} {l : List (DataW H)} (hk : Rows.uptoSmall H l = true) : Rows.uptoBulkAll l ≤ 1048576 := of_decide_eq_true hk
theorem len3 {α : Type} (l : List α) (h : l.length = 3) : ∃ a b c, l = [a, b, c] := by
  match l, h with
  | [a, b, c], _ => exact ⟨a, b, c, rfl⟩
theorem len6 {α : Type} (l : List α) (h : l.length = 6) : ∃ a b c d e f, l = [a, b, c, d, e, f] := by
  match l, h with
  | [a, b, c, d, e, f], _ => exact ⟨a, b, c, d, e, f, rfl⟩
theorem len8 {α : Type} (l : List α) (h : l.length = 8) : ∃ a b c d e f g i, l = [a, b, c, d, e, f, g, i] := by
  match l, h with
  | [a, b, c, d, e, f, g, i], _ => exact ⟨a, b, c, d, e, f, g, i, rfl⟩
theorem pick_lt {α : Type} {n : Nat} {p : Nat → α → Prop} (h : ∀ i, i < n → ∃ x, p i x) (d : α) : ∃ f : Nat → α, ∀ i, i < n → p i (f i) := by
  classical
  refine ⟨fun i => if hi : i < n then Classical.choose (h i hi) else d, fun i hi => ?_⟩
  simp only [dif_pos hi]
  exact Classical.choose_spec (h i hi)

section
variable {H : Type} {enc : TypeId × Value → H} {W : World} {spare : Nat → Bool} {held : Bool}

theorem slice_form {t e : TypeId} {fuel : Nat} {v : Value} {x : DataW H × List MemPlace} (ht : Tryz.prog.underlying t = some (.slice e)) (h : DataW.trod enc Tryz.prog W 0 spare held fuel t [v] = some x) : ∃ ao n c, v = .slice ao n c := by
  rcases open_slice ht h with ⟨hcs, _⟩ | ⟨a, len, cap, m, n, D, Pl, hcs, _⟩
  · exact ⟨_, _, _, (List.cons.inj hcs).1⟩
  · exact ⟨_, _, _, (List.cons.inj hcs).1⟩

def sop0 : Sop := ⟨0, 0, 0, 0, ⟨#[]⟩, none, 0, 0, none, 0, 0, none, 0, 0⟩

/-- one step -/
theorem op_in {fuel : Nat} {cs : List Value} {x : DataW H × List MemPlace} (h : DataW.trod enc Tryz.prog W 0 spare held fuel 45 cs = some x) (hlen : cs.length = 8) :
    ∃ o : Sop, cs = [.int .i64 o.kind, .int .i64 o.on, .int .i64 o.a, .int .i64 o.b, .string o.s, .slice o.ae o.ne o.ce, .slice o.ar o.nr o.cr, .slice o.ac o.nc o.cc] ∧ Rng o.on ∧ Rng o.a ∧ Rng o.b ∧ o.s.size + 1 ≤ Rows.uptoBulk x.1 := by
  obtain ⟨xs, k, -, hx, -, hxl, hf⟩ := DataW.trod_struct Tryz.underlying45 h
  have hxl' : xs.length = 6 := hxl
  obtain ⟨y0, y1, y2, y3, y4, y5, rfl⟩ := len6 xs hxl'
  obtain ⟨v0, v1, v2, v3, v4, v5, v6, v7, rfl⟩ := len8 cs hlen
  clear hxl hxl' hlen
  have hf0 : DataW.trod enc Tryz.prog W 0 spare held k 3 ((List.drop 0 [v0, v1, v2, v3, v4, v5, v6, v7]).take (Tryz.prog.cellsOf 3)) = some y0 := hf 0 _ rfl
  have hf1 : DataW.trod enc Tryz.prog W 0 spare held k 3 ((List.drop 1 [v0, v1, v2, v3, v4, v5, v6, v7]).take (Tryz.prog.cellsOf 3)) = some y1 := hf 1 _ rfl
  have hf2 : DataW.trod enc Tryz.prog W 0 spare held k 3 ((List.drop 2 [v0, v1, v2, v3, v4, v5, v6, v7]).take (Tryz.prog.cellsOf 3)) = some y2 := hf 2 _ rfl
  have hf3 : DataW.trod enc Tryz.prog W 0 spare held k 3 ((List.drop 3 [v0, v1, v2, v3, v4, v5, v6, v7]).take (Tryz.prog.cellsOf 3)) = some y3 := hf 3 _ rfl
  have hf4 : DataW.trod enc Tryz.prog W 0 spare held k 9 ((List.drop 4 [v0, v1, v2, v3, v4, v5, v6, v7]).take (Tryz.prog.cellsOf 9)) = some y4 := hf 4 _ rfl
  have hf5 : DataW.trod enc Tryz.prog W 0 spare held k 43 ((List.drop 5 [v0, v1, v2, v3, v4, v5, v6, v7]).take (Tryz.prog.cellsOf 43)) = some y5 := hf 5 _ rfl
  rw [Tryz.cells3] at hf0 hf1 hf2 hf3
  rw [Tryz.cells9] at hf4
  rw [Tryz.cells43] at hf5
  obtain ⟨n0, c0, -, w0⟩ := DataW.trod_int Tryz.underlying3 (hf0 : DataW.trod enc Tryz.prog W 0 spare held k 3 [v0] = some y0)
  obtain ⟨n1, c1, -, w1⟩ := DataW.trod_int Tryz.underlying3 (hf1 : DataW.trod enc Tryz.prog W 0 spare held k 3 [v1] = some y1)
  obtain ⟨n2, c2, -, w2⟩ := DataW.trod_int Tryz.underlying3 (hf2 : DataW.trod enc Tryz.prog W 0 spare held k 3 [v2] = some y2)
  obtain ⟨n3, c3, -, w3⟩ := DataW.trod_int Tryz.underlying3 (hf3 : DataW.trod enc Tryz.prog W 0 spare held k 3 [v3] = some y3)
  obtain ⟨s, c4, e4, w4⟩ := DataW.trod_string Tryz.underlying9 (hf4 : DataW.trod enc Tryz.prog W 0 spare held k 9 [v4] = some y4)
  obtain ⟨zs, k', -, -, -, hzl, hg⟩ := DataW.trod_struct Tryz.underlying43 (hf5 : DataW.trod enc Tryz.prog W 0 spare held k 43 [v5, v6, v7] = some y5)
  have hzl' : zs.length = 3 := hzl
  obtain ⟨z0, z1, z2, rfl⟩ := len3 zs hzl'
  have hg0 : DataW.trod enc Tryz.prog W 0 spare held k' 31 ((List.drop 0 [v5, v6, v7]).take (Tryz.prog.cellsOf 31)) = some z0 := hg 0 _ rfl
  have hg1 : DataW.trod enc Tryz.prog W 0 spare held k' 40 ((List.drop 1 [v5, v6, v7]).take (Tryz.prog.cellsOf 40)) = some z1 := hg 1 _ rfl
  have hg2 : DataW.trod enc Tryz.prog W 0 spare held k' 41 ((List.drop 2 [v5, v6, v7]).take (Tryz.prog.cellsOf 41)) = some z2 := hg 2 _ rfl
  rw [Tryz.cells31] at hg0
  rw [Tryz.cells40] at hg1
  rw [Tryz.cells41] at hg2
  obtain ⟨ae, ne, ce, rfl⟩ := slice_form Tryz.underlying31 (hg0 : DataW.trod enc Tryz.prog W 0 spare held k' 31 [v5] = some z0)
  obtain ⟨ar, nr, cr, rfl⟩ := slice_form Tryz.underlying40 (hg1 : DataW.trod enc Tryz.prog W 0 spare held k' 40 [v6] = some z1)
  obtain ⟨ac, nc, cc, rfl⟩ := slice_form Tryz.underlying41 (hg2 : DataW.trod enc Tryz.prog W 0 spare held k' 41 [v7] = some z2)
  have q0 := (List.cons.inj c0).1
  have q1 := (List.cons.inj c1).1
  have q2 := (List.cons.inj c2).1
  have q3 := (List.cons.inj c3).1
  have q4 := (List.cons.inj c4).1
  subst q0 q1 q2 q3 q4
  refine ⟨⟨n0, n1, n2, n3, s, ae, ne, ce, ar, nr, cr, ac, nc, cc⟩, rfl, rng_wf w1, rng_wf w2, rng_wf w3, ?_⟩
  rw [hx]
  have e : Rows.uptoBulk (y4.1) = s.size + 1 := by rw [e4]; simp [Rows.uptoBulk]
  simp only [Rows.uptoBulk, Rows.uptoBulkAll, List.map_cons, List.map_nil, e]
  omega

theorem ops_in {fuel : Nat} {v : Value} {x : DataW H × List MemPlace} (h : DataW.trod enc Tryz.prog W 0 spare held fuel 22 [v] = some x) :
    ∃ l, Sops W v l ∧ SopR l ∧ sumS l + l.length ≤ Rows.uptoBulk x.1 := by
  rcases open_slice Tryz.underlying22 h with ⟨hcs, hx⟩ | ⟨a, len, cap, m, n, D, Pl, hcs, _, hl, hm, hmm, hx, hcell⟩
  · simp only [List.cons.injEq, and_true] at hcs
    subst hcs
    exact ⟨[], ⟨none, 0, rfl, Nat.le_refl _, by omega, fun i x hi => by simp at hi⟩, fun x hx => by simp at hx, by simp [sumS]⟩
  · simp only [List.cons.injEq, and_true] at hcs
    subst hcs
    have hlm : len ≤ m := by rw [hmm]; split <;> omega
    unfold maxLen at hm
    have each : ∀ i, i < len → ∃ o : Sop, (∀ j u, [Value.int .i64 o.kind, .int .i64 o.on, .int .i64 o.a, .int .i64 o.b, .string o.s, .slice o.ae o.ne o.ce, .slice o.ar o.nr o.cr, .slice o.ac o.nc o.cc][j]? = some u → W.cell? (a.add (i * 8 + j)) = some u) ∧ (Rng o.on ∧ Rng o.a ∧ Rng o.b) ∧ o.s.size + 1 ≤ Rows.uptoBulk (D i) := by
      intro i hi
      obtain ⟨cs', h1, h2⟩ := hcell i (by omega)
      rw [Tryz.cells45] at h1
      obtain ⟨_, hlen, hc⟩ := World.cells?_some h1
      obtain ⟨o, rfl, r1, r2, r3, r4⟩ := op_in h2 hlen
      refine ⟨o, fun j u hj => ?_, ⟨r1, r2, r3⟩, r4⟩
      have hjl : j < 8 := by
        have := (List.getElem?_eq_some_iff.1 hj).1
        simpa using this
      have e := hc j hjl
      rw [add_add] at e
      rw [e]
      exact hj
    obtain ⟨f, hf⟩ := pick_lt each sop0
    have hget : ∀ i x, ((List.range len).map f)[i]? = some x → i < len ∧ x = f i := by
      intro i x hx
      have hil : i < len := by
        have := (List.getElem?_eq_some_iff.1 hx).1
        simpa using this
      rw [List.getElem?_map, List.getElem?_range hil] at hx
      exact ⟨hil, (Option.some.inj hx).symm⟩
    refine ⟨(List.range len).map f, ⟨some a, cap, by simp, by simpa using hl, hm, fun i x hi => ?_⟩, fun x hx => ?_, ?_⟩
    · obtain ⟨hil, rfl⟩ := hget i x hi
      have g := (hf i hil).1
      obtain ⟨b, off, spot⟩ := a
      have hspot : spot = none := by
        have := World.cell?_spot ((hf 0 (by omega)).1 0 _ rfl)
        simpa [Addr.add] using this
      subst hspot
      simp only [add_eq] at g
      exact ⟨b, off, rfl, World.block_lt_of_cell? W _ (g 0 _ rfl), g 0 _ rfl, g 1 _ rfl, g 2 _ rfl, g 3 _ rfl, g 4 _ rfl, g 5 _ rfl, g 6 _ rfl, g 7 _ rfl⟩
    · obtain ⟨i, hi, rfl⟩ := List.mem_map.1 hx
      exact (hf i (List.mem_range.1 hi)).2.1
    · rw [hx]
      have key : ∀ k, k ≤ len → sumS ((List.range k).map f) + k ≤ Rows.uptoBulkAll ((List.range k).map D) := by
        intro k
        induction k with
        | zero => intro _; simp [sumS]
        | succ k ih =>
          intro hk
          have ih' := ih (by omega)
          have g := (hf k (by omega)).2.2
          rw [List.range_succ, List.map_append, List.map_append, bulk_append]
          unfold sumS at ih' ⊢
          rw [List.map_append, List.sum_append]
          simp [Rows.uptoBulkAll] at g ⊢
          simp at ih'
          omega
      have := key len (Nat.le_refl _)
      simp only [Rows.uptoBulk, List.length_map, List.length_range]
      omega
end

end Go.Proofs.YtmccnmgaoppogaaGreat

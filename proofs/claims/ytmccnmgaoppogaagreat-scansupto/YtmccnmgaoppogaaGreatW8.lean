/-
  The walks: bytes that are written. (weirref)
-/
import Derived.Test.YtmccnmgaoppogaaGreatMem
import Derived.Laws.BytesArg
namespace Go.Proofs.YtmccnmgaoppogaaGreat
open Go.RowKit

theorem Tryz.info5 : (Tryz.prog.info? 5).map (fun i => (i.zero, i.size, i.bytes)) = some (some (.int .u8 0), 1, 1) := by kernel_rfl

def u8s (xs : List Int) : List Value := xs.map (Value.int .u8)
theorem u8s_append (xs ys : List Int) : u8s (xs ++ ys) = u8s xs ++ u8s ys := by simp [u8s]

/-- bytes that the call owns, from block B on -/
def Bytes (B : Nat) (w : World) (v : Value) (xs : List Int) : Prop := w.ownsRow B 5 1 v xs.length (u8s xs)

theorem cell_list {w : World} {xs : List Value} {t : TypeId} {n : Nat} (hn : n = w.heap.size) (j : Nat) (u : Value) (h : xs[j]? = some u) : (w.alloc (.cells xs.toArray t)).cell? ((⟨n, 0, none⟩ : Addr).add j) = some u := by
  subst hn
  have : (w.alloc (.cells xs.toArray t)).cell? ⟨w.heap.size, j, none⟩ = some u := by
    rw [World.cell?_alloc_mark]; simpa using h
  by_cases hj : j = 0
  · subst hj; simpa [Addr.add] using this
  · simpa [Addr.add, hj] using this

theorem Bytes.on {B : Nat} {w : World} {v : Value} {xs ys : List Int} {n : Nat} (hn : n = xs.length + ys.length) (h : w.ownsRow B 5 1 v n (u8s xs ++ u8s ys)) : Bytes B w v (xs ++ ys) := by
  subst hn
  unfold Bytes
  rw [u8s_append, List.length_append]
  exact h

theorem own_lit {B : Nat} {w : World} {xs : List Int} {n g : Nat} (hB : B ≤ w.heap.size) (hn : n = xs.length) (hm : n ≤ 1000000) (hg : g = w.heap.size) : Bytes B (w.alloc (.cells (u8s xs).toArray 5)) (.slice (some ⟨g, 0, none⟩) n n) xs := by
  subst hn; subst hg
  refine ⟨by simp [u8s], .inr ⟨w.heap.size, xs.length, (u8s xs).toArray, rfl, hB, heap_alloc_new w _, Nat.le_refl _, by unfold maxLen; omega, by simp [u8s], ?_⟩⟩
  rw [List.take_of_length_le (by simp [u8s])]

/-- a text comes back -/
def RetStr (xs : List Int) (w : World) (e : Ending) (w' : World) : Prop := e = .returned (.string (strOfNums xs)) ∧ Below w.heap.size w w'

theorem Bytes.str {B : Nat} {w : World} {v : Value} {xs : List Int} (h : Bytes B w v xs) (hx : 0 < xs.length) :
    ∃ g cap, v = .slice (some ⟨g, 0, none⟩) xs.length cap ∧ (convert 152 9 (.slice (some ⟨g, 0, none⟩) xs.length cap)).run Tryz.prog w = .ok (.string (strOfNums xs)) w := by
  obtain ⟨ao, cap, h1, _, _, h4⟩ := own_read h
  obtain ⟨b, rfl, _, _, hc⟩ := h4 0 (by omega)
  refine ⟨b, cap, h1, run_convert_bytes_arg w 152 5 Tryz.underlying152 Tryz.underlying5 b 0 xs.length cap xs rfl (fun i hi => ?_) 9 Tryz.underlying9⟩
  rw [Nat.zero_add]
  exact hc i _ (by simp [u8s, List.getElem?_eq_getElem hi])

def RetBytes (B : Nat) (xs : List Int) (w : World) (e : Ending) (w' : World) : Prop := ∃ v, e = .returned v ∧ Bytes B w' v xs ∧ Below B w w'

set_option maxHeartbeats 400000 in
theorem two_any (B : Nat) (v : Value) (xs : List Int) (n : Int) (w : World) (hv : Bytes B w v xs) (hB : B ≤ w.heap.size) (hx : xs.length ≤ 1000000) (hn0 : 0 ≤ n) (hn : n ≤ 65535) :
    Calls Tryz.prog 70 #[v, .int .i64 n] w (RetBytes B (xs ++ [n % 256, n / 256]) w) := by
  obtain ⟨i0, hi, hz0, hz1, hz2⟩ := info_parts Tryz.info5
  have HV := hide hv
  clear hv
  go_enter Tryz.func70, Tryz.ntmps70
  go_wp2_with (first | (at_builtin; refine wpList_append_own _ rfl (.tmp 5) (.tmp 9) 152 rfl B 5 i0 (.int .u8 0) 1 1 Tryz.underlying152 hi hz0 hz1 hz2 rfl (by decide) v xs.length (u8s xs) rfl (World.ownsRow.alloc HV.out _) ⟨w.heap.size, 0, none⟩ 1 1 (u8s [n % 256]) rfl rfl (cell_list rfl) (by intro u hu; simp [u8s] at hu; subst hu; rfl) (by unfold maxLen; omega) (by omega) (by simp; omega) ?_; intro v1 w1 hown1 hgrow1 _) | (at_builtin; refine wpList_append_own _ rfl (.tmp 11) (.tmp 15) 152 rfl B 5 i0 (.int .u8 0) 1 1 Tryz.underlying152 hi hz0 hz1 hz2 rfl (by decide) v1 (xs.length + 1) (u8s xs ++ u8s [n % 256]) rfl (World.ownsRow.alloc hown1 _) ⟨w1.heap.size, 0, none⟩ 1 1 (u8s [n / 256]) rfl rfl (cell_list rfl) (by intro u hu; simp [u8s] at hu; subst hu; rfl) (by unfold maxLen; omega) (by omega) (by have := hgrow1.size; simp at this ⊢; omega) ?_; intro v2 w2 hown2 hgrow2 _))
  go_ret
  refine ⟨v2, rfl, ?_, ?_⟩
  · refine Bytes.on (ys := [n % 256, n / 256]) rfl ?_
    simpa [u8s] using hown2
  · have hs1 := hgrow1.size
    have lt1 := World.ownsRow.lt HV.out
    have lt2 := World.ownsRow.lt hown1
    refine Below.grown (Below.alloc (Below.grown (Below.alloc (Below.refl _ _) hB _) hgrow1 (by simp; omega) (fun k hk => (lt1 k hk).1)) (by simp at hs1; omega) _) hgrow2 (by simp at hs1 ⊢; omega) (fun k hk => (lt2 k hk).1)

/-- bytes that are written, and a block of another type beside them -/
structure St (B : Nat) (W0 w : World) (v : Value) (xs : List Int) (b : Nat) (C : Array Value) (t : TypeId) : Prop where
  bel : Below B W0 w
  byt : Bytes B w v xs
  loc : w.heap[b]? = some (.cells C t (0, 0))
  sz : B ≤ w.heap.size

theorem loc_cell {w : World} {b : Nat} {C : Array Value} {t : TypeId} (h : w.heap[b]? = some (.cells C t (0, 0))) {j : Nat} {u : Value} (hj : C[j]? = some u) : w.cell? ⟨b, j, none⟩ = some u := by
  simp [World.cell?, h, hj]

theorem St.app {B : Nat} {W0 w w1 : World} {v v1 : Value} {xs ys : List Int} {b n : Nat} {C : Array Value} {t : TypeId} {o : Obj} (s : St B W0 w v xs b C t) (ht : t ≠ 5) (hn : n = xs.length + ys.length)
    (h : w1.ownsRow B 5 1 v1 n (u8s xs ++ u8s ys)) (hg : (w.alloc o).grownBy w1 v.ownBlock) : St B W0 w1 v1 (xs ++ ys) b C t := by
  have hlt := World.ownsRow.lt s.byt
  have hsz := hg.size
  simp only [World.size_alloc] at hsz
  have hbl : b < w.heap.size := (Array.getElem?_eq_some_iff.1 s.loc).1
  have hne : some b ≠ v.ownBlock := by
    intro e
    rcases s.byt.2 with ⟨hv, _⟩ | ⟨g, cap, cur, hv, _, hgg, _⟩
    · rw [hv] at e; simp [Value.ownBlock] at e
    · rw [hv] at e
      simp [Value.ownBlock] at e
      subst e
      rw [s.loc] at hgg
      simp at hgg
      exact ht hgg.2
  refine ⟨(s.bel.alloc s.sz o).grown hg (by simp only [World.size_alloc]; have := s.sz; omega) (fun k hk => (hlt k hk).1), Bytes.on hn h, ?_, by have := s.sz; omega⟩
  rw [hg.block b (by simp only [World.size_alloc]; omega) hne]
  rw [heap_alloc_old w o hbl]
  exact s.loc

theorem St.step {B : Nat} {W0 w : World} {v : Value} {xs : List Int} {b : Nat} {C : Array Value} {t : TypeId} (s : St B W0 w v xs b C t) (o : Obj) : St B W0 (w.alloc o) v xs b C t :=
  ⟨s.bel.alloc s.sz o, World.ownsRow.alloc s.byt o, by rw [heap_alloc_old w o (Array.getElem?_eq_some_iff.1 s.loc).1]; exact s.loc, by have := s.sz; simp only [World.size_alloc]; omega⟩

theorem St.made {B : Nat} {W0 w1 : World} {v : Value} {b : Nat} {C : Array Value} {t : TypeId} (hg : W0.grownBy w1 none) (hB : B ≤ W0.heap.size) (hown : w1.ownsRow B 5 1 v 0 []) (hloc : W0.heap[b]? = some (.cells C t (0, 0))) : St B W0 w1 v [] b C t := by
  have hsz := hg.size
  have hbl : b < W0.heap.size := (Array.getElem?_eq_some_iff.1 hloc).1
  refine ⟨(Below.refl _ _).grown hg hB (fun k hk => by cases hk), hown, ?_, by omega⟩
  rw [hg.block b hbl (by simp)]
  exact hloc

end Go.Proofs.YtmccnmgaoppogaaGreat

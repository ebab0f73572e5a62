/-
  The walks: which instructions follow none. (program)
-/
import Derived.Test.YtmccnmgaoppogaaGreatW4a
import Derived.Test.YtmccnmgaoppogaaGreatPure4
namespace Go.Proofs.YtmccnmgaoppogaaGreat
open Go.RowKit

/-- a list of numbers with room for n -/
def FreeAt (B : Nat) (wr : World) (g n : Nat) (q : List Nat) : Prop := wr.ownsRow B 3 1 (.slice (some ⟨g, 0, none⟩) q.length n) q.length (intCells (Pure.nats q))

theorem cell_new {w : World} {x : Value} {t : TypeId} (j : Nat) (u : Value) (h : [x][j]? = some u) : (w.alloc (.cells #[x] t)).cell? ((⟨w.heap.size, 0, none⟩ : Addr).add j) = some u := by
  match j, h with
  | 0, h => simp at h; subst h; simp [Addr.add]

theorem FreeAt.cell {B : Nat} {wr : World} {g n : Nat} {q : List Nat} (h : FreeAt B wr g n q) {t : Nat} (ht : t < q.length) : wr.cell? ⟨g, t, none⟩ = some (.int .i64 ((Pure.qg q t : Nat) : Int)) := by
  have := h.cells (g := g) rfl t _ (intCells_get (Pure.nats q) t (by rw [Pure.nats_len]; exact ht))
  have e : (Pure.nats q).getD t 0 = ((Pure.qg q t : Nat) : Int) := Pure.nats_get q t
  rw [e] at this
  by_cases hj : t = 0
  · subst hj; simpa [Addr.add] using this
  · simpa [Addr.add, hj] using this

theorem FreeAt.snoc {B : Nat} {wr : World} {g n k : Nat} {q : List Nat} {a : Int} (ha : 0 ≤ a) (hk : k = q.length + 1) (h : wr.ownsRow B 3 1 (.slice (some ⟨g, 0, none⟩) k n) k (intCells (Pure.nats q) ++ [.int .i64 a])) : FreeAt B wr g n (q ++ [a.toNat]) := by
  unfold FreeAt
  rw [Pure.nats_snoc q a ha]
  subst hk
  simpa [intCells] using h

def RetFree (L : List Int) (n : Nat) (w : World) (e : Ending) (w' : World) : Prop := ∃ g, e = .returned (.slice (some ⟨g, 0, none⟩) (Pure.fr L n).length n) ∧ Below w.heap.size w w' ∧ FreeAt w.heap.size w' g n (Pure.fr L n)

set_option maxHeartbeats 1000000 in
theorem unled_any (ao : Option Addr) (cap : Nat) (L : List Int) (w : World) (hv : Ints w (.slice ao L.length cap) L) (hn : L.length ≤ 50000) :
    Calls Tryz.prog 137 #[.slice ao L.length cap] w (RetFree L L.length w) := by
  obtain ⟨i0, hi, hz0, hz1, hz2⟩ := info_parts Tryz.info3
  obtain ⟨ao', cap', he, hc1, hc2, hread⟩ := hv.read
  simp only [Value.slice.injEq, true_and] at he
  obtain ⟨rfl, rfl⟩ := he
  clear hv
  go_enter Tryz.func137, Tryz.ntmps137
  go_wp2_with (at_make; refine wpList_make_own _ rfl _ _ 31 rfl w.heap.size 3 i0 (.int .i64 0) 1 Tryz.underlying31 hi hz0 hz1 _ _ _ L.length rfl rfl rfl (by rw [hz2]; omega) (by unfold maxLen; omega) (Nat.le_refl _) ?_; intro w1 hown hgrow)
  have hbel1 : Below w.heap.size w w1 := (Below.refl _ _).grown hgrow (Nat.le_refl _) (fun k h => by cases h)
  have HO : Hid (FreeAt w.heap.size w1 w.heap.size L.length (Pure.fr L 0)) := hown
  clear hown hgrow
  go_loopw [3, 11] (fun f i wr => ∃ k : Nat, k ≤ L.length ∧ i = .int .i64 k ∧ f = .slice (some ⟨w.heap.size, 0, none⟩) (Pure.fr L k).length L.length ∧ Below w.heap.size w wr ∧ FreeAt w.heap.size wr w.heap.size L.length (Pure.fr L k)) (fun _ i _ => L.length - (intOf i).toNat)
  case atStart => exact ⟨0, Nat.zero_le _, rfl, rfl, hbel1, HO.out⟩
  case round =>
    clear HO hbel1
    obtain ⟨k, hk, rfl, rfl, hbel, hF⟩ := hrel
    by_cases hlt : k < L.length
    · obtain ⟨b, off, rfl, hb, hc0⟩ := hread k hlt
      clear hread
      have g0 := (hbel.cell (p := ⟨b, off + k, none⟩) hb).trans hc0
      clear hc0
      have hfl := Pure.fr_len L k
      cases hz : (Pure.ig L k == 0)
      · go_wp2
        go_roundw
        case rel => exact ⟨k + 1, by omega, by go_num, by rw [Pure.fr_no L k hz], hbel, by rw [Pure.fr_no L k hz]; exact hF⟩
        case measure => simp [intOf]; omega
      · have HF := hide hF
        clear hF
        go_wp2_with (at_builtin; refine wpList_append_fits _ rfl (.tmp 18) (.tmp 20) 31 rfl w.heap.size 3 i0 1 Tryz.underlying31 hi hz1 w.heap.size (Pure.fr L k).length L.length (intCells (Pure.nats (Pure.fr L k))) rfl (World.ownsRow.alloc HF.out _) ⟨wr.heap.size, 0, none⟩ 1 1 [.int .i64 (k : Int)] rfl rfl cell_new (by intro u hu; simp at hu; subst hu; rfl) (by omega) ?_; intro w2 hown2 hgrow2)
        have hF2 := FreeAt.snoc (by omega) rfl hown2
        rw [Int.toNat_natCast, ← Pure.fr_yes L k hz] at hF2
        have hbel2 : Below w.heap.size w w2 := (hbel.alloc hbel.size _).grown hgrow2 (by have := hbel.size; simp; omega) (fun k' h => by simp at h; omega)
        have hlen2 : (Pure.fr L (k + 1)).length = (Pure.fr L k).length + 1 := by rw [Pure.fr_yes L k hz]; simp
        have HL := hide hlen2
        clear hown2 hgrow2 hlen2
        go_wp2
        go_roundw
        case rel => exact ⟨k + 1, by omega, by go_num, by rw [HL.out], hbel2, hF2⟩
        case measure => simp [intOf]; omega
    · have hkl : k = L.length := by omega
      subst hkl
      go_wp2
      go_ret
      exact ⟨_, rfl, hbel, hF⟩

end Go.Proofs.YtmccnmgaoppogaaGreat

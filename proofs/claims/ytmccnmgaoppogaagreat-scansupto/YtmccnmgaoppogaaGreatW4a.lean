/-
  The walks: how often each instruction follows one; which follow none. (program)
-/
import Derived.Test.YtmccnmgaoppogaaGreatMem
import Derived.Test.YtmccnmgaoppogaaGreatPure3
namespace Go.Proofs.YtmccnmgaoppogaaGreat
open Go.RowKit

theorem Tryz.info3 : (Tryz.prog.info? 3).map (fun i => (i.zero, i.size, i.bytes)) = some (some (.int .i64 0), 1, 8) := by kernel_rfl

theorem made_ints (n : Nat) : (madeCells (Value.int .i64 0).cells (n * 1)).toList = intCells (List.replicate n 0) := by
  simp only [madeCells, intCells, Value.cells, Nat.mul_one, List.map_replicate]
  rw [List.eq_replicate_iff]
  simp [Nat.mod_one]

theorem intCells_set (L : List Int) (v : Nat) (y : Int) : (intCells L).set v (.int .i64 y) = intCells (L.set v y) := by
  simp [intCells, List.map_set]

/-- the row of counts that a call has made -/
def LeadsAt (w wr : World) (g n : Nat) (L : List Int) : Prop := wr.ownsRow w.heap.size 3 1 (.slice (some ⟨g, 0, none⟩) n n) n (intCells L)

theorem LeadsAt.cell {w wr : World} {g n : Nat} {L : List Int} (h : LeadsAt w wr g n L) {v : Nat} (hv : v < L.length) : wr.cell? ⟨g, v, none⟩ = some (.int .i64 (Pure.ig L v)) := by
  have := h.cells (g := g) rfl v _ (intCells_get L v hv)
  unfold Pure.ig
  by_cases hj : v = 0
  · subst hj; simpa [Addr.add] using this
  · simpa [Addr.add, hj] using this

theorem LeadsAt.frozen {w wr : World} {g n : Nat} {L : List Int} (h : LeadsAt w wr g n L) (v : Nat) : wr.frozen? ⟨g, v, none⟩ = false :=
  World.ownsRow.frozenAt h v

theorem LeadsAt.store {w wr : World} {g n : Nat} {L : List Int} (h : LeadsAt w wr g n L) (v : Nat) (y : Int) : LeadsAt w (wr.setCell ⟨g, v, none⟩ (.int .i64 y)) g n (L.set v y) := by
  have := (World.ownsRow.stored h v (.int .i64 y)).1
  rw [intCells_set] at this
  exact this

def RetLeads (l : List Pure.Ins) (w : World) (e : Ending) (w' : World) : Prop := ∃ g L, e = .returned (.slice (some ⟨g, 0, none⟩) l.length l.length) ∧ Below w.heap.size w w' ∧ LeadsAt w w' g l.length L ∧ Pure.Cnt l L (Pure.tg l (List.range l.length))

set_option maxHeartbeats 1000000 in
theorem countLeads_any (v : Value) (l : List Pure.Ins) (w : World) (hv : Code w v l) (ht : Pure.Tight l) (hn : l.length ≤ 50000) :
    Calls Tryz.prog 136 #[v] w (RetLeads l w) := by
  obtain ⟨i0, hi, hz0, hz1, hz2⟩ := info_parts Tryz.info3
  have HT := hide ht
  clear ht
  obtain ⟨ao, cap, rfl, hc1, hc2, hread⟩ := hv.read
  clear hv
  go_enter Tryz.func136, Tryz.ntmps136
  go_wp2_with (at_make; refine wpList_make_full _ rfl _ _ 31 rfl w.heap.size 3 i0 (.int .i64 0) 1 Tryz.underlying31 hi hz0 hz1 _ _ _ _ l.length rfl rfl rfl rfl (by rw [hz2]; omega) (by unfold maxLen; omega) (Nat.le_refl _) ?_; intro w1 hown hgrow)
  have hbel1 : Below w.heap.size w w1 := (Below.refl _ _).grown hgrow (Nat.le_refl _) (fun k h => by cases h)
  rw [made_ints] at hown
  have HO := hide hown
  clear hown hgrow
  go_loopw [13] (fun i wr => ∃ k : Nat, k ≤ l.length ∧ i = .int .i64 k ∧ Below w.heap.size w wr ∧ ∃ L, LeadsAt w wr w.heap.size l.length L ∧ Pure.Cnt l L (Pure.tg l (List.range k))) (fun i _ => l.length - (intOf i).toNat)
  case atStart => exact ⟨0, Nat.zero_le _, rfl, hbel1, _, HO.out, Pure.cnt_start l⟩
  case round =>
    clear HO hbel1
    obtain ⟨k, hk, rfl, hbel, L, hL, hcnt⟩ := hrel
    have HC := hide hcnt
    clear hcnt
    by_cases hlt : k < l.length
    · obtain ⟨b, off, rfl, hb, hc0, hc1', hc2', hc3'⟩ := hread k hlt
      clear hread
      have g0 := (hbel.cell (p := ⟨b, off + k * 4, none⟩) hb).trans hc0
      have g1 := (hbel.cell (p := ⟨b, off + k * 4 + 1, none⟩) hb).trans hc1'
      have g2 := (hbel.cell (p := ⟨b, off + k * 4 + 2, none⟩) hb).trans hc2'
      have g3 := (hbel.cell (p := ⟨b, off + k * 4 + 3, none⟩) hb).trans hc3'
      clear hc0 hc1' hc2' hc3'
      go_wp2_with fail
      refine (followers_any (Pure.cg l k) k _ (by omega) (by omega)).mono ?_
      rintro e w2 ⟨rfl, hb2⟩
      have hbel2 := bel1 hbel hb2
      have hL2 : LeadsAt w w2 w.heap.size l.length L := own_below (own_below hL ((Below.refl wr.heap.size wr).alloc (Nat.le_refl _) _) (Nat.le_refl _)) hb2 (Nat.le_refl _)
      clear g0 g1 g2 g3 hb2 hL
      generalize hA : Pure.fa (Pure.cg l k) (k : Int) = a
      generalize hB : Pure.fb (Pure.cg l k) = a'
      have HA := hide hA
      have HB := hide hB
      clear hA hB
      go_wp2_with fail
      go_loopw [21] (fun j wq => ∃ jn : Nat, jn ≤ 2 ∧ j = .int .i64 jn ∧ Below w.heap.size w wq ∧ ∃ L', LeadsAt w wq w.heap.size l.length L' ∧ Pure.Cnt l L' (Pure.part l k jn)) (fun j _ => 2 - (intOf j).toNat)
      case atStart => exact ⟨0, by omega, rfl, hbel2, L, hL2, HC.out⟩
      case round =>
        clear hbel2 hL2 HC
        obtain ⟨jn, hjn, rfl, hbelq, L', hLq, hcnt⟩ := hrel
        have HC := hide hcnt
        clear hcnt
        have f0 : ∀ w, (Instr.index 252 (.agg #[.int .i64 a, .int .i64 a']) (.int .i64 0)).run Tryz.prog w = .ok (.int .i64 a) w := fun _ => by kernel_rfl
        have f1 : ∀ w, (Instr.index 252 (.agg #[.int .i64 a, .int .i64 a']) (.int .i64 1)).run Tryz.prog w = .ok (.int .i64 a') w := fun _ => by kernel_rfl
        match jn, hjn with
        | 0, _ =>
          cases hbl : Pure.bel a l.length
          · go_wp2_with (go_at_call 133; refine (below_any _ _ _).mono ?_; rintro e w' ⟨rfl, rfl⟩)
            go_roundw
            case rel => exact ⟨1, by omega, rfl, hbelq, L', hLq, Pure.cnt_no0 HT.out hlt HA.out HC.out hbl⟩
            case measure => simp [intOf]
          · have hlen := HC.out.1
            have hpl := Pure.part_len l k 0
            have hab := Pure.of_bel hbl
            have hbd := HC.out.bd (v := a.toNat) (by omega)
            have hcell := hLq.cell (v := a.toNat) (by omega)
            have hfz := hLq.frozen a.toNat
            clear hlen
            go_wp2_with (go_at_call 133; refine (below_any _ _ _).mono ?_; rintro e w' ⟨rfl, rfl⟩)
            go_roundw
            case rel => exact ⟨1, by omega, rfl, hbelq.setCell (Nat.le_refl _) _, _, hLq.store _ _, Pure.cnt_yes0 HT.out hlt HA.out HC.out hbl⟩
            case measure => simp [intOf]
        | 1, _ =>
          cases hbl : Pure.bel a' l.length
          · go_wp2_with (go_at_call 133; refine (below_any _ _ _).mono ?_; rintro e w' ⟨rfl, rfl⟩)
            go_roundw
            case rel => exact ⟨2, by omega, rfl, hbelq, L', hLq, Pure.cnt_no1 HT.out hlt HB.out HC.out hbl⟩
            case measure => simp [intOf]
          · have hlen := HC.out.1
            have hpl := Pure.part_len l k 1
            have hab := Pure.of_bel hbl
            have hbd := HC.out.bd (v := a'.toNat) (by omega)
            have hcell := hLq.cell (v := a'.toNat) (by omega)
            have hfz := hLq.frozen a'.toNat
            clear hlen
            go_wp2_with (go_at_call 133; refine (below_any _ _ _).mono ?_; rintro e w' ⟨rfl, rfl⟩)
            go_roundw
            case rel => exact ⟨2, by omega, rfl, hbelq.setCell (Nat.le_refl _) _, _, hLq.store _ _, Pure.cnt_yes1 HB.out HC.out hbl⟩
            case measure => simp [intOf]
        | 2, _ =>
          clear f0 f1
          go_wp2
          go_roundw
          case rel => exact ⟨k + 1, by omega, by go_num, hbelq, L', hLq, by rw [← Pure.part_two]; exact HC.out⟩
          case measure => simp [intOf]; omega
    · have hkl : k = l.length := by omega
      subst hkl
      go_wp2
      go_ret
      exact ⟨_, L, rfl, hbel, hL, HC.out⟩

end Go.Proofs.YtmccnmgaoppogaaGreat
